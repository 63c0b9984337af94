/- The walk of LedgerNil. -/
import Derived.Test.YtifjpfalokfhgaaLive
import Derived.OpenShut
namespace Go.Proofs.Ytifjpfalokfhgaa
open Go Go.RowKit Go.OpenShut
set_option linter.unusedVariables false
set_option linter.unusedSimpArgs false
theorem walk_LedgerNil (a0 : Int) (w : World) (w0 : (Lit.int .u64 a0).wf = true) :
    Calls Try.prog 8 #[.int .u64 a0] w fun e w' => e = .returned (.bool true) ∧ Below w.heap.size w w' := by
  obtain ⟨b0, b1⟩ := bounds_u64 w0
  clear w0
  have heq : Hid (∀ w : World, (Op.equalIn 10000 36 (.agg #[.int .u64 0, .int .u64 0, .int .u64 0]) (.agg #[.int .u64 0, .int .u64 0, .int .u64 0])).run Try.prog w = .ok true w) := Lib.hid (fun w => by kernel_rfl)
  have hd : ∀ (b : Nat) (w : World), LedAt w b 0 0 0 18446744073709551615 → Calls Try.prog 18 #[.pointer (some ⟨b, 0, none⟩), .int .u64 a0] w fun e w' => e = .returned (.int .i64 0) ∧ LedAt w' b a0 0 0 18446744073709551615 ∧ w.grownBy w' (some b) := fun b w h => by
    have := deposit_ok b 0 0 0 18446744073709551615 a0 w h (by unfold Fits; decide) b0 (by omega) (by omega)
    rwa [Int.zero_add] at this
  have hs : ∀ (b : Nat) (w : World), LedAt w b a0 0 0 18446744073709551615 → Calls Try.prog 13 #[.pointer (some ⟨b, 0, none⟩)] w fun e w' => e = .returned (.int .u64 a0) ∧ ∃ m, w' = w.drewN m := fun b w h => by
    have := supply_any b a0 0 0 18446744073709551615 w h (by unfold Fits; omega)
    rwa [Int.sub_zero, Int.sub_zero] at this
  have hz : ∀ (b : Nat) (w : World), LedAt w b 0 0 0 18446744073709551615 → Calls Try.prog 13 #[.pointer (some ⟨b, 0, none⟩)] w fun e w' => e = .returned (.int .u64 0) ∧ ∃ m, w' = w.drewN m := fun b w h => supply_any b 0 0 0 18446744073709551615 w h (by unfold Fits; decide)
  have HD := Lib.hid hd
  have HS := Lib.hid hs
  have HZ := Lib.hid hz
  clear hd hs hz
  go_enter Try.func8, Try.ntmps8
  go_wp2_with fail
  refine (new_at 18446744073709551615 _ (by decide) (by decide)).mono ?_
  rintro e w1 ⟨rfl, l1, _, B1, s1⟩
  have L1 := Lib.hid l1
  clear l1
  go_wp2_with fail
  refine (new_at 18446744073709551615 _ (by decide) (by decide)).mono ?_
  rintro e w2 ⟨rfl, m2, _, b2, s2⟩
  have L2 : Hid (LedAt w2 w.heap.size 0 0 0 18446744073709551615) := Lib.hid (Blk.below L1.out b2 (Blk.lt L1.out))
  have M2 := Lib.hid m2
  have B2 := B1.trans (b2.mono B1.size)
  have HN : Hid (some w1.heap.size ≠ some w.heap.size) := Lib.hid (fun e => by injection e; omega)
  clear m2 b2 B1 L1 s1 s2
  go_wp2_with fail
  refine (HD.out _ _ L2.out).mono ?_
  rintro e w3 ⟨rfl, l3, g3⟩
  have L3 := Lib.hid l3
  have M3 : Hid (LedAt w3 w1.heap.size 0 0 0 18446744073709551615) := Lib.hid (Blk.grown M2.out g3 HN.out)
  have B3 := below_only B2 g3 B2.size (Nat.le_refl _)
  clear l3 g3 L2 M2 B2
  go_wp2_with fail
  refine (alive_any _).mono ?_
  rintro e w4 ⟨rfl, b4⟩
  have L4 : Hid (LedAt w4 w.heap.size a0 0 0 18446744073709551615) := Lib.hid (Blk.below L3.out b4 (Blk.lt L3.out))
  have M4 : Hid (LedAt w4 w1.heap.size 0 0 0 18446744073709551615) := Lib.hid (Blk.below M3.out b4 (Blk.lt M3.out))
  have B4 := B3.trans (b4.mono B3.size)
  clear b4 L3 M3 B3
  go_wp2_with fail
  refine (deposit_nil _ _).mono ?_
  rintro e w' ⟨rfl, rfl⟩
  go_wp2_with fail
  refine (pay_nil _ _).mono ?_
  rintro e w5 ⟨rfl, b5⟩
  have L5 : Hid (LedAt w5 w.heap.size a0 0 0 18446744073709551615) := Lib.hid (Blk.below L4.out b5 (Blk.lt L4.out))
  have M5 : Hid (LedAt w5 w1.heap.size 0 0 0 18446744073709551615) := Lib.hid (Blk.below M4.out b5 (Blk.lt M4.out))
  have B5 := B4.trans (b5.mono B4.size)
  clear b5 L4 M4 B4
  go_wp2_with fail
  refine (burn_nil _ _).mono ?_
  rintro e w6 ⟨rfl, b6⟩
  have L6 : Hid (LedAt w6 w.heap.size a0 0 0 18446744073709551615) := Lib.hid (Blk.below L5.out b6 (Blk.lt L5.out))
  have M6 : Hid (LedAt w6 w1.heap.size 0 0 0 18446744073709551615) := Lib.hid (Blk.below M5.out b6 (Blk.lt M5.out))
  have B6 := B5.trans (b6.mono B5.size)
  clear b6 L5 M5 B5
  go_wp2_with fail
  refine (supply_nil _).mono ?_
  rintro e w' ⟨rfl, rfl⟩
  go_wp2_with fail
  refine (room_nil _).mono ?_
  rintro e w' ⟨rfl, rfl⟩
  go_wp2_with fail
  refine (totals_nil _).mono ?_
  rintro e w7 ⟨rfl, b7⟩
  have L7 : Hid (LedAt w7 w.heap.size a0 0 0 18446744073709551615) := Lib.hid (Blk.below L6.out b7 (Blk.lt L6.out))
  have M7 : Hid (LedAt w7 w1.heap.size 0 0 0 18446744073709551615) := Lib.hid (Blk.below M6.out b7 (Blk.lt M6.out))
  have B7 := B6.trans (b7.mono B6.size)
  clear b7 L6 M6 B6
  have heq7 := heq.out w7
  go_wp2_with fail
  refine (HZ.out _ _ M7.out).mono ?_
  rintro e w8 ⟨rfl, m8, hw8⟩
  have L8 : Hid (LedAt w8 w.heap.size a0 0 0 18446744073709551615) := Lib.hid (hw8 ▸ Blk.drewN L7.out m8)
  have B8 : Below w.heap.size w w8 := hw8 ▸ below_drewN B7 m8
  clear hw8 L7 M7 B7 heq7
  go_wp2_with fail
  refine (HS.out _ _ L8.out).mono ?_
  rintro e w9 ⟨rfl, m9, hw9⟩
  have B9 : Below w.heap.size w w9 := hw9 ▸ below_drewN B8 m9
  clear hw9 L8 B8
  go_wp2_with fail
  go_ret
  exact ⟨rfl, B9⟩
end Go.Proofs.Ytifjpfalokfhgaa
