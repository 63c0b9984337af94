/- The walk of LedgerEmpties. -/
import Derived.Test.YtifjpfalokfhgaaSameT
import Derived.OpenShut
namespace Go.Proofs.Ytifjpfalokfhgaa
open Go Go.RowKit Go.OpenShut
set_option linter.unusedVariables false
set_option linter.unusedSimpArgs false
set_option maxHeartbeats 800000 in
theorem walk_LedgerEmpties (a0 : Int) (a1 : Int) (a2 : Int) (w : World) (w0 : (Lit.int .u64 a0).wf = true) (w1 : (Lit.int .u64 a1).wf = true) (w2 : (Lit.int .u64 a2).wf = true) :
    Calls Try.prog 7 #[.int .u64 a0, .int .u64 a1, .int .u64 a2] w fun e w' => e = .returned (.bool true) ∧ Below w.heap.size w w' := by
  obtain ⟨c0, c1⟩ := bounds_u64 w0
  obtain ⟨x0, x1⟩ := bounds_u64 w1
  obtain ⟨y0, y1⟩ := bounds_u64 w2
  clear w0 w1 w2
  have F0 : Fits 0 0 0 a0 := by unfold Fits; omega
  by_cases hx : a1 > a0
  · have hd : ∀ (b : Nat) (w : World), LedAt w b 0 0 0 a0 → Calls Try.prog 18 #[.pointer (some ⟨b, 0, none⟩), .int .u64 a1] w fun e w' => e = .returned (.int .i64 4) ∧ ∃ m, w' = w.drewN m := fun b w h => deposit_supply b 0 0 0 a0 a1 w h F0 (by omega)
    have HD := Lib.hid hd
    clear hd F0
    go_enter Try.func7, Try.ntmps7
    go_wp2_with fail
    refine (new_at a0 _ c0 c1).mono ?_
    rintro e w1 ⟨rfl, l1, _, B1, _⟩
    have L1 := Lib.hid l1
    clear l1
    go_wp2_with fail
    refine (alive_any _).mono ?_
    rintro e w2 ⟨rfl, b2⟩
    have L2 : Hid (LedAt w2 w.heap.size 0 0 0 a0) := Lib.hid (Blk.below L1.out b2 (Blk.lt L1.out))
    have B2 := B1.trans (b2.mono B1.size)
    clear b2 B1 L1
    go_wp2_with fail
    refine (HD.out _ _ L2.out).mono ?_
    rintro e w3 ⟨rfl, m3, hw3⟩
    have B3 : Below w.heap.size w w3 := hw3 ▸ below_drewN B2 m3
    clear hw3
    go_wp2_with fail
    go_ret
    exact ⟨rfl, B3⟩
  · have hx' : a1 ≤ a0 := by omega
    obtain ⟨p, hp, p0, p1⟩ : ∃ p, (if a1 < a2 then a1 else a2) = p ∧ 0 ≤ p ∧ p ≤ a1 := ⟨_, rfl, by split <;> omega, by split <;> omega⟩
    obtain ⟨q, hq, hq'⟩ : ∃ q, (if 18446744073709551615 - a1 < a0 then 18446744073709551615 - a1 else a0) = q ∧ roomOf a1 p (a1 - p) a0 = q := ⟨_, rfl, by unfold roomOf; split <;> split <;> omega⟩
    have hd : ∀ (b : Nat) (w : World), LedAt w b 0 0 0 a0 → Calls Try.prog 18 #[.pointer (some ⟨b, 0, none⟩), .int .u64 a1] w fun e w' => e = .returned (.int .i64 0) ∧ LedAt w' b a1 0 0 a0 ∧ w.grownBy w' (some b) := fun b w h => by
      have := deposit_ok b 0 0 0 a0 a1 w h F0 x0 (by omega) (by omega)
      rwa [Int.zero_add] at this
    have hpay : ∀ (b : Nat) (w : World), LedAt w b a1 0 0 a0 → Calls Try.prog 19 #[.pointer (some ⟨b, 0, none⟩), .int .u64 p] w fun e w' => e = .returned (.int .i64 0) ∧ LedAt w' b a1 p 0 a0 ∧ w.grownBy w' (some b) := fun b w h => by
      have := pay_yes b a1 0 0 a0 p w h (by unfold Fits; omega) p0 (by omega)
      rwa [Int.zero_add] at this
    have hburn : ∀ (b : Nat) (w : World), LedAt w b a1 p 0 a0 → Calls Try.prog 20 #[.pointer (some ⟨b, 0, none⟩), .int .u64 (a1 - p)] w fun e w' => e = .returned (.int .i64 0) ∧ LedAt w' b a1 p (a1 - p) a0 ∧ w.grownBy w' (some b) := fun b w h => by
      have := burn_yes b a1 p 0 a0 (a1 - p) w h (by unfold Fits; omega) (by omega) (by omega)
      rwa [Int.zero_add] at this
    have FZ : Fits a1 p (a1 - p) a0 := by unfold Fits; omega
    have hs : ∀ (b : Nat) (w : World), LedAt w b a1 p (a1 - p) a0 → Calls Try.prog 13 #[.pointer (some ⟨b, 0, none⟩)] w fun e w' => e = .returned (.int .u64 0) ∧ ∃ m, w' = w.drewN m := fun b w h => by
      have := supply_any b a1 p (a1 - p) a0 w h FZ
      rwa [Int.sub_self] at this
    have hr : ∀ (b : Nat) (w : World), LedAt w b a1 p (a1 - p) a0 → Calls Try.prog 15 #[.pointer (some ⟨b, 0, none⟩)] w fun e w' => e = .returned (.int .u64 q) ∧ ∃ m, w' = w.drewN m := fun b w h => by
      have := room_any b a1 p (a1 - p) a0 w h FZ
      rwa [hq'] at this
    have hz : ∀ (b : Nat) (w : World), LedAt w b a1 p (a1 - p) a0 → Calls Try.prog 19 #[.pointer (some ⟨b, 0, none⟩), .int .u64 1] w fun e w' => e = .returned (.int .i64 3) ∧ Below w.heap.size w w' := fun b w h => pay_no b a1 p (a1 - p) a0 1 w h FZ (by omega)
    have HEQ := Lib.hid (totals_same a1 p (a1 - p))
    have HD := Lib.hid hd
    have HP := Lib.hid hpay
    have HB := Lib.hid hburn
    have HS := Lib.hid hs
    have HR := Lib.hid hr
    have HZ := Lib.hid hz
    have HQ := Lib.hid hq
    clear hd hpay hburn hs hr hz F0 FZ hq' hx hq
    go_enter Try.func7, Try.ntmps7
    go_wp2_with fail
    refine (new_at a0 _ c0 c1).mono ?_
    rintro e w1 ⟨rfl, l1, _, B1, _⟩
    have L1 := Lib.hid l1
    clear l1
    go_wp2_with fail
    refine (HD.out _ _ L1.out).mono ?_
    rintro e w2 ⟨rfl, l2, g2⟩
    have L2 := Lib.hid l2
    have B2 := below_only B1 g2 B1.size (Nat.le_refl _)
    clear l2 g2 L1 B1
    go_wp2_with fail
    refine (HP.out _ _ L2.out).mono ?_
    rintro e w3 ⟨rfl, l3, g3⟩
    have L3 := Lib.hid l3
    have B3 := below_only B2 g3 B2.size (Nat.le_refl _)
    clear l3 g3 L2 B2
    go_wp2_with fail
    refine (HB.out _ _ L3.out).mono ?_
    rintro e w4 ⟨rfl, l4, g4⟩
    have L4 := Lib.hid l4
    have B4 := below_only B3 g4 B3.size (Nat.le_refl _)
    clear l4 g4 L3 B3
    go_wp2_with fail
    refine (alive_any _).mono ?_
    rintro e w5 ⟨rfl, b5⟩
    have L5 : Hid (LedAt w5 w.heap.size a1 p (a1 - p) a0) := Lib.hid (Blk.below L4.out b5 (Blk.lt L4.out))
    have B5 := B4.trans (b5.mono B4.size)
    clear b5 B4 L4
    go_wp2_with fail
    refine (HS.out _ _ L5.out).mono ?_
    rintro e w6 ⟨rfl, m6, hw6⟩
    have L6 : Hid (LedAt w6 w.heap.size a1 p (a1 - p) a0) := Lib.hid (hw6 ▸ Blk.drewN L5.out m6)
    have B6 : Below w.heap.size w w6 := hw6 ▸ below_drewN B5 m6
    clear hw6 B5 L5
    go_wp2_with fail
    refine (totals_any _ _ _ _ _ _ L6.out).mono ?_
    rintro e w7 ⟨rfl, b7⟩
    have L7 : Hid (LedAt w7 w.heap.size a1 p (a1 - p) a0) := Lib.hid (Blk.below L6.out b7 (Blk.lt L6.out))
    have B7 := B6.trans (b7.mono B6.size)
    have heq := HEQ.out w7
    clear b7 B6 L6
    go_wp2_with fail
    refine (HR.out _ _ L7.out).mono ?_
    rintro e w8 ⟨rfl, m8, hw8⟩
    have L8 : Hid (LedAt w8 w.heap.size a1 p (a1 - p) a0) := Lib.hid (hw8 ▸ Blk.drewN L7.out m8)
    have B8 : Below w.heap.size w w8 := hw8 ▸ below_drewN B7 m8
    have hq := HQ.out
    clear hw8 B7 L7 heq
    go_wp2_with fail
    refine (HZ.out _ _ L8.out).mono ?_
    rintro e w9 ⟨rfl, b9⟩
    have B9 := B8.trans (b9.mono B8.size)
    clear b9 B8 L8
    go_wp2_with fail
    go_ret
    exact ⟨rfl, B9⟩
end Go.Proofs.Ytifjpfalokfhgaa
