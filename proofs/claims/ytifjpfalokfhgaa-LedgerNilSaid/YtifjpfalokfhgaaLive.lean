/- The example of the chapter; an operation on a ledger and on the reference's. -/
import Derived.Test.YtifjpfalokfhgaaRefDep
namespace Go.Proofs.Ytifjpfalokfhgaa
open Go Go.RowKit
set_option linter.unusedVariables false
set_option linter.unusedSimpArgs false

theorem alive_any (w : World) : Calls Try.prog 10 #[] w fun e w' => e = .returned (.bool true) ∧ Below w.heap.size w w' := by
  have F0 : Fits 0 0 0 10 := by unfold Fits; decide
  have F1 : Fits 7 0 0 10 := by unfold Fits; decide
  have F2 : Fits 7 2 0 10 := by unfold Fits; decide
  have hd : ∀ (b : Nat) (w : World), LedAt w b 0 0 0 10 → Calls Try.prog 18 #[.pointer (some ⟨b, 0, none⟩), .int .u64 7] w fun e w' => e = .returned (.int .i64 0) ∧ LedAt w' b 7 0 0 10 ∧ w.grownBy w' (some b) := fun b w h => deposit_ok b 0 0 0 10 7 w h F0 (by decide) (by decide) (by decide)
  have hp : ∀ (b : Nat) (w : World), LedAt w b 7 0 0 10 → Calls Try.prog 19 #[.pointer (some ⟨b, 0, none⟩), .int .u64 2] w fun e w' => e = .returned (.int .i64 0) ∧ LedAt w' b 7 2 0 10 ∧ w.grownBy w' (some b) := fun b w h => pay_yes b 7 0 0 10 2 w h F1 (by decide) (by decide)
  have hr : ∀ (b : Nat) (w : World), LedAt w b 7 2 0 10 → Calls Try.prog 15 #[.pointer (some ⟨b, 0, none⟩)] w fun e w' => e = .returned (.int .u64 5) ∧ ∃ m, w' = w.drewN m := fun b w h => room_any b 7 2 0 10 w h F2
  have hs : ∀ (b : Nat) (w : World), LedAt w b 7 2 0 10 → Calls Try.prog 13 #[.pointer (some ⟨b, 0, none⟩)] w fun e w' => e = .returned (.int .u64 5) ∧ ∃ m, w' = w.drewN m := fun b w h => supply_any b 7 2 0 10 w h F2
  have hx : ∀ (b : Nat) (w : World), LedAt w b 7 2 0 10 → Calls Try.prog 18 #[.pointer (some ⟨b, 0, none⟩), .int .u64 6] w fun e w' => e = .returned (.int .i64 4) ∧ ∃ m, w' = w.drewN m := fun b w h => deposit_supply b 7 2 0 10 6 w h F2 (by decide)
  have hb : ∀ (b : Nat) (w : World), LedAt w b 7 2 0 10 → Calls Try.prog 20 #[.pointer (some ⟨b, 0, none⟩), .int .u64 6] w fun e w' => e = .returned (.int .i64 3) ∧ Below w.heap.size w w' := fun b w h => burn_no b 7 2 0 10 6 w h F2 (by decide)
  have HD := Lib.hid hd
  have HP := Lib.hid hp
  have HR := Lib.hid hr
  have HS := Lib.hid hs
  have HX := Lib.hid hx
  have HB := Lib.hid hb
  clear hd hp hr hs hx hb F0 F1 F2
  go_enter Try.func10, Try.ntmps10
  go_wp2_with fail
  refine (new_at 10 _ (by decide) (by decide)).mono ?_
  rintro e w1 ⟨rfl, l1, _, b1, _⟩
  have L1 := Lib.hid l1
  clear l1
  go_wp2_with fail
  refine (HD.out _ _ L1.out).mono ?_
  rintro e w2 ⟨rfl, l2, g2⟩
  have L2 := Lib.hid l2
  have B2 := below_only b1 g2 b1.size (Nat.le_refl _)
  clear l2 g2 L1 b1
  go_wp2_with fail
  refine (HP.out _ _ L2.out).mono ?_
  rintro e w3 ⟨rfl, l3, g3⟩
  have L3 := Lib.hid l3
  have B3 := below_only B2 g3 B2.size (Nat.le_refl _)
  clear l3 g3 L2 B2
  go_wp2_with fail
  refine (HR.out _ _ L3.out).mono ?_
  rintro e w4 ⟨rfl, m4, hw4⟩
  have L4 : Hid (LedAt w4 w.heap.size 7 2 0 10) := Lib.hid (hw4 ▸ Blk.drewN L3.out m4)
  have B4 : Below w.heap.size w w4 := hw4 ▸ below_drewN B3 m4
  clear hw4 L3 B3
  go_wp2_with fail
  refine (HS.out _ _ L4.out).mono ?_
  rintro e w5 ⟨rfl, m5, hw5⟩
  have L5 : Hid (LedAt w5 w.heap.size 7 2 0 10) := Lib.hid (hw5 ▸ Blk.drewN L4.out m5)
  have B5 : Below w.heap.size w w5 := hw5 ▸ below_drewN B4 m5
  clear hw5 L4 B4
  go_wp2_with fail
  refine (HX.out _ _ L5.out).mono ?_
  rintro e w6 ⟨rfl, m6, hw6⟩
  have L6 : Hid (LedAt w6 w.heap.size 7 2 0 10) := Lib.hid (hw6 ▸ Blk.drewN L5.out m6)
  have B6 : Below w.heap.size w w6 := hw6 ▸ below_drewN B5 m6
  clear hw6 L5 B5
  go_wp2_with fail
  refine (HB.out _ _ L6.out).mono ?_
  rintro e w7 ⟨rfl, b7⟩
  have B7 := B6.trans (b7.mono B6.size)
  clear b7 B6
  go_wp2_with fail
  go_ret
  exact ⟨rfl, B7⟩
end Go.Proofs.Ytifjpfalokfhgaa
