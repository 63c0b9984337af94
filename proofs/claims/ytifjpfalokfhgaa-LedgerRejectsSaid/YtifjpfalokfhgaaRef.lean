/- Pay, Burn, Room; the reference's Deposit, Pay, Burn, Room. -/
import Derived.Test.YtifjpfalokfhgaaOps
namespace Go.Proofs.Ytifjpfalokfhgaa
open Go.RowKit
set_option linter.unusedVariables false
set_option linter.unusedSimpArgs false

theorem pay_nil (x : Int) (w : World) : Calls Try.prog 19 #[.pointer none, .int .u64 x] w fun e w' => e = .returned (.int .i64 1) ∧ Below w.heap.size w w' := by
  go_enter Try.func19, Try.ntmps19
  go_wp2_with fail
  refine (withdraw_nil 1 x _).mono ?_
  rintro e w1 ⟨rfl, hb⟩
  go_wp2_with fail
  go_ret
  exact ⟨rfl, hb⟩
theorem burn_nil (x : Int) (w : World) : Calls Try.prog 20 #[.pointer none, .int .u64 x] w fun e w' => e = .returned (.int .i64 1) ∧ Below w.heap.size w w' := by
  go_enter Try.func20, Try.ntmps20
  go_wp2_with fail
  refine (withdraw_nil 2 x _).mono ?_
  rintro e w1 ⟨rfl, hb⟩
  go_wp2_with fail
  go_ret
  exact ⟨rfl, hb⟩
section
variable (b : Nat) (D P B C x : Int) (w : World) (h : LedAt w b D P B C) (hF : Fits D P B C)
include h hF
theorem pay_no (hx : x > D - P - B) : Calls Try.prog 19 #[.pointer (some ⟨b, 0, none⟩), .int .u64 x] w fun e w' => e = .returned (.int .i64 3) ∧ Below w.heap.size w w' := by
  have H := Lib.hid (withdraw_no b 1 D P B C x w h hF hx)
  clear h hF hx
  go_enter Try.func19, Try.ntmps19
  go_wp2_with fail
  refine H.out.mono ?_
  rintro e w1 ⟨rfl, hb⟩
  go_wp2_with fail
  go_ret
  exact ⟨rfl, hb⟩
theorem burn_no (hx : x > D - P - B) : Calls Try.prog 20 #[.pointer (some ⟨b, 0, none⟩), .int .u64 x] w fun e w' => e = .returned (.int .i64 3) ∧ Below w.heap.size w w' := by
  have H := Lib.hid (withdraw_no b 2 D P B C x w h hF hx)
  clear h hF hx
  go_enter Try.func20, Try.ntmps20
  go_wp2_with fail
  refine H.out.mono ?_
  rintro e w1 ⟨rfl, hb⟩
  go_wp2_with fail
  go_ret
  exact ⟨rfl, hb⟩
theorem pay_yes (x0 : 0 ≤ x) (hx : x ≤ D - P - B) : Calls Try.prog 19 #[.pointer (some ⟨b, 0, none⟩), .int .u64 x] w fun e w' => e = .returned (.int .i64 0) ∧ LedAt w' b D (P + x) B C ∧ w.grownBy w' (some b) := by
  have H := Lib.hid (withdraw_yes b 1 D P B C D (P + x) B x P w h hF hx x0 (by omega) rfl rfl hF.1 (by unfold Fits at hF; omega))
  clear h hF hx
  go_enter Try.func19, Try.ntmps19
  go_wp2_with fail
  refine H.out.mono ?_
  rintro e w1 ⟨rfl, hb⟩
  have HB := Lib.hid hb
  clear hb
  go_wp2_with fail
  go_ret
  exact ⟨rfl, HB.out⟩
theorem burn_yes (x0 : 0 ≤ x) (hx : x ≤ D - P - B) : Calls Try.prog 20 #[.pointer (some ⟨b, 0, none⟩), .int .u64 x] w fun e w' => e = .returned (.int .i64 0) ∧ LedAt w' b D P (B + x) C ∧ w.grownBy w' (some b) := by
  have H := Lib.hid (withdraw_yes b 2 D P B C D P (B + x) x B w h hF hx x0 (by omega) rfl rfl hF.2.1 (by unfold Fits at hF; omega))
  clear h hF hx
  go_enter Try.func20, Try.ntmps20
  go_wp2_with fail
  refine H.out.mono ?_
  rintro e w1 ⟨rfl, hb⟩
  have HB := Lib.hid hb
  clear hb
  go_wp2_with fail
  go_ret
  exact ⟨rfl, HB.out⟩
end

/-- The room: the smaller one. -/
def roomOf (D P B C : Int) : Int := if 18446744073709551615 - D < C - (D - P - B) then 18446744073709551615 - D else C - (D - P - B)
theorem room_any (b : Nat) (D P B C : Int) (w : World) (h : LedAt w b D P B C) (hF : Fits D P B C) :
    Calls Try.prog 15 #[.pointer (some ⟨b, 0, none⟩)] w fun e w' => e = .returned (.int .u64 (roomOf D P B C)) ∧ ∃ m, w' = w.drewN m := by
  obtain ⟨c0, c1, c2, c3⟩ := h.cells
  have HB : Hid (∀ n, Calls Try.prog 24 #[.pointer (some ⟨b, 0, none⟩)] (w.drewN n) fun e w' => e = .returned (.int .u64 (D - P - B)) ∧ ∃ m, w' = (w.drewN n).drewN m) := Lib.hid (fun n => balance_led (Blk.drewN h n) hF)
  obtain ⟨f0, f1, f2, f3, f4, f5⟩ := hF
  clear h c1 c2
  obtain ⟨r, hr⟩ : ∃ r, r = roomOf D P B C := ⟨_, rfl⟩
  rw [← hr]
  unfold roomOf at hr
  have HR := Lib.hid hr
  clear hr
  go_enter Try.func15, Try.ntmps15
  go_wp2
  go_quiet ((go_at_call 24; exact Calls.quiet_of (HB.out _)))
  rw [← HR.out]
  go_wp2
  go_ret
  exact ⟨rfl, _, rfl⟩
theorem refroom_any (d : Nat) (D P B C : Int) (w : World) (h : RefAt w d D P B C) (hF : Fits D P B C) :
    Calls Try.prog 16 #[.pointer (some ⟨d, 0, none⟩)] w fun e w' => e = .returned (.int .u64 (roomOf D P B C)) ∧ ∃ m, w' = w.drewN m := by
  obtain ⟨c0, c1, c2, c3⟩ := h.cells
  have HB : Hid (∀ n, Calls Try.prog 14 #[.pointer (some ⟨d, 0, none⟩)] (w.drewN n) fun e w' => e = .returned (.int .u64 (D - P - B)) ∧ ∃ m, w' = (w.drewN n).drewN m) := Lib.hid (fun n => refsupply_any d D P B C _ (Blk.drewN h n) hF)
  obtain ⟨f0, f1, f2, f3, f4, f5⟩ := hF
  clear h c2 c3
  obtain ⟨r, hr⟩ : ∃ r, r = roomOf D P B C := ⟨_, rfl⟩
  rw [← hr]
  unfold roomOf at hr
  have HR := Lib.hid hr
  clear hr
  go_enter Try.func16, Try.ntmps16
  go_wp2
  go_quiet (first | (go_at_call 14; exact Calls.quiet_of (HB.out _)) | (go_at_call 25; exact quiet_left (refmax_any _)))
  rw [← HR.out]
  go_wp2
  go_ret
  exact ⟨rfl, _, rfl⟩

section
variable (d : Nat) (D P B C x : Int) (w : World) (h : RefAt w d D P B C) (hF : Fits D P B C)
include h hF
theorem refpay_no (hx : x > D - P - B) : Calls Try.prog 22 #[.pointer (some ⟨d, 0, none⟩), .int .u64 x] w fun e w' => e = .returned (.int .i64 3) ∧ ∃ m, w' = w.drewN m := by
  have H := Lib.hid (refsupply_any d D P B C w h hF)
  clear h hF
  go_enter Try.func22, Try.ntmps22
  go_wp2_with fail
  refine H.out.mono ?_
  rintro e w1 ⟨rfl, m, rfl⟩
  go_wp2_with fail
  go_ret
  exact ⟨rfl, _, rfl⟩
theorem refburn_no (hx : x > D - P - B) : Calls Try.prog 23 #[.pointer (some ⟨d, 0, none⟩), .int .u64 x] w fun e w' => e = .returned (.int .i64 3) ∧ ∃ m, w' = w.drewN m := by
  have H := Lib.hid (refsupply_any d D P B C w h hF)
  clear h hF
  go_enter Try.func23, Try.ntmps23
  go_wp2_with fail
  refine H.out.mono ?_
  rintro e w1 ⟨rfl, m, rfl⟩
  go_wp2_with fail
  go_ret
  exact ⟨rfl, _, rfl⟩
theorem refpay_yes (x0 : 0 ≤ x) (hx : x ≤ D - P - B) : Calls Try.prog 22 #[.pointer (some ⟨d, 0, none⟩), .int .u64 x] w fun e w' => e = .returned (.int .i64 0) ∧ RefAt w' d D (P + x) B C ∧ w.grownBy w' (some d) := by
  have H := Lib.hid (refsupply_any d D P B C w h hF)
  obtain ⟨c0, c1, c2, c3⟩ := h.cells
  have z2 := Blk.frozen h 2
  have HE : Hid (∀ m, RefAt ((w.drewN m).setCell ⟨d, 2, none⟩ (.int .u64 (P + x))) d D (P + x) B C ∧ w.grownBy ((w.drewN m).setCell ⟨d, 2, none⟩ (.int .u64 (P + x))) (some d)) := Lib.hid (fun m => ⟨Blk.set_ (Blk.drewN h m) 2 _, only_setCell (only_drewN (only_refl _ _) m) (.inl rfl) _⟩)
  obtain ⟨f0, f1, f2, f3, f4, f5⟩ := hF
  clear h c0 c1 c3
  go_enter Try.func22, Try.ntmps22
  go_wp2_with fail
  refine H.out.mono ?_
  rintro e w1 ⟨rfl, m, rfl⟩
  go_wp2_with fail
  go_ret
  exact ⟨rfl, HE.out m⟩
theorem refburn_yes (x0 : 0 ≤ x) (hx : x ≤ D - P - B) : Calls Try.prog 23 #[.pointer (some ⟨d, 0, none⟩), .int .u64 x] w fun e w' => e = .returned (.int .i64 0) ∧ RefAt w' d D P (B + x) C ∧ w.grownBy w' (some d) := by
  have H := Lib.hid (refsupply_any d D P B C w h hF)
  obtain ⟨c0, c1, c2, c3⟩ := h.cells
  have z3 := Blk.frozen h 3
  have HE : Hid (∀ m, RefAt ((w.drewN m).setCell ⟨d, 3, none⟩ (.int .u64 (B + x))) d D P (B + x) C ∧ w.grownBy ((w.drewN m).setCell ⟨d, 3, none⟩ (.int .u64 (B + x))) (some d)) := Lib.hid (fun m => ⟨Blk.set_ (Blk.drewN h m) 3 _, only_setCell (only_drewN (only_refl _ _) m) (.inl rfl) _⟩)
  obtain ⟨f0, f1, f2, f3, f4, f5⟩ := hF
  clear h c0 c1 c2
  go_enter Try.func23, Try.ntmps23
  go_wp2_with fail
  refine H.out.mono ?_
  rintro e w1 ⟨rfl, m, rfl⟩
  go_wp2_with fail
  go_ret
  exact ⟨rfl, HE.out m⟩
end
end Go.Proofs.Ytifjpfalokfhgaa
