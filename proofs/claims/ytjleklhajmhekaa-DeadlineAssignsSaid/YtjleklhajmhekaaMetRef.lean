/- The reference's Grant, Take, Drop. -/
import Derived.Test.YtjleklhajmhekaaMet
import Derived.Test.YtjleklhajmhekaaAdd
namespace Go.Proofs.Ytjleklhajmhekaa
open Go.RowKit
set_option linter.unusedVariables false
set_option maxRecDepth 100000
set_option linter.unusedSimpArgs false

theorem reftake_no (d : Nat) (B S T D x : Int) (w : World) (h : MRefAt w d B S T D) (hx : x > B) :
    Calls Try.prog 40 #[.pointer (some ⟨d, 0, none⟩), .int .u64 x] w fun e w' => e = .returned (.bool false) ∧ ∃ m, w' = w.drewN m := by
  obtain ⟨c0, c1, c2, c3, c4⟩ := h.cells
  clear h c1 c2 c3 c4
  go_enter Try.func40, Try.ntmps40
  go_wp2
  go_ret
  exact ⟨rfl, 0, rfl⟩
theorem reftake_yes (d : Nat) (B S T D T' x : Int) (w : World) (h : MRefAt w d B S T D) (hF : FitsM B S T D) (x0 : 0 ≤ x) (hx : x ≤ B) (hT : IntKind.u64.wrap (T + x) = T') (hG : gOf (B - x) T' D = gOf B T D) :
    Calls Try.prog 40 #[.pointer (some ⟨d, 0, none⟩), .int .u64 x] w fun e w' => e = .returned (.bool true) ∧ MRefAt w' d (B - x) (S + x) T' D ∧ w.grownBy w' (some d) := by
  obtain ⟨c0, c1, c2, c3, c4⟩ := h.cells
  have z0 := Blk.frozen h 0
  have z1 := Blk.frozen h 1
  have z3 := Blk.frozen h 3
  have e0 : IntKind.u64.wrap (B - x) = B - x := IntWalk.u64_in _ (by unfold FitsM at hF; omega)
  have e1 : IntKind.u64.wrap (S + x) = S + x := IntWalk.u64_in _ (by unfold FitsM at hF; omega)
  have g0 : w.grownBy (w.setCell ⟨d, 0, none⟩ (.int .u64 (B - x))) (some d) := only_setCell (only_refl _ _) (.inl rfl) _
  have g1 : w.grownBy ((w.setCell ⟨d, 0, none⟩ (.int .u64 (B - x))).setCell ⟨d, 1, none⟩ (.int .u64 (S + x))) (some d) := only_setCell g0 (.inl rfl) _
  have g2 : w.grownBy (((w.setCell ⟨d, 0, none⟩ (.int .u64 (B - x))).setCell ⟨d, 1, none⟩ (.int .u64 (S + x))).setCell ⟨d, 3, none⟩ (.int .u64 T')) (some d) := only_setCell g1 (.inl rfl) _
  have HE : Hid (MRefAt (((w.setCell ⟨d, 0, none⟩ (.int .u64 (B - x))).setCell ⟨d, 1, none⟩ (.int .u64 (S + x))).setCell ⟨d, 3, none⟩ (.int .u64 T')) d (B - x) (S + x) T' D ∧ w.grownBy (((w.setCell ⟨d, 0, none⟩ (.int .u64 (B - x))).setCell ⟨d, 1, none⟩ (.int .u64 (S + x))).setCell ⟨d, 3, none⟩ (.int .u64 T')) (some d)) :=
    Lib.hid ⟨by unfold MRefAt; rw [hG]; exact Blk.set_ (Blk.set_ (Blk.set_ h 0 _) 1 _) 3 _, g2⟩
  obtain ⟨f0, f1, f2, f3, f4, f5, f6⟩ := hF
  clear h hG c2 c4 g0 g1 g2 e0 e1
  go_enter Try.func40, Try.ntmps40
  go_wp2
  go_ret
  exact ⟨rfl, HE.out⟩
theorem refdrop_any (d : Nat) (B S T D D' : Int) (w : World) (h : MRefAt w d B S T D) (hD : IntKind.u64.wrap (D + B) = D') (hG : gOf 0 T D' = gOf B T D) :
    Calls Try.prog 39 #[.pointer (some ⟨d, 0, none⟩)] w fun e w' => e = .returned (.int .u64 B) ∧ MRefAt w' d 0 S T D' ∧ w.grownBy w' (some d) := by
  obtain ⟨c0, c1, c2, c3, c4⟩ := h.cells
  have z0 := Blk.frozen h 0
  have z4 := Blk.frozen h 4
  have g0 : w.grownBy (w.setCell ⟨d, 4, none⟩ (.int .u64 D')) (some d) := only_setCell (only_refl _ _) (.inl rfl) _
  have g1 : w.grownBy ((w.setCell ⟨d, 4, none⟩ (.int .u64 D')).setCell ⟨d, 0, none⟩ (.int .u64 0)) (some d) := only_setCell g0 (.inl rfl) _
  have HE : Hid (MRefAt ((w.setCell ⟨d, 4, none⟩ (.int .u64 D')).setCell ⟨d, 0, none⟩ (.int .u64 0)) d 0 S T D' ∧ w.grownBy ((w.setCell ⟨d, 4, none⟩ (.int .u64 D')).setCell ⟨d, 0, none⟩ (.int .u64 0)) (some d)) :=
    Lib.hid ⟨by unfold MRefAt; rw [hG]; exact Blk.set_ (Blk.set_ h 4 _) 0 _, g1⟩
  clear h hG c1 c2 c3 g0 g1
  go_enter Try.func39, Try.ntmps39
  go_wp2
  go_ret
  exact ⟨rfl, HE.out⟩
theorem refgrant_any (d : Nat) (B S T D x p : Int) (w : World) (h : MRefAt w d B S T D) (hF : FitsM B S T D) (hp : (if 18446744073709551615 - B < x then 18446744073709551615 - B else x) = p) (hG : IntKind.u64.wrap (gOf B T D + p) = gOf (B + p) T D) (hN : FitsM (B + p) 0 T D) :
    Calls Try.prog 37 #[.pointer (some ⟨d, 0, none⟩), .int .u64 x] w fun e w' => e = .returned (.tuple #[]) ∧ MRefAt w' d (B + p) 0 T D ∧ w.grownBy w' (some d) := by
  obtain ⟨c0, c1, c2, c3, c4⟩ := h.cells
  have HP := Lib.hid hp
  have HH := Lib.hid h
  have f0 := hF.1
  have f1 : B ≤ 18446744073709551615 := by have := hF.2.1; have := hF.2.2.1; omega
  have e0 : IntKind.u64.wrap (B + p) = B + p := IntWalk.u64_in _ (by unfold FitsM at hN; omega)
  obtain ⟨q, hq⟩ : ∃ q, q = B + p := ⟨_, rfl⟩
  have eq0 : IntKind.u64.wrap (B + p) = q := by rw [e0, hq]
  rw [← hq] at hG ⊢
  clear hq hp hF hN h c3 c4 e0
  have HE : Hid (∀ w1 : World, MRefAt w1 d B S T D → w.grownBy w1 (some d) → MRefAt (((w1.setCell ⟨d, 2, none⟩ (.int .u64 (gOf q T D))).setCell ⟨d, 0, none⟩ (.int .u64 q)).setCell ⟨d, 1, none⟩ (.int .u64 0)) d q 0 T D ∧ w.grownBy (((w1.setCell ⟨d, 2, none⟩ (.int .u64 (gOf q T D))).setCell ⟨d, 0, none⟩ (.int .u64 q)).setCell ⟨d, 1, none⟩ (.int .u64 0)) (some d)) := Lib.hid (fun w1 h1 g => by
    have g0 : w.grownBy (w1.setCell ⟨d, 2, none⟩ (.int .u64 (gOf q T D))) (some d) := only_setCell g (.inl rfl) _
    have g1 : w.grownBy ((w1.setCell ⟨d, 2, none⟩ (.int .u64 (gOf q T D))).setCell ⟨d, 0, none⟩ (.int .u64 q)) (some d) := only_setCell g0 (.inl rfl) _
    exact ⟨Blk.set_ (Blk.set_ (Blk.set_ h1 2 _) 0 _) 1 _, only_setCell g1 (.inl rfl) _⟩)
  have z0 := Blk.frozen HH.out 0
  have z1 := Blk.frozen HH.out 1
  have z2 := Blk.frozen HH.out 2
  go_enter Try.func37, Try.ntmps37
  go_wp2
  go_quiet ((go_at_call 46; exact quiet_left (refmax_any _)))
  rw [HP.out]
  go_wp2
  go_end0
  exact ⟨rfl, HE.out _ (Blk.drewN HH.out _) (only_drewN (only_refl _ _) _)⟩
end Go.Proofs.Ytjleklhajmhekaa
