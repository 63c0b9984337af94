/- Forecast's take. -/
import Derived.Test.YtkeclanbebiogaaFcast
namespace Go.Proofs.Ytkeclanbebiogaa
open Go Go.RowKit
set_option linter.unusedVariables false
set_option linter.unusedSimpArgs false
set_option maxRecDepth 100000

/-- The forecast in block q. -/
def FAt (w : World) (q : Nat) (B lim g : Int) : Prop := Blk w q 100 #[.int .u64 B, .int .u64 lim, .int .u64 g]
section
variable {w : World} {q : Nat} {B lim g x B' g' : Int}
theorem FAt.cells (h : FAt w q B lim g) : w.cell? ⟨q, 0, none⟩ = some (.int .u64 B) ∧ w.cell? ⟨q, 1, none⟩ = some (.int .u64 lim) ∧ w.cell? ⟨q, 2, none⟩ = some (.int .u64 g) ∧ w.frozen? ⟨q, 0, none⟩ = false ∧ w.frozen? ⟨q, 2, none⟩ = false :=
  ⟨Blk.cell h 0, Blk.cell h 1, Blk.cell h 2, Blk.frozen h 0, Blk.frozen h 2⟩
theorem ftake_fit (h : FAt w q B lim g) (x0 : 0 ≤ x) (hx : x ≤ B) (hB : B ≤ 18446744073709551615) :
    Calls Try.prog 50 #[.pointer (some ⟨q, 0, none⟩), .int .u64 x] w fun e w' => e = .returned (.bool true) ∧ FAt w' q (B - x) lim g ∧ w.grownBy w' (some q) := by
  obtain ⟨c0, c1, c2, f0, f2⟩ := h.cells
  have HE : Hid (FAt (w.setCell ⟨q, 0, none⟩ (.int .u64 (B - x))) q (B - x) lim g ∧ w.grownBy (w.setCell ⟨q, 0, none⟩ (.int .u64 (B - x))) (some q)) := Lib.hid ⟨Blk.set_ h 0 _, only_setCell (only_refl _ _) (.inl rfl) _⟩
  clear h c1 c2 f2
  go_enter Try.func50, Try.ntmps50
  go_wp2
  go_ret
  exact ⟨rfl, HE.out⟩
theorem ftake_zero (h : FAt w q B 0 g) (b0 : 0 ≤ B) (hx : B < x) (x1 : x ≤ 18446744073709551615) :
    Calls Try.prog 50 #[.pointer (some ⟨q, 0, none⟩), .int .u64 x] w fun e w' => e = .returned (.bool false) ∧ ∃ m, w' = w.drewN m := by
  obtain ⟨c0, c1, c2, f0, f2⟩ := h.cells
  have hx' : ¬ x ≤ B := by omega
  have H := Lib.hid (fun w => ceil_zero (x - B) w)
  clear h f0 f2
  go_enter Try.func50, Try.ntmps50
  go_wp2_with fail
  refine (H.out _).mono ?_
  rintro e w' ⟨rfl, rfl⟩
  go_wp2
  go_ret
  exact ⟨rfl, 0, rfl⟩
theorem ftake_far (h : FAt w q B lim g) (b0 : 0 ≤ B) (hx : B < x) (x1 : x ≤ 18446744073709551615) (hl : 1 ≤ lim) (hl2 : lim ≤ 18446744073709551615) (g0 : 0 ≤ g) (g1 : g ≤ 2147483648) (hc : 2147483648 - g < ceilQ (x - B) lim) :
    Calls Try.prog 50 #[.pointer (some ⟨q, 0, none⟩), .int .u64 x] w fun e w' => e = .returned (.bool false) ∧ ∃ m, w' = w.drewN m := by
  obtain ⟨c0, c1, c2, f0, f2⟩ := h.cells
  have hx' : ¬ x ≤ B := by omega
  have H := Lib.hid (fun w => ceil_yes (x - B) lim w (by omega) (by omega) hl hl2)
  clear h f0 f2
  generalize ceilQ (x - B) lim = t at *
  go_enter Try.func50, Try.ntmps50
  go_wp2_with fail
  refine (H.out _).mono ?_
  rintro e w' ⟨rfl, rfl⟩
  go_wp2
  go_ret
  exact ⟨rfl, 0, rfl⟩
theorem wrap_diff (t lim y B' : Int) (h : t * lim - y = B') (h0 : 0 ≤ B') (h1 : B' ≤ 18446744073709551615) : IntKind.u64.wrap (IntKind.u64.wrap (t * lim) - y) = B' := by
  generalize t * lim = p at *
  simp only [IntKind.wrap_u64]
  omega
theorem ftake_go (h : FAt w q B lim g) (b0 : 0 ≤ B) (hx : B < x) (x1 : x ≤ 18446744073709551615) (hl : 1 ≤ lim) (hl2 : lim ≤ 18446744073709551615) (g0 : 0 ≤ g) (g1 : g ≤ 2147483648) (hc : ¬ 2147483648 - g < ceilQ (x - B) lim)
    (hB : ceilQ (x - B) lim * lim - (x - B) = B') (hB0 : 0 ≤ B') (hB1 : B' ≤ 18446744073709551615) (hg : g + ceilQ (x - B) lim = g') (ht0 : 0 ≤ ceilQ (x - B) lim) :
    Calls Try.prog 50 #[.pointer (some ⟨q, 0, none⟩), .int .u64 x] w fun e w' => e = .returned (.bool true) ∧ FAt w' q B' lim g' ∧ w.grownBy w' (some q) := by
  obtain ⟨c0, c1, c2, f0, f2⟩ := h.cells
  have hx' : ¬ x ≤ B := by omega
  have H := Lib.hid (fun w => ceil_yes (x - B) lim w (by omega) (by omega) hl hl2)
  have g2 : w.grownBy (w.setCell ⟨q, 2, none⟩ (.int .u64 g')) (some q) := only_setCell (only_refl _ _) (.inl rfl) _
  have HE : Hid (FAt ((w.setCell ⟨q, 2, none⟩ (.int .u64 g')).setCell ⟨q, 0, none⟩ (.int .u64 B')) q B' lim g' ∧ w.grownBy ((w.setCell ⟨q, 2, none⟩ (.int .u64 g')).setCell ⟨q, 0, none⟩ (.int .u64 B')) (some q)) := Lib.hid ⟨Blk.set_ (Blk.set_ h 2 _) 0 _, only_setCell g2 (.inl rfl) _⟩
  have hm := wrap_diff _ _ _ _ hB hB0 hB1
  have hgg : IntKind.u64.wrap (g + ceilQ (x - B) lim) = g' := by rw [hg]; exact IntWalk.u64_in _ (by omega)
  clear h g2 hB hg
  generalize ceilQ (x - B) lim = t at *
  obtain ⟨M, hM⟩ : ∃ M, IntKind.u64.wrap (t * lim) = M := ⟨_, rfl⟩
  rw [hM] at hm
  obtain ⟨y, hy⟩ : ∃ y, x - B = y := ⟨_, rfl⟩
  rw [hy] at hm H
  go_enter Try.func50, Try.ntmps50
  go_wp2_with fail
  refine (H.out _).mono ?_
  rintro e w' ⟨rfl, rfl⟩
  go_wp2
  go_ret
  exact ⟨rfl, HE.out⟩
end
end Go.Proofs.Ytkeclanbebiogaa
