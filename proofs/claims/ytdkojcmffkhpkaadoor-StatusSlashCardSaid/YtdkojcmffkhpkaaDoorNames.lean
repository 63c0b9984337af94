/- The names of the statuses: the package variable, Name, Parse; the reference's Names. -/
import Derived.Test.YtdkojcmffkhpkaaDoorNext
import Derived.Test.YtdkojcmffkhpkaaDoorStrTab
import Derived.Test.YtdkojcmffkhpkaaDoorRows
namespace Go.Proofs.YtdkojcmffkhpkaaDoor
open Go Go.RowKit Go.Maps Go.ChangeShapes Go.WideShapes
set_option linter.unusedVariables false
set_option linter.unusedSimpArgs false

/-- pending, active, exiting, unbonding, withdrawable, paid, merged -/
def nmL : List ByteArray := [⟨#[112, 101, 110, 100, 105, 110, 103]⟩, ⟨#[97, 99, 116, 105, 118, 101]⟩, ⟨#[101, 120, 105, 116, 105, 110, 103]⟩, ⟨#[117, 110, 98, 111, 110, 100, 105, 110, 103]⟩, ⟨#[119, 105, 116, 104, 100, 114, 97, 119, 97, 98, 108, 101]⟩, ⟨#[112, 97, 105, 100]⟩, ⟨#[109, 101, 114, 103, 101, 100]⟩]
def nm (k : Nat) : ByteArray := nmL.getD k ByteArray.empty
def nmC : Array Value := (nmL.map Value.string).toArray
/-- The package variable's block. -/
def NamesAt (w : World) : Prop := ∃ t fr, w.heap[0]? = some (.cells nmC t fr)

theorem names_of_laid {W : World} (h : laidMetH Tryd.prog Rows.statusNextRow.laid W) : NamesAt W := by
  rw [MakeChecks.laidMetH_plain _ _ _ (by kernel_rfl)] at h
  have hd : (Rows.laid_egress_status_names : DataW Unit) = .agg (nmL.map fun s => .lit (.string s.data.toList)) := by kernel_rfl
  have he : Rows.statusNextRow.laid = [("egress/status.names", Rows.laid_egress_status_names)] := rfl
  rw [he, hd] at h
  exact (strsAt_of_head (g := 0) (by kernel_rfl) (by kernel_rfl) Tryd.underlying42 Tryd.underlying9 (by kernel_rfl) (by kernel_rfl) h).row (by kernel_rfl)
theorem NamesAt.lt {w : World} (h : NamesAt w) : 0 < w.heap.size := by
  obtain ⟨t, fr, h⟩ := h
  exact (Array.getElem?_eq_some_iff.1 h).1
theorem NamesAt.below {w w' : World} (h : NamesAt w) (hb : Below w.heap.size w w') : NamesAt w' := by
  have hl := h.lt
  obtain ⟨t, fr, h⟩ := h
  exact ⟨t, fr, (hb.block _ hl).trans h⟩
theorem NamesAt.cell {w : World} (h : NamesAt w) (k : Nat) (hk : k < 7) : w.cell? ⟨0, k, none⟩ = some (.string (nm k)) := by
  obtain ⟨t, fr, h⟩ := h
  simp only [World.cell?, h]
  obtain rfl | rfl | rfl | rfl | rfl | rfl | rfl : k = 0 ∨ k = 1 ∨ k = 2 ∨ k = 3 ∨ k = 4 ∨ k = 5 ∨ k = 6 := by omega
  all_goals rfl
theorem nm_inj : ∀ k, k < 7 → ∀ j, j < 7 → nm k = nm j → k = j := by decide
theorem nm_cases (s : ByteArray) : (∃ k, k < 7 ∧ s = nm k) ∨ ∀ k, k < 7 → nm k ≠ s := by
  rcases Classical.em (∃ k, k < 7 ∧ s = nm k) with h | h
  · exact .inl h
  · exact .inr fun k hk e => h ⟨k, hk, e.symm⟩
theorem nm_ne_empty : ∀ k, k < 7 → (nm k).size ≠ 0 := by decide

theorem name_yes (k : Nat) (hk : k < 7) (w : World) (h : NamesAt w) : Calls Tryd.prog 18 #[.int .i64 ((k : Int) + 1)] w fun e w' => e = .returned (.string (nm k)) ∧ w = w' := by
  have hc := h.cell k hk
  clear h
  have h1 : ((k : Int) + 1 < 1) = False := by simp; omega
  go_enter Tryd.func18, Tryd.ntmps18
  go_wp2
  go_ret
  exact ⟨rfl, rfl⟩
theorem name_no (s : Int) (hs : s < 1 ∨ 7 < s) (w : World) : Calls Tryd.prog 18 #[.int .i64 s] w fun e w' => e = .returned (.string ⟨#[]⟩) ∧ w = w' := by
  rcases hs with h | h
  · go_enter Tryd.func18, Tryd.ntmps18
    go_wp2
    go_ret
    exact ⟨rfl, rfl⟩
  · have h' : ¬ s < 1 := by omega
    go_enter Tryd.func18, Tryd.ntmps18
    go_wp2
    go_ret
    exact ⟨rfl, rfl⟩
theorem refnames_any (w : World) : Calls Tryd.prog 16 #[] w fun e w' => ∃ b, e = .returned (.slice (some ⟨b, 0, none⟩) 7 7) ∧ w.heap.size ≤ b ∧ Blk w' b 9 nmC ∧ Below w.heap.size w w' := by
  go_enter Tryd.func16, Tryd.ntmps16
  go_wp2
  go_ret
  exact ⟨_, rfl, Nat.le_refl _, Blk.new w _ _, (Below.refl _ _).alloc (Nat.le_refl _) _⟩
end Go.Proofs.YtdkojcmffkhpkaaDoor
