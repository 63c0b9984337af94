/- The names of the kinds: the package variable, op.Name; the reference's Names. -/
import Derived.Test.YtjbbcnepeffiaaaDoorKept
import Derived.Test.YtjbbcnepeffiaaaDoorClass
import Derived.Test.YtjbbcnepeffiaaaDoorStrTab
import Derived.Test.YtjbbcnepeffiaaaDoorRows
namespace Go.Proofs.YtjbbcnepeffiaaaDoor
open Go Go.RowKit Go.Maps Go.ChangeShapes Go.WideShapes
set_option linter.unusedVariables false
set_option linter.unusedSimpArgs false
set_option maxRecDepth 100000

/-- deposit, exit, eject, slash, consolidate, partial, tick -/
def nmL : List ByteArray := [⟨#[100, 101, 112, 111, 115, 105, 116]⟩, ⟨#[101, 120, 105, 116]⟩, ⟨#[101, 106, 101, 99, 116]⟩, ⟨#[115, 108, 97, 115, 104]⟩, ⟨#[99, 111, 110, 115, 111, 108, 105, 100, 97, 116, 101]⟩, ⟨#[112, 97, 114, 116, 105, 97, 108]⟩, ⟨#[116, 105, 99, 107]⟩]
def nm (k : Nat) : ByteArray := nmL.getD k ByteArray.empty
def nmC : Array Value := (nmL.map Value.string).toArray
/-- The package variable's block. -/
def NamesAt (w : World) : Prop := ∃ t fr, w.heap[0]? = some (.cells nmC t fr)

theorem NamesAt.lt {w : World} (h : NamesAt w) : 0 < w.heap.size := by
  obtain ⟨t, fr, h⟩ := h
  exact (Array.getElem?_eq_some_iff.1 h).1
theorem NamesAt.below {w w' : World} (h : NamesAt w) (hb : Below w.heap.size w w') : NamesAt w' := by
  have hl := h.lt
  obtain ⟨t, fr, h⟩ := h
  exact ⟨t, fr, (hb.block _ hl).trans h⟩
theorem NamesAt.cell {w : World} (h : NamesAt w) (k : Nat) (hk : k < 7) : w.cell? ⟨0, k, none⟩ = some (.string (nm k)) := by
  obtain ⟨t, fr, h⟩ := h
  simp only [World.cell?, h]
  obtain rfl | rfl | rfl | rfl | rfl | rfl | rfl : k = 0 ∨ k = 1 ∨ k = 2 ∨ k = 3 ∨ k = 4 ∨ k = 5 ∨ k = 6 := by omega
  all_goals rfl
theorem nm_inj : ∀ k, k < 7 → ∀ j, j < 7 → nm k = nm j → k = j := by decide
theorem nm_cases (s : ByteArray) : (∃ k, k < 7 ∧ s = nm k) ∨ ∀ k, k < 7 → nm k ≠ s := by
  rcases Classical.em (∃ k, k < 7 ∧ s = nm k) with h | h
  · exact .inl h
  · exact .inr fun k hk e => h ⟨k, hk, e.symm⟩
theorem nm_ne_empty : ∀ k, k < 7 → (nm k).size ≠ 0 := by decide

theorem name_yes (k : Nat) (hk : k < 7) (w : World) (h : NamesAt w) : Calls Tryd.prog 28 #[.int .i64 ((k : Int) + 1)] w fun e w' => e = .returned (.string (nm k)) ∧ w = w' := by
  have hc := h.cell k hk
  clear h
  have h1 : ((k : Int) + 1 < 1) = False := by simp; omega
  go_enter Tryd.func28, Tryd.ntmps28
  go_wp2
  go_ret
  exact ⟨rfl, rfl⟩
theorem name_no (s : Int) (hs : s < 1 ∨ 7 < s) (w : World) : Calls Tryd.prog 28 #[.int .i64 s] w fun e w' => e = .returned (.string ⟨#[]⟩) ∧ w = w' := by
  rcases hs with h | h
  · go_enter Tryd.func28, Tryd.ntmps28
    go_wp2
    go_ret
    exact ⟨rfl, rfl⟩
  · have h' : ¬ s < 1 := by omega
    go_enter Tryd.func28, Tryd.ntmps28
    go_wp2
    go_ret
    exact ⟨rfl, rfl⟩
theorem refnames_any (w : World) : Calls Tryd.prog 33 #[] w fun e w' => ∃ b, e = .returned (.slice (some ⟨b, 0, none⟩) 7 7) ∧ w.heap.size ≤ b ∧ Blk w' b 9 nmC ∧ Below w.heap.size w w' := by
  go_enter Tryd.func33, Tryd.ntmps33
  go_wp2
  go_ret
  exact ⟨_, rfl, Nat.le_refl _, Blk.new w _ _, (Below.refl _ _).alloc (Nat.le_refl _) _⟩
theorem str_ne {a b : ByteArray} (h : a ≠ b) : (a.toList == b.toList) = false := by
  rw [ByteArray.toList_eq, ByteArray.toList_eq, beq_eq_false_iff_ne]
  exact fun e => h (WideShapes.bytes_inj e)
theorem str_eq (a : ByteArray) : (a.toList == a.toList) = true := beq_self_eq_true _
theorem nmC_at (k : Nat) (hk : k < 7) : nmC[k]? = some (.string (nm k)) := by
  obtain rfl | rfl | rfl | rfl | rfl | rfl | rfl : k = 0 ∨ k = 1 ∨ k = 2 ∨ k = 3 ∨ k = 4 ∨ k = 5 ∨ k = 6 := by omega
  all_goals rfl
end Go.Proofs.YtjbbcnepeffiaaaDoor
