/- A slice of integers that is read in rounds: its address is asked for where there is an element. No program in sight. -/
import Derived.Test.YtniehmlklbggdaaDoorWords
namespace Go.Proofs.YtniehmlklbggdaaDoor
open Go Go.RowKit
def Rd (k : IntKind) (w : World) (a : Option Addr) (len : Nat) (z : List Int) : Prop :=
  0 < len → ∃ b off, a = some ⟨b, off, none⟩ ∧ b < w.heap.size ∧ ∀ i, i < len → w.cell? ⟨b, off + i, none⟩ = some (.int k (z.getD i 0)) ∧ (Lit.int k (z.getD i 0)).wf = true
section
variable {k : IntKind} {w w' : World} {a : Option Addr} {len cap : Nat} {z : List Int}
theorem Rd.of_row (h : IsRow k w a len cap z) : Rd k w a len z := fun h0 => by
  obtain ⟨b, off, h1, h2, _, h3⟩ := row_cells h h0
  exact ⟨b, off, h1, h2, h3⟩
theorem Rd.below (h : Rd k w a len z) (hb : Below w.heap.size w w') : Rd k w' a len z := fun h0 => by
  obtain ⟨b, off, h1, h2, h3⟩ := h h0
  exact ⟨b, off, h1, Nat.lt_of_lt_of_le h2 hb.size, fun i hi => ⟨(hb.cell (p := ⟨b, off + i, none⟩) h2).trans (h3 i hi).1, (h3 i hi).2⟩⟩
theorem Rd.drewN (h : Rd k w a len z) (n : Nat) : Rd k (w.drewN n) a len z := h
theorem Rd.less {m : Nat} (h : Rd k w a len z) (hm : m ≤ len) : Rd k w a m z := fun h0 => by
  obtain ⟨b, off, h1, h2, h3⟩ := h (by omega)
  exact ⟨b, off, h1, h2, fun i hi => h3 i (by omega)⟩
theorem IsRow.len_le (h : IsRow k w a len cap z) : len ≤ cap ∧ len ≤ 9223372036854775807 ∧ cap ≤ 9223372036854775807 ∧ len ≤ z.length := by
  rcases h with ⟨_, h1, h2, h3⟩ | ⟨x, _, h1, h2, h3, _⟩
  · subst h1 h2; simp
  · unfold maxLen at h2; omega
theorem take_drop_cons {z : List Int} {len k : Nat} (hz : len ≤ z.length) (hk : k < len) : (z.take len).drop k = z.getD k 0 :: (z.take len).drop (k + 1) := by
  rw [List.drop_eq_getElem_cons (by simp; omega)]
  congr 1
  rw [List.getElem_take, List.getD_eq_getElem?_getD, List.getElem?_eq_getElem (by omega)]
  rfl
theorem take_drop_all {z : List Int} {len : Nat} : (z.take len).drop len = [] := List.drop_eq_nil_of_le (by simp; omega)
end
end Go.Proofs.YtniehmlklbggdaaDoor
