/- Indices that are seen once each. -/
import Derived.Test.YtokkdeoimhibpaaMade
namespace Go.Proofs.Ytokkdeoimhibpaa
open Go Go.RowKit Go.Deep
set_option linter.unusedVariables false
set_option linter.unusedSimpArgs false

/-- Which of n indices are among the first j of P. -/
def seenL (n : Nat) (P : List Nat) (j : Nat) : List Bool := (List.range n).map fun i => decide (i ∈ P.take j)
theorem seenL_len (n : Nat) (P : List Nat) (j : Nat) : (seenL n P j).length = n := by simp [seenL]
theorem seenL_zero (n : Nat) (P : List Nat) : seenL n P 0 = List.replicate n false := by
  refine List.ext_getElem (by simp [seenL]) fun i h1 h2 => ?_
  simp [seenL]
theorem seenL_at {n : Nat} {P : List Nat} {j i : Nat} (hi : i < n) : (seenL n P j).getD i false = decide (i ∈ P.take j) := by
  rw [List.getD_eq_getElem?_getD, seenL, List.getElem?_map, List.getElem?_range hi]
  rfl
theorem seenL_new {P : List Nat} {j i : Nat} (hP : P.Nodup) (hj : P[j]? = some i) : i ∉ P.take j := by
  obtain ⟨hl, e⟩ := List.getElem?_eq_some_iff.1 hj
  intro hm
  obtain ⟨k, hk, e2⟩ := List.getElem_of_mem hm
  rw [List.length_take] at hk
  rw [List.getElem_take] at e2
  have := (List.getElem_inj hP).1 (e2.trans e.symm)
  omega
theorem seenL_succ {n : Nat} {P : List Nat} {j i : Nat} (hj : P[j]? = some i) (hi : i < n) : (seenL n P j).set i true = seenL n P (j + 1) := by
  obtain ⟨hl, e⟩ := List.getElem?_eq_some_iff.1 hj
  refine List.ext_getElem (by simp [seenL]) fun k h1 h2 => ?_
  rw [List.getElem_set]
  simp only [seenL, List.getElem_map, List.getElem_range]
  rw [List.take_add_one, hj]
  by_cases hk : i = k
  · subst hk; simp
  · rw [if_neg hk]
    have hk' : ¬ k = i := fun e => hk e.symm
    simp [hk']
theorem Own.side {w0 w w' : World} {c s g : Nat} (h : Own w0 w c s) (k : Kept (fun i => i = g) w w') (hg : c ≠ g) (hb : w0.heap.size ≤ g) : Own w0 w' c s :=
  ⟨Blk.kept h.1 k hg, h.2.1, Kept.below h.2.2 k (fun i hi => by rw [hi]; exact hb) h.2.2.size⟩
theorem paidZ_at {L : List Bool} {s m j i : Nat} (h : (paidN L s m)[j]? = some i) : (paidZ L s m).getD j 0 = (i : Int) := by
  rw [List.getD_eq_getElem?_getD, paidZ, List.getElem?_map, h]
  rfl
end Go.Proofs.Ytokkdeoimhibpaa
