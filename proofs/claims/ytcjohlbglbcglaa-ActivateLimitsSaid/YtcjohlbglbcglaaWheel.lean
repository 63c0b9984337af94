/- A list that lies in a row of places, round its end: reading it out in two pieces, laying more behind it in two pieces, taking from its head. Plain lists; no program in sight. -/
import Derived.Test.YtcjohlbglbcglaaWords
import Derived.Laws.CopyOwn
namespace Go.Proofs.Ytcjohlbglbcglaa

/-- The list F lies in the row C from place f on, round the row's end. -/
def Wheel {α : Type} (C : List α) (f : Nat) (F : List α) : Prop := F.length ≤ C.length ∧ f < C.length ∧ ∀ t v, F[t]? = some v → C[(f + t) % C.length]? = some v

theorem wmod {N s : Nat} (h : s < 2 * N) : (s < N ∧ s % N = s) ∨ (N ≤ s ∧ s % N = s - N) := by
  rcases Nat.lt_or_ge s N with h1 | h1
  · exact .inl ⟨h1, Nat.mod_eq_of_lt h1⟩
  · refine .inr ⟨h1, ?_⟩
    rw [Nat.mod_eq_sub_mod h1]
    exact Nat.mod_eq_of_lt (by omega)

theorem splice_get {α : Type} (L : List α) (off : Nat) (cs : List α) (h : off + cs.length ≤ L.length) (p : Nat) :
    (splice L off cs)[p]? = if p < off then L[p]? else if p < off + cs.length then cs[p - off]? else L[p]? := by
  unfold splice
  have hl : (L.take off).length = off := by simp; omega
  by_cases h1 : p < off
  · rw [if_pos h1, List.getElem?_append_left (by omega), List.getElem?_take_of_lt h1]
  · rw [if_neg h1, List.getElem?_append_right (by omega), hl]
    by_cases h2 : p < off + cs.length
    · rw [if_pos h2, List.getElem?_append_left (by omega)]
    · rw [if_neg h2, List.getElem?_append_right (by omega), List.getElem?_drop]
      congr 1
      omega

section
variable {α : Type} {C F : List α} {f : Nat}
theorem Wheel.read1 (h : Wheel C f F) {u : Nat} (hu : f + u ≤ C.length) (j : Nat) (v : α) (hv : (F.take u)[j]? = some v) : C[f + j]? = some v := by
  have hj : j < u := by
    rcases Nat.lt_or_ge j u with h1 | h1
    · exact h1
    · rw [List.getElem?_eq_none (by simp; omega)] at hv; cases hv
  rw [List.getElem?_take_of_lt hj] at hv
  have := h.2.2 j v hv
  rwa [Nat.mod_eq_of_lt (by omega)] at this
theorem Wheel.read2 (h : Wheel C f F) (j : Nat) (v : α) (hv : (F.drop (C.length - f))[j]? = some v) : C[j]? = some v := by
  rw [List.getElem?_drop] at hv
  have hj : C.length - f + j < F.length := by
    rcases Nat.lt_or_ge (C.length - f + j) F.length with h1 | h1
    · exact h1
    · rw [List.getElem?_eq_none h1] at hv; cases hv
  obtain ⟨h1, h2, h3⟩ := h
  have := h3 _ v hv
  rw [show f + (C.length - f + j) = C.length + j by omega, Nat.add_mod_left, Nat.mod_eq_of_lt (by omega)] at this
  exact this
theorem Wheel.of_prefix {Z : List α} (h : 0 < (F ++ Z).length) : Wheel (F ++ Z) 0 F := by
  refine ⟨by simp, h, fun t v hv => ?_⟩
  have ht : t < F.length := by
    rcases Nat.lt_or_ge t F.length with h1 | h1
    · exact h1
    · rw [List.getElem?_eq_none h1] at hv; cases hv
  rw [Nat.zero_add, Nat.mod_eq_of_lt (by simp; omega), List.getElem?_append_left ht]
  exact hv
/-- Laying cs behind F: first up to the row's end, then from its head on. -/
theorem Wheel.push (h : Wheel C f F) {cs : List α} (hc : F.length + cs.length ≤ C.length) {s u : Nat} (hs : s = (f + F.length) % C.length) (hu : u = min cs.length (C.length - s)) :
    Wheel (splice (splice C s (cs.take u)) 0 (cs.drop u)) f (F ++ cs) := by
  obtain ⟨h1, h2, h3⟩ := h
  have hsN : s < C.length := by rw [hs]; exact Nat.mod_lt _ (by omega)
  have l1 : (cs.take u).length = u := by simp; omega
  have l2 : (cs.drop u).length = cs.length - u := by simp
  have e1 : (splice C s (cs.take u)).length = C.length := length_splice _ _ _ (by omega)
  have e2 : (splice (splice C s (cs.take u)) 0 (cs.drop u)).length = C.length := by rw [length_splice _ _ _ (by omega), e1]
  refine ⟨by rw [e2]; simpa using hc, by omega, fun t v hv => ?_⟩
  rw [e2, splice_get _ _ _ (by omega), splice_get _ _ _ (by omega), l1, l2]
  have hws := wmod (N := C.length) (s := f + F.length) (by omega)
  rw [← hs] at hws
  have ht : t < F.length + cs.length := by
    rcases Nat.lt_or_ge t (F.length + cs.length) with h4 | h4
    · exact h4
    · rw [List.getElem?_eq_none (by simpa using h4)] at hv; cases hv
  have hwt := wmod (N := C.length) (s := f + t) (by omega)
  generalize hp : (f + t) % C.length = p at *
  by_cases htF : t < F.length
  · rw [List.getElem?_append_left htF] at hv
    have := h3 t v hv
    rw [hp] at this
    rw [if_neg (by omega), if_neg (by omega)]
    by_cases h5 : p < s
    · rw [if_pos h5]; exact this
    · rw [if_neg h5, if_neg (by omega)]; exact this
  · rw [List.getElem?_append_right (by omega)] at hv
    rw [if_neg (by omega)]
    by_cases hr : t - F.length < u
    · rw [if_neg (by omega), if_neg (by omega), if_pos (by omega), List.getElem?_take_of_lt (by omega), show p - s = t - F.length by omega]
      exact hv
    · rw [if_pos (by omega), List.getElem?_drop, show u + (p - 0) = t - F.length by omega]
      exact hv
/-- Taking k from the head; the places are overwritten. -/
theorem Wheel.pop (h : Wheel C f F) {k : Nat} (hk : k ≤ F.length) {C' : List α} (hl : C'.length = C.length) (hC : ∀ p, p < f ∨ f + k ≤ p → C'[p]? = C[p]?) : Wheel C' ((f + k) % C.length) (F.drop k) := by
  obtain ⟨h1, h2, h3⟩ := h
  refine ⟨by rw [hl, List.length_drop]; omega, by rw [hl]; exact Nat.mod_lt _ (by omega), fun t v hv => ?_⟩
  rw [List.getElem?_drop] at hv
  have ht : k + t < F.length := by
    rcases Nat.lt_or_ge (k + t) F.length with h4 | h4
    · exact h4
    · rw [List.getElem?_eq_none h4] at hv; cases hv
  have := h3 _ v hv
  rw [hl, Nat.mod_add_mod, Nat.add_assoc]
  have hwt := wmod (N := C.length) (s := f + (k + t)) (by omega)
  generalize (f + (k + t)) % C.length = p at *
  rw [hC p (by omega)]
  exact this
theorem Wheel.get (h : Wheel C f F) {t : Nat} {v : α} (hv : F[t]? = some v) : C[(f + t) % C.length]? = some v := h.2.2 t v hv
end
end Go.Proofs.Ytcjohlbglbcglaa
