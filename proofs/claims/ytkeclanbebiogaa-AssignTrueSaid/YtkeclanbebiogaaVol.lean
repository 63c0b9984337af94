/- Voluntary exits alone, boundary by boundary, as plain numbers. -/
import Derived.Test.YtkeclanbebiogaaBegin
import Derived.Test.YtkeclanbebiogaaRFore
namespace Go.Proofs.Ytkeclanbebiogaa
open Go
set_option linter.unusedVariables false
set_option linter.unusedSimpArgs false
set_option maxRecDepth 100000

/-- The indices from p to n. -/
def ixs (p n : Nat) : List Int := (List.range' p (n - p)).map fun (i : Nat) => (i : Int)
theorem ixs_len (p n : Nat) : (ixs p n).length = n - p := by simp [ixs]
theorem ixs_drop (p n q : Nat) : (ixs p n).drop q = ixs (p + q) n := by
  rw [ixs, ixs, ← List.map_drop, List.drop_range']
  congr 2 <;> omega
theorem ixs_at {p n j : Nat} (h : p + j < n) : (ixs p n)[j]? = some ((p + j : Nat) : Int) := by
  rw [ixs, List.getElem?_map, List.getElem?_range' (by omega)]
  simp
theorem ixs_snoc (n : Nat) : ixs 0 n ++ [(n : Int)] = ixs 0 (n + 1) := by
  rw [ixs, ixs, show n + 1 - 0 = (n - 0) + 1 by omega, List.range'_concat, List.map_append]
  simp
theorem ixs_nil (n : Nat) : ixs n n = [] := by simp [ixs]
theorem ixs_head {p n : Nat} (h : p < n) : hdB [] (ixs p n) = true ∧ hdI [] (ixs p n) = (p : Int) := by
  have h1 := ixs_at (p := p) (n := n) (j := 0) (by omega)
  generalize ixs p n = l at h1
  match l, h1 with
  | [], h1 => simp at h1
  | x :: l, h1 => simp at h1; exact ⟨rfl, h1⟩
section
variable {z : List Int} {p n : Nat} {B lim k : Int}
theorem vol_step (hn : z.length = n) (hp : p ≤ n) (hz : ∀ i, 0 ≤ z.getD i 0) (hk : 1 ≤ k) (hl : 0 ≤ lim) (hB0 : 0 ≤ B) (hB : p < n → B = (k - 1) * lim - sumTo z p) (hst : p < n → Stuck 0 lim z k p) (hx : B + lim ≤ 18446744073709551615) :
    ∃ q, p + q ≤ n ∧ (stp (wOf z) [] (ixs p n) B lim).1.length = q ∧ (stp (wOf z) [] (ixs p n) B lim).2.1 = [] ∧ (stp (wOf z) [] (ixs p n) B lim).2.2.1 = ixs (p + q) n ∧
      (∀ j, j < q → (stp (wOf z) [] (ixs p n) B lim).1[j]? = some (((p + j : Nat) : Int), 1) ∧ At 0 lim (sumTo z (p + j + 1)) k) ∧
      0 ≤ balOf (stp (wOf z) [] (ixs p n) B lim) ∧ (p + q < n → balOf (stp (wOf z) [] (ixs p n) B lim) = k * lim - sumTo z (p + q) ∧ Stuck 0 lim z (k + 1) (p + q)) ∧ (p + q = n → balOf (stp (wOf z) [] (ixs p n) B lim) = 0) := by
  have hw : ∀ i : Nat, i < n → wOf z i = z.getD i 0 := fun i hi => wOf_in (by omega)
  have ho : ∀ i, 0 ≤ wOf z i := fun i => by
    unfold wOf
    split
    · exact hz _
    · exact Int.le_refl _
  obtain ⟨v1, v2, v3⟩ := asg_vol (wOf z) (ixs p n) (gr B lim)
  obtain ⟨f1, f2, f3, f4, f5, f6⟩ := stp_facts ho [] (ixs p n) hB0 hl hx
  have hsp := stp_spent (wOf z) [] (ixs p n) B lim
  have hgr := gr_room hx
  change (stp (wOf z) [] (ixs p n) B lim).2.1 = [] at v1
  change ixs p n = (stp (wOf z) [] (ixs p n) B lim).1.map (·.1) ++ (stp (wOf z) [] (ixs p n) B lim).2.2.1 at v2
  change ∀ e ∈ (stp (wOf z) [] (ixs p n) B lim).1, e.2 = 1 at v3
  generalize stp (wOf z) [] (ixs p n) B lim = r at *
  obtain ⟨out, F, V, E⟩ := r
  dsimp only at *
  subst v1
  have hlen : out.length ≤ n - p := by have := congrArg List.length v2; rw [ixs_len] at this; simp at this; omega
  have hat : ∀ j, j < out.length → out[j]? = some (((p + j : Nat) : Int), 1) := fun j hj => by
    have h1 : (ixs p n)[j]? = some ((p + j : Nat) : Int) := ixs_at (by omega)
    rw [v2, List.getElem?_append_left (by simpa using hj), List.getElem?_map, List.getElem?_eq_getElem hj] at h1
    simp at h1
    rw [List.getElem?_eq_getElem hj]
    have h2 := v3 out[j] (List.getElem_mem hj)
    exact congrArg some (Prod.ext (by simpa using h1) h2)
  have hV : V = ixs (p + out.length) n := by
    rw [← ixs_drop, v2, List.drop_append_of_le_length (by simp), List.drop_of_length_le (by simp), List.nil_append]
  have hsum : ∀ j, j ≤ out.length → sumW (wOf z) (out.take j) = sumTo z (p + j) - sumTo z p := by
    intro j
    induction j with
    | zero => intro _; simp [sumW]
    | succ j ih =>
      intro hj
      rw [sumW_take_succ (wOf z) (hat j (by omega)), ih (by omega)]
      dsimp only
      rw [hw (p + j) (by omega)]
      show _ = sumTo z (p + j) + z.getD (p + j) 0 - sumTo z p
      omega
  have htot := hsum out.length (Nat.le_refl _)
  rw [List.take_of_length_le (Nat.le_refl _)] at htot
  have hmono : ∀ a b, a ≤ b → sumTo z a ≤ sumTo z b := fun a b h => by
    have := sumTo_mono hz a (b - a)
    rwa [show a + (b - a) = b by omega] at this
  have hpm := pred_mul k lim
  have hsm : (k + 1 - 1) * lim = k * lim := by rw [show k + 1 - 1 = k by omega]
  refine ⟨out.length, by omega, rfl, rfl, hV, fun j hj => ⟨hat j hj, hk, ?_, ?_⟩, f3, fun hlt => ?_, fun he => ?_⟩
  · have h1 := hB (by omega)
    have h2 := hmono (p + j + 1) (p + out.length) (by omega)
    omega
  · rcases hst (by omega) with h | h
    · exact .inl h
    · have h2 := hmono (p + 1) (p + j + 1) (by omega)
      exact .inr (by omega)
  · have hh := ixs_head hlt
    rw [← hV] at hh
    have h1 := hB (by omega)
    have h5 := f5 hh.1
    rw [hh.2, hw _ hlt] at h5
    have hb : balOf (out, [], V, E) = E := by rw [balOf, if_pos hh.1]
    rw [hb] at h5 ⊢
    refine ⟨by omega, .inr ?_⟩
    rw [hsm]
    show _ < sumTo z (p + out.length) + z.getD (p + out.length) 0
    omega
  · rw [he, ixs_nil] at hV
    subst hV
    exact f6 rfl
end
end Go.Proofs.Ytkeclanbebiogaa
