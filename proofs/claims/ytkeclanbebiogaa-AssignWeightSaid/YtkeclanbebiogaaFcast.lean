/- Forecasts, as plain numbers. -/
import Derived.Test.YtkeclanbebiogaaAdd
import Derived.Test.YtkeclanbebiogaaAmts
namespace Go.Proofs.Ytkeclanbebiogaa
open Go
set_option linter.unusedVariables false
set_option linter.unusedSimpArgs false
set_option maxRecDepth 100000

/-- Boundary k is the first one at which the grants cover P. -/
def At (bal lim P k : Int) : Prop := 1 ≤ k ∧ P ≤ bal + k * lim ∧ (k = 1 ∨ bal + (k - 1) * lim < P)
/-- What a forecast says where P must be covered. -/
def Fc (bal lim P v : Int) : Prop := (v ≤ 2147483648 ∧ At bal lim P v) ∨ (v = -1 ∧ bal + 2147483648 * lim < P)
section
variable {bal lim P Q k j v : Int}
theorem mul_le (h0 : 0 ≤ lim) (h : k ≤ j) : k * lim ≤ j * lim := Int.mul_le_mul_of_nonneg_right h h0
theorem pred_mul (k lim : Int) : (k - 1) * lim = k * lim - lim := by rw [Int.sub_mul, Int.one_mul]
theorem succ_mul (k lim : Int) : (k + 1) * lim = k * lim + lim := by rw [Int.add_mul, Int.one_mul]
theorem At.before (h0 : 0 ≤ lim) (h : At bal lim P k) (hj : P ≤ bal + j * lim) (h1 : 1 ≤ j) : k ≤ j := by
  rcases Int.lt_or_le j k with hk | hk
  · obtain ⟨a, b, c⟩ := h
    rcases c with c | c
    · omega
    · have := mul_le h0 (show j ≤ k - 1 by omega)
      omega
  · exact hk
theorem At.unique (h0 : 0 ≤ lim) (h : At bal lim P k) (h' : At bal lim P j) : k = j := by
  have := h.before h0 h'.2.1 h'.1
  have := h'.before h0 h.2.1 h.1
  omega
/-- A forecast names a boundary if there is one. -/
theorem Fc.at (h0 : 0 ≤ lim) (h : Fc bal lim P v) (h' : At bal lim P k) (hk : k ≤ 2147483648) : v = k := by
  rcases h with ⟨_, h⟩ | ⟨_, h⟩
  · exact h.unique h0 h'
  · have := mul_le h0 hk
    have := h'.2.1
    omega
theorem Fc.bound (h : Fc bal lim P v) : -1 ≤ v ∧ v ≤ 2147483648 := by
  rcases h with ⟨h1, h2⟩ | ⟨h1, h2⟩
  · have := h2.1; omega
  · omega
/-- Where the first grants do not reach. -/
theorem Fc.late (h0 : 0 ≤ lim) (h : Fc bal lim P v) (hk : bal + k * lim < P) : v = -1 ∨ k < v := by
  rcases h with ⟨h1, h2⟩ | ⟨h1, h2⟩
  · refine .inr ?_
    rcases Int.lt_or_le k v with h | h
    · exact h
    · have := mul_le h0 h
      have := h2.2.1
      omega
  · exact .inl h1
end
/-- What a forecast keeps behind k exits: the balance, the boundary. -/
def TInv (bal lim : Int) (z : List Int) (k : Nat) (B g : Int) : Prop := B = bal + g * lim - sumTo z k ∧ 0 ≤ B ∧ B ≤ 18446744073709551615 ∧ 0 ≤ g ∧ g ≤ 2147483648 ∧ (g = 0 ∨ B < lim)
section
variable {bal lim B g x : Int} {z : List Int} {k : Nat}
/-- The boundary that is told. -/
def mx (g : Int) : Int := if 1 < g then g else 1
theorem mx_max (g : Int) : max 1 g = mx g := by unfold mx; split <;> omega
theorem mx_bound {g : Int} (h : g ≤ 2147483648) : 1 ≤ mx g ∧ mx g ≤ 2147483648 := by unfold mx; split <;> omega
theorem TInv.fit (h : TInv bal lim z k B g) (h0 : 0 ≤ lim) (x0 : 0 ≤ z.getD k 0) (hx : z.getD k 0 ≤ B) : TInv bal lim z (k + 1) (B - z.getD k 0) g ∧ Fc bal lim (sumTo z (k + 1)) (mx g) := by
  obtain ⟨a, b, c, d, e, f⟩ := h
  have hs : sumTo z (k + 1) = sumTo z k + z.getD k 0 := rfl
  refine ⟨⟨by rw [hs]; omega, by omega, by omega, d, e, by omega⟩, .inl ⟨by unfold mx; split <;> omega, ?_⟩⟩
  have hm := pred_mul g lim
  by_cases hg : 1 < g
  · rw [mx, if_pos hg]
    exact ⟨by omega, by omega, .inr (by omega)⟩
  · rw [mx, if_neg hg]
    refine ⟨by omega, ?_, .inl rfl⟩
    obtain hg | hg : g = 0 ∨ g = 1 := by omega
    · subst hg; omega
    · subst hg; omega
theorem TInv.never0 (h : TInv bal lim z k B g) (hl : lim = 0) (hx : B < z.getD k 0) : bal + 2147483648 * lim < sumTo z (k + 1) := by
  obtain ⟨a, b, c, d, e, f⟩ := h
  have hs : sumTo z (k + 1) = sumTo z k + z.getD k 0 := rfl
  subst hl
  omega
theorem ceil_spec {a d : Int} (h0 : 0 ≤ a) (h1 : 1 ≤ d) : a ≤ ceilQ a d * d ∧ ceilQ a d * d < a + d := by
  have h2 := Int.mul_ediv_add_emod a d
  have h3 := Int.emod_nonneg a (show d ≠ 0 by omega)
  have h4 := Int.emod_lt_of_pos a (show 0 < d by omega)
  have h5 := Int.mul_comm d (a / d)
  unfold ceilQ
  split
  · omega
  · rw [succ_mul]; omega
theorem TInv.never1 (h : TInv bal lim z k B g) (hl : 1 ≤ lim) (hx : B < z.getD k 0) (hc : 2147483648 - g < ceilQ (z.getD k 0 - B) lim) : bal + 2147483648 * lim < sumTo z (k + 1) := by
  obtain ⟨a, b, c, d, e, f⟩ := h
  have hs : sumTo z (k + 1) = sumTo z k + z.getD k 0 := rfl
  have hq := ceil_spec (a := z.getD k 0 - B) (d := lim) (by omega) hl
  generalize ceilQ (z.getD k 0 - B) lim = q at *
  have h1 := mul_le (lim := lim) (by omega) (show 2147483648 ≤ g + q - 1 by omega)
  have h2 := pred_mul (g + q) lim
  have h3 := Int.add_mul g q lim
  omega
theorem TInv.go (h : TInv bal lim z k B g) (hl : 1 ≤ lim) (hl2 : lim ≤ 18446744073709551615) (hx : B < z.getD k 0) (hc : ¬ 2147483648 - g < ceilQ (z.getD k 0 - B) lim) :
    TInv bal lim z (k + 1) (ceilQ (z.getD k 0 - B) lim * lim - (z.getD k 0 - B)) (g + ceilQ (z.getD k 0 - B) lim) ∧ Fc bal lim (sumTo z (k + 1)) (mx (g + ceilQ (z.getD k 0 - B) lim)) ∧ 1 ≤ ceilQ (z.getD k 0 - B) lim := by
  obtain ⟨a, b, c, d, e, f⟩ := h
  have hs : sumTo z (k + 1) = sumTo z k + z.getD k 0 := rfl
  have hq := ceil_spec (a := z.getD k 0 - B) (d := lim) (by omega) hl
  have hq0 := ceilQ_nonneg (z.getD k 0 - B) lim (by omega) hl
  generalize ceilQ (z.getD k 0 - B) lim = q at *
  have h3 := Int.add_mul g q lim
  have hq1 : 1 ≤ q := by
    rcases Int.lt_or_le q 1 with h | h
    · obtain rfl : q = 0 := by omega
      omega
    · exact h
  refine ⟨⟨by omega, by omega, by omega, by omega, by omega, .inr (by omega)⟩, .inl ⟨by unfold mx; split <;> omega, ?_⟩, hq1⟩
  have hm := pred_mul (g + q) lim
  by_cases hg : 1 < g + q
  · rw [mx, if_pos hg]
    exact ⟨by omega, by omega, .inr (by omega)⟩
  · rw [mx, if_neg hg]
    have h1 : g + q = 1 := by omega
    rw [h1] at h3
    exact ⟨by omega, by omega, .inl rfl⟩
end
end Go.Proofs.Ytkeclanbebiogaa
