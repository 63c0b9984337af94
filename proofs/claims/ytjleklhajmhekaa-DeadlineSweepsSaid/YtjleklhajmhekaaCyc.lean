/- A cyclic sweep in plain numbers: the indices that the first visits pay, where it stops, what is seen. No program in sight. -/
import Derived.Test.YtjleklhajmhekaaWords
namespace Go.Proofs.Ytjleklhajmhekaa

/-- The indices that the first k visits pay, beginning at s. -/
def paidN (L : List Bool) (s : Nat) : Nat → List Nat
  | 0 => []
  | k + 1 => if L.getD ((s + k) % L.length) false = true then paidN L s k ++ [(s + k) % L.length] else paidN L s k
def paidZ (L : List Bool) (s k : Nat) : List Int := (paidN L s k).map fun i : Nat => (i : Int)
/-- Where the cursor stands behind k visits. -/
def posN (n s k : Nat) : Nat := if k = 0 then s else (s + k) % n
/-- A sweep stops behind m visits. -/
def Stop (L : List Bool) (s : Nat) (v p : Int) (m : Nat) : Prop :=
  (v ≤ (m : Int) ∨ L.length ≤ m ∨ p ≤ ((paidN L s m).length : Int)) ∧ ∀ j, j < m → (j : Int) < v ∧ j < L.length ∧ ((paidN L s j).length : Int) < p

section
variable {L : List Bool} {s m m' k : Nat} {v p : Int}
theorem Stop.unique (h : Stop L s v p m) (h' : Stop L s v p m') : m = m' := by
  obtain ⟨h1, h2⟩ := h
  obtain ⟨g1, g2⟩ := h'
  rcases Nat.lt_trichotomy m m' with h | h | h
  · have := g2 m h; omega
  · exact h
  · have := h2 m' h; omega
theorem Stop.le (h : Stop L s v p m) : m ≤ L.length := by
  rcases Nat.eq_zero_or_pos m with h0 | h0
  · omega
  · have := h.2 (m - 1) (by omega); omega
theorem Stop.le_v (h : Stop L s v p m) : m = 0 ∨ (m : Int) ≤ v := by
  rcases Nat.eq_zero_or_pos m with h0 | h0
  · exact .inl h0
  · have := h.2 (m - 1) (by omega); omega
theorem paidN_hit (h : L.getD ((s + k) % L.length) false = true) : paidN L s (k + 1) = paidN L s k ++ [(s + k) % L.length] := by rw [paidN, if_pos h]
theorem paidN_miss (h : L.getD ((s + k) % L.length) false = false) : paidN L s (k + 1) = paidN L s k := by rw [paidN, if_neg (by rw [h]; simp)]
theorem paidN_len (L : List Bool) (s k : Nat) : (paidN L s k).length ≤ k := by
  induction k with
  | zero => simp [paidN]
  | succ k ih =>
    rw [paidN]; split
    · rw [List.length_append, List.length_singleton]; omega
    · omega
theorem paidN_len_succ (L : List Bool) (s k : Nat) : (paidN L s (k + 1)).length ≤ (paidN L s k).length + 1 := by
  rw [paidN]; split
  · simp
  · omega
theorem Stop.le_p (h : Stop L s v p m) : (paidN L s m).length = 0 ∨ ((paidN L s m).length : Int) ≤ p := by
  rcases Nat.eq_zero_or_pos m with h0 | h0
  · subst h0; exact .inl rfl
  · obtain ⟨k, rfl⟩ : ∃ k, m = k + 1 := ⟨m - 1, by omega⟩
    have := h.2 k (by omega)
    have := paidN_len_succ L s k
    omega
theorem paidZ_len (L : List Bool) (s k : Nat) : (paidZ L s k).length = (paidN L s k).length := by simp [paidZ]
theorem paidZ_hit (h : L.getD ((s + k) % L.length) false = true) : paidZ L s (k + 1) = paidZ L s k ++ [(((s + k) % L.length : Nat) : Int)] := by simp [paidZ, paidN_hit h]
theorem paidZ_miss (h : L.getD ((s + k) % L.length) false = false) : paidZ L s (k + 1) = paidZ L s k := by simp [paidZ, paidN_miss h]
theorem getD_true_lt {i : Nat} (h : L.getD i false = true) : i < L.length := by
  rcases Nat.lt_or_ge i L.length with h1 | h1
  · exact h1
  · rw [List.getD_eq_getElem?_getD, List.getElem?_eq_none h1] at h; cases h
theorem paidN_mem {i : Nat} : ∀ {k : Nat}, i ∈ paidN L s k → (∃ j, j < k ∧ i = (s + j) % L.length) ∧ L.getD i false = true
  | 0, h => by simp [paidN] at h
  | k + 1, h => by
    rw [paidN] at h
    split at h
    · rename_i hg
      rw [List.mem_append] at h
      rcases h with h | h
      · obtain ⟨⟨j, hj, e⟩, h2⟩ := paidN_mem h
        exact ⟨⟨j, by omega, e⟩, h2⟩
      · rw [List.mem_singleton] at h
        subst h
        exact ⟨⟨k, by omega, rfl⟩, hg⟩
    · obtain ⟨⟨j, hj, e⟩, h2⟩ := paidN_mem h
      exact ⟨⟨j, by omega, e⟩, h2⟩
/-- Two visits of one sweep have different indices. -/
theorem mod_ne {n s i j : Nat} (hij : i < j) (hj : j < i + n) : (s + i) % n ≠ (s + j) % n := by
  intro h
  have h1 := Nat.div_add_mod (s + i) n
  have h2 := Nat.div_add_mod (s + j) n
  rw [h] at h1
  have h3 : n * ((s + j) / n) = n * ((s + i) / n) + (j - i) := by omega
  rcases Nat.lt_trichotomy ((s + j) / n) ((s + i) / n) with hc | hc | hc
  · have := Nat.mul_le_mul_left n (Nat.succ_le_of_lt hc)
    rw [Nat.succ_eq_add_one, Nat.mul_add, Nat.mul_one] at this
    omega
  · rw [hc] at h3; omega
  · have := Nat.mul_le_mul_left n (Nat.succ_le_of_lt hc)
    rw [Nat.succ_eq_add_one, Nat.mul_add, Nat.mul_one] at this
    omega
theorem paidN_nodup : ∀ {k : Nat}, k ≤ L.length → (paidN L s k).Nodup
  | 0, _ => by simp [paidN]
  | k + 1, hk => by
    have ih := paidN_nodup (k := k) (by omega)
    rw [paidN]
    split
    · rw [List.nodup_append]
      refine ⟨ih, by simp, fun a ha b hb => ?_⟩
      rw [List.mem_singleton] at hb
      subst hb
      obtain ⟨⟨j, hj, rfl⟩, _⟩ := paidN_mem ha
      exact mod_ne hj (by omega)
    · exact ih
theorem posN_mod (n s k : Nat) : posN n s k % n = (s + k) % n := by
  unfold posN
  split
  · rename_i h; rw [h, Nat.add_zero]
  · exact Nat.mod_mod _ _
theorem posN_succ (n s k : Nat) : ((s + k) % n + 1) % n = posN n s (k + 1) := by
  unfold posN
  rw [if_neg (by omega), Nat.mod_add_mod, Nat.add_assoc]
theorem posN_lt {n s k : Nat} (hn : 0 < n) (hk : 0 < k) : posN n s k < n := by
  unfold posN
  rw [if_neg (by omega)]
  exact Nat.mod_lt _ hn
theorem posN_le {n s k : Nat} (hn : n ≤ 100) (hs : s ≤ 100) (hk : k ≤ n) : posN n s k ≤ 100 := by
  rcases Nat.eq_zero_or_pos k with h | h
  · subst h; exact hs
  · have := posN_lt (s := s) (show 0 < n by omega) h; omega
theorem mod_succ (n s k : Nat) : ((s + k) % n + 1) % n = (s + (k + 1)) % n := by rw [Nat.mod_add_mod, Nat.add_assoc]
/-- No visit: nothing is asked, or there is nothing. -/
theorem stop_zero (h : v ≤ 0 ∨ L.length = 0 ∨ p ≤ 0) : Stop L s v p 0 := by
  refine ⟨?_, fun j hj => by omega⟩
  rcases h with h | h | h
  · exact .inl (by omega)
  · exact .inr (.inl (by omega))
  · exact .inr (.inr (by simpa [paidN] using h))
theorem stop_run (h : ∀ j, j < m → (j : Int) < v ∧ j < L.length ∧ ((paidN L s j).length : Int) < p) (h1 : (m : Int) < v) (h2 : m < L.length) (h3 : ((paidN L s m).length : Int) < p) :
    ∀ j, j < m + 1 → (j : Int) < v ∧ j < L.length ∧ ((paidN L s j).length : Int) < p := by
  intro j hj
  by_cases e : j = m
  · subst e; exact ⟨h1, h2, h3⟩
  · exact h j (by omega)
end

/-! ### Distance -/
theorem dist_mod {n s d i : Nat} (hi : i < n) (h : ((i : Int) - (s : Int)) % (n : Int) = (d : Int)) : d < n ∧ (s + d) % n = i := by
  have hn : (0 : Int) < (n : Int) := by omega
  have h1 := Int.emod_lt_of_pos ((i : Int) - s) hn
  have h2 := Int.emod_nonneg ((i : Int) - s) (show (n : Int) ≠ 0 by omega)
  refine ⟨by omega, ?_⟩
  have h3 : (((s + d) % n : Nat) : Int) = (i : Int) := by
    rw [Int.natCast_emod, Int.natCast_add, ← h, Int.add_emod_emod, show (s : Int) + ((i : Int) - s) = i by omega, Int.emod_eq_of_lt (by omega) (by omega)]
  omega
/-- Index i alone is ready. -/
def oneL (n i : Nat) : List Bool := (List.replicate n false).set i true
theorem oneL_len (n i : Nat) : (oneL n i).length = n := by simp [oneL]
theorem oneL_at {n i j : Nat} (hi : i < n) : (oneL n i).getD j false = decide (j = i) := by
  rw [oneL, List.getD_eq_getElem?_getD, List.getElem?_set]
  by_cases h : i = j
  · subst h; simp [hi]
  · simp only [h, if_false, List.getElem?_replicate]
    have : ¬ j = i := fun e => h e.symm
    simp only [this, decide_false]
    split <;> rfl
theorem oneL_none {n i s d : Nat} (hi : i < n) (hd : d < n) (h : (s + d) % n = i) : ∀ j, j ≤ d → paidN (oneL n i) s j = []
  | 0, _ => rfl
  | j + 1, hj => by
    rw [paidN, oneL_len, oneL_at hi, if_neg (by
      rw [← h]
      simpa using mod_ne (s := s) (show j < d by omega) (by omega))]
    exact oneL_none hi hd h j (by omega)
theorem oneL_paid {n i s d : Nat} (hi : i < n) (hd : d < n) (h : (s + d) % n = i) : paidN (oneL n i) s (d + 1) = [i] := by
  rw [paidN, oneL_len, oneL_at hi, h, if_pos (by simp), oneL_none hi hd h d (Nat.le_refl _)]; rfl
theorem oneL_stop {n i s d : Nat} (hi : i < n) (hd : d < n) (h : (s + d) % n = i) : Stop (oneL n i) s n 1 (d + 1) := by
  refine ⟨.inr (.inr (by rw [oneL_paid hi hd h]; simp)), fun j hj => ?_⟩
  rw [oneL_len, oneL_none hi hd h j (by omega)]
  exact ⟨by omega, by omega, by simp⟩

/-! ### What is seen -/
def Cov (S : List Bool) (n a T : Nat) : Prop := S.length = n ∧ ∀ t, t < T → S.getD ((a + t) % n) false = true
theorem Cov.start (n a : Nat) : Cov (List.replicate n false) n a 0 := ⟨by simp, fun t h => by omega⟩
theorem Cov.step {S : List Bool} {n a T i : Nat} (h : Cov S n a T) (hn : 0 < n) (hi : i = (a + T) % n) : Cov (S.set i true) n a (T + 1) := by
  obtain ⟨h1, h2⟩ := h
  refine ⟨by simpa using h1, fun t ht => ?_⟩
  have hlt : (a + t) % n < n := Nat.mod_lt _ hn
  rw [List.getD_eq_getElem?_getD, List.getElem?_set]
  by_cases e : i = (a + t) % n
  · rw [if_pos e, if_pos (by omega)]; rfl
  · rw [if_neg e]
    have : t < T := by
      rcases Nat.lt_or_ge t T with h | h
      · exact h
      · obtain rfl : t = T := by omega
        exact absurd hi e
    have := h2 t this
    rwa [List.getD_eq_getElem?_getD] at this
theorem Cov.all {S : List Bool} {n a T : Nat} (h : Cov S n a T) (hT : n ≤ T) : S = List.replicate n true := by
  obtain ⟨h1, h2⟩ := h
  refine List.ext_getElem (by simpa using h1) fun i hi hi' => ?_
  rw [List.getElem_replicate]
  have hin : i < n := by omega
  have hn : 0 < n := by omega
  have hm := Nat.mod_lt a hn
  have ht : (i + (n - a % n)) % n < T := Nat.lt_of_lt_of_le (Nat.mod_lt _ hn) hT
  have e : (a + (i + (n - a % n)) % n) % n = i := by
    rw [Nat.add_mod_mod]
    have h3 := Nat.div_add_mod a n
    have : a + (i + (n - a % n)) = i + n * (a / n + 1) := by rw [Nat.mul_add, Nat.mul_one]; omega
    rw [this, Nat.add_mul_mod_self_left, Nat.mod_eq_of_lt hin]
  have := h2 _ ht
  rw [e, List.getD_eq_getElem?_getD, List.getElem?_eq_getElem hi] at this
  exact this
/-- A sweep makes its visits, or as many as there are elements. -/
theorem Stop.ge {L : List Bool} {s m v p : Nat} (h : Stop L s v p m) : L.length ≤ m ∨ min v p ≤ m := by
  have := paidN_len L s m
  rcases h.1 with h | h | h
  · exact .inr (by omega)
  · exact .inl h
  · exact .inr (by omega)
theorem posN_add {n a T m : Nat} : posN n ((a + T) % n) m = (a + (T + m)) % n := by
  unfold posN
  split
  · rename_i h; rw [h, Nat.add_zero]
  · rw [Nat.mod_add_mod, Nat.add_assoc]
/-- What holds behind j sweeps. -/
def Done (n q j T : Nat) : Prop := n ≤ T ∨ j * q ≤ T
theorem Done.step {L : List Bool} {s m v p j T : Nat} (h : Done L.length (min v p) j T) (hs : Stop L s v p m) : Done L.length (min v p) (j + 1) (T + m) := by
  rcases hs.ge with h1 | h1
  · exact .inl (by omega)
  · rcases h with h | h
    · exact .inl (by omega)
    · exact .inr (by rw [Nat.add_mul, Nat.one_mul]; omega)
theorem Done.all {n q j T : Nat} (h : Done n q j T) (hq : 0 < q) (hn : 0 < n) (hj : j = (n - 1) / q + 1) : n ≤ T := by
  rcases h with h | h
  · exact h
  · have h1 := Nat.div_add_mod (n - 1) q
    have h2 := Nat.mod_lt (n - 1) hq
    rw [hj, Nat.add_mul, Nat.one_mul, Nat.mul_comm] at h
    omega
end Go.Proofs.Ytjleklhajmhekaa
