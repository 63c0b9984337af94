/- Batches as plain numbers: how many a boundary activates; at which boundary the last one is activated. -/
import Derived.Test.YtcjohlbglbcglaaAdd
namespace Go.Proofs.Ytcjohlbglbcglaa
set_option linter.unusedVariables false
set_option linter.unusedSimpArgs false

/-- One weight more: the boundary's number, the sum there. -/
def bstep (lim : Int) (p : Nat × Int) (x : Int) : Nat × Int := if p.1 = 0 ∨ lim < p.2 + x then (p.1 + 1, x) else (p.1, p.2 + x)
def bfold (lim : Int) : Nat × Int → List Int → Nat × Int
  | p, [] => p
  | p, x :: r => bfold lim (bstep lim p x) r
/-- How many more join a boundary whose sum is s. -/
def cnt (lim s : Int) : List Int → Nat
  | [] => 0
  | y :: r => if lim < s + y then 0 else 1 + cnt lim (s + y) r
/-- How many a boundary activates. -/
def bat (lim : Int) : List Int → Nat
  | [] => 0
  | x :: r => 1 + cnt lim x r
/-- At which boundary the last one is activated. -/
def bnd (lim : Int) (X : List Int) : Nat := (bfold lim (0, 0) X).1

section
variable {lim s x : Int} {X r : List Int} {k j n m : Nat}
theorem bfold_snoc (p : Nat × Int) : ∀ (X : List Int) (p : Nat × Int), bfold lim p (X ++ [x]) = bstep lim (bfold lim p X) x
  | [], p => rfl
  | y :: r, p => bfold_snoc p r (bstep lim p y)
theorem bstep_zero (lim s x : Int) : bstep lim (0, s) x = (1, x) := by simp [bstep]
theorem bstep_yes (h : ¬ lim < s + x) : bstep lim (k + 1, s) x = (k + 1, s + x) := by simp [bstep, h]
theorem bstep_no (h : lim < s + x) : bstep lim (k + 1, s) x = (k + 1 + 1, x) := by simp [bstep, h]
theorem bstep_le (p : Nat × Int) (x : Int) : (bstep lim p x).1 ≤ p.1 + 1 := by unfold bstep; split <;> simp
theorem bfold_le : ∀ (X : List Int) (p : Nat × Int), (bfold lim p X).1 ≤ p.1 + X.length
  | [], p => by simp [bfold]
  | y :: r, p => by
    have h1 := bfold_le r (bstep lim p y)
    have h2 := bstep_le (lim := lim) p y
    rw [bfold, List.length_cons]
    omega
theorem cnt_le : ∀ (X : List Int) (s : Int), cnt lim s X ≤ X.length
  | [], s => Nat.le_refl _
  | y :: r, s => by
    have := cnt_le r (s + y)
    rw [cnt, List.length_cons]
    split <;> omega
theorem bat_le (X : List Int) : bat lim X ≤ X.length := by
  cases X with
  | nil => exact Nat.le_refl _
  | cons y r => have := cnt_le (lim := lim) r y; rw [bat, List.length_cons]; omega
theorem bat_pos (h : 0 < X.length) : 0 < bat lim X := by
  cases X with
  | nil => simp at h
  | cons y r => rw [bat]; omega
/-- Boundaries are counted on. -/
theorem bfold_add : ∀ (X : List Int) (k j : Nat) (s : Int), (bfold lim (k + 1 + j, s) X).1 = (bfold lim (k + 1, s) X).1 + j
  | [], k, j, s => rfl
  | y :: r, k, j, s => by
    rw [bfold, bfold]
    by_cases h : lim < s + y
    · rw [show k + 1 + j = (k + j) + 1 by omega, bstep_no h, bstep_no h, show k + j + 1 + 1 = (k + 1) + 1 + j by omega]
      exact bfold_add r (k + 1) j y
    · rw [show k + 1 + j = (k + j) + 1 by omega, bstep_yes h, bstep_yes h, show k + j + 1 = k + 1 + j by omega]
      exact bfold_add r k j (s + y)
theorem bfold_cnt : ∀ (X : List Int) (k : Nat) (s : Int), (bfold lim (k + 1, s) X).1 = k + 1 + bnd lim (X.drop (cnt lim s X))
  | [], k, s => rfl
  | y :: r, k, s => by
    rw [bfold, cnt]
    by_cases h : lim < s + y
    · rw [if_pos h, bstep_no h, List.drop_zero, bnd, bfold, bstep_zero, show k + 1 + 1 = 0 + 1 + (k + 1) by omega, bfold_add r 0 (k + 1) y, Nat.zero_add]
      omega
    · rw [if_neg h, bstep_yes h, Nat.add_comm 1, List.drop_succ_cons]
      exact bfold_cnt r k (s + y)
theorem bnd_nil : bnd lim [] = 0 := rfl
theorem bnd_next (h : 0 < X.length) : bnd lim X = 1 + bnd lim (X.drop (bat lim X)) := by
  cases X with
  | nil => simp at h
  | cons y r =>
    rw [bat, Nat.add_comm 1 (cnt lim y r), List.drop_succ_cons, bnd, bfold, bstep_zero, bfold_cnt]
theorem bnd_le (X : List Int) : bnd lim X ≤ X.length := by have := bfold_le (lim := lim) X (0, 0); simpa [bnd] using this
theorem bnd_pos (h : 0 < X.length) : 0 < bnd lim X := by rw [bnd_next h]; omega

/-- Where a boundary ends. -/
def Stp (lim : Int) (X : List Int) (n : Nat) : Prop :=
  n ≤ X.length ∧ (∀ m, 0 < m → m < n → sumTo X (m + 1) ≤ lim) ∧ (n < X.length → 0 < n ∧ lim < sumTo X (n + 1))
theorem Stp.unique (h : Stp lim X n) (k : Stp lim X m) : n = m := by
  rcases Nat.lt_trichotomy n m with hl | hl | hl
  · obtain ⟨h1, h2⟩ := h.2.2 (by have := k.1; omega)
    have := k.2.1 n h1 hl
    omega
  · exact hl
  · obtain ⟨h1, h2⟩ := k.2.2 (by have := h.1; omega)
    have := h.2.1 m h1 hl
    omega
theorem sumTo_cons (y : Int) (r : List Int) : ∀ k, sumTo (y :: r) (k + 1) = y + sumTo r k
  | 0 => by simp [sumTo]
  | k + 1 => by rw [sumTo, sumTo_cons y r k, sumTo]; simp; omega
theorem cnt_stop : ∀ (X : List Int) (s : Int), (∀ m, m < cnt lim s X → s + sumTo X (m + 1) ≤ lim) ∧ (cnt lim s X < X.length → lim < s + sumTo X (cnt lim s X + 1))
  | [], s => ⟨fun m h => by simp [cnt] at h, fun h => by simp at h⟩
  | y :: r, s => by
    rw [cnt]
    by_cases h : lim < s + y
    · rw [if_pos h]
      exact ⟨fun m hm => by omega, fun _ => by simp [sumTo]; exact h⟩
    · rw [if_neg h]
      obtain ⟨h1, h2⟩ := cnt_stop r (s + y)
      refine ⟨fun m hm => ?_, fun hl => ?_⟩
      · rw [sumTo_cons]
        cases m with
        | zero => simp [sumTo]; omega
        | succ m => have := h1 m (by omega); omega
      · rw [List.length_cons] at hl
        have := h2 (by omega)
        rw [Nat.add_comm 1 (cnt lim (s + y) r), sumTo_cons]
        omega
theorem bat_stop (lim : Int) (X : List Int) : Stp lim X (bat lim X) := by
  refine ⟨bat_le X, ?_⟩
  cases X with
  | nil => exact ⟨fun m h1 h2 => by simp [bat] at h2, fun h => by simp at h⟩
  | cons y r =>
    obtain ⟨h1, h2⟩ := cnt_stop (lim := lim) r y
    rw [bat]
    refine ⟨fun m h3 h4 => ?_, fun h3 => ⟨by omega, ?_⟩⟩
    · obtain ⟨j, rfl⟩ : ∃ j, m = j + 1 := ⟨m - 1, by omega⟩
      rw [sumTo_cons]
      exact h1 j (by omega)
    · rw [List.length_cons] at h3
      rw [Nat.add_comm 1 (cnt lim y r), sumTo_cons]
      exact h2 (by omega)
theorem Stp.bat (h : Stp lim X n) : n = bat lim X := h.unique (bat_stop lim X)
end
end Go.Proofs.Ytcjohlbglbcglaa
