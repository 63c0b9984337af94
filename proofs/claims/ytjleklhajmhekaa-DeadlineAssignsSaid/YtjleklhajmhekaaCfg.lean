/- Configurations as numbers: 20 fields, the condition of each, the first that fails. Plain mathematics over integers. -/
import Derived.Test.YtjleklhajmhekaaWords
namespace Go.Proofs.Ytjleklhajmhekaa
open Go.RowKit

/-- The kind of a field. -/
def kindOf (k : Nat) : IntKind := if k < 2 ∨ (10 ≤ k ∧ k < 18) then .i64 else .u64
/-- A configuration in memory: its 20 cells. -/
def cellsOf (c : Nat → Int) : Array Value := #[.int .i64 (c 0), .int .i64 (c 1), .int .u64 (c 2), .int .u64 (c 3), .int .u64 (c 4), .int .u64 (c 5), .int .u64 (c 6), .int .u64 (c 7), .int .u64 (c 8), .int .u64 (c 9), .int .i64 (c 10), .int .i64 (c 11), .int .i64 (c 12), .int .i64 (c 13), .int .i64 (c 14), .int .i64 (c 15), .int .i64 (c 16), .int .i64 (c 17), .int .u64 (c 18), .int .u64 (c 19)]
def Fits (c : Nat → Int) : Prop := ∀ k, k < 20 → (Lit.int (kindOf k) (c k)).wf = true
def most : Int := 1152921504606846976
def btw (v lo hi : Int) : Bool := decide (lo ≤ v ∧ v ≤ hi)
/-- Does field k + 1 satisfy its condition? -/
def rightB (c : Nat → Int) : Nat → Bool
  | 0 => btw (c 0) 1 4096
  | 1 => btw (c 1) 1 4096
  | 2 => decide (1 ≤ c 2)
  | 3 => decide (c 2 ≤ c 3)
  | 4 => btw (c 4) (c 3) most
  | 5 => btw (c 5) 1 (c 2)
  | 6 => btw (c 6) (c 3) (c 4)
  | 7 => btw (c 7) 1 most
  | 8 => decide (1 ≤ c 8)
  | 9 => decide (c 9 ≤ most)
  | 10 => btw (c 10) 1 1048576
  | 11 => decide (c 10 < c 11 ∧ c 11 ≤ 1048576)
  | 12 => btw (c 12) 1 4096
  | 13 => btw (c 13) 1 4096
  | 14 => btw (c 14) 1 4096
  | 15 => btw (c 15) 1 4096
  | 16 => decide (0 ≤ c 16 ∧ c 16 < c 14 ∧ c 16 < c 15)
  | 17 => btw (c 17) 0 4096
  | 18 => decide (c 18 ≤ c 19)
  | 19 => btw (c 19) 1 4294967296
  | _ => true
/-- From field k + 1 on, n fields: the first that fails, or 0. -/
def firstFrom (c : Nat → Int) : Nat → Nat → Int
  | 0, _ => 0
  | n + 1, k => if rightB c k = true then firstFrom c n (k + 1) else (k : Int) + 1
def chk (c : Nat → Int) : Int := firstFrom c 20 0

theorem cells_size (c : Nat → Int) : (cellsOf c).size = 20 := rfl
theorem cells_at (c : Nat → Int) (k : Nat) (h : k < 20) : (cellsOf c)[k]? = some (.int (kindOf k) (c k)) := by
  have : k = 0 ∨ k = 1 ∨ k = 2 ∨ k = 3 ∨ k = 4 ∨ k = 5 ∨ k = 6 ∨ k = 7 ∨ k = 8 ∨ k = 9 ∨ k = 10 ∨ k = 11 ∨ k = 12 ∨ k = 13 ∨ k = 14 ∨ k = 15 ∨ k = 16 ∨ k = 17 ∨ k = 18 ∨ k = 19 := by omega
  rcases this with h | h | h | h | h | h | h | h | h | h | h | h | h | h | h | h | h | h | h | h <;> subst h <;> rfl

/-- All fields before k hold. -/
def Before (c : Nat → Int) (k : Nat) : Prop := ∀ j, j < k → rightB c j = true
theorem firstFrom_skip (c : Nat → Int) : ∀ (k n s : Nat), (∀ j, s ≤ j → j < s + k → rightB c j = true) → firstFrom c (n + k) s = firstFrom c n (s + k)
  | 0, n, s, _ => rfl
  | k + 1, n, s, h => by
    rw [show n + (k + 1) = (n + k) + 1 by omega, firstFrom, if_pos (h s (by omega) (by omega)), firstFrom_skip c k n (s + 1) (fun j h1 h2 => h j (by omega) (by omega))]
    congr 1; omega
theorem chk_at {c : Nat → Int} {k : Nat} (hk : k < 20) (hb : Before c k) (hr : rightB c k = false) : chk c = (k : Int) + 1 := by
  unfold chk
  rw [show 20 = (19 - k + 1) + k by omega, firstFrom_skip c k _ 0 (fun j _ h => hb j (by omega)), firstFrom, Nat.zero_add, if_neg (by rw [hr]; simp)]
theorem chk_none {c : Nat → Int} (hb : Before c 20) : chk c = 0 := by
  unfold chk
  rw [show 20 = 0 + 20 by omega, firstFrom_skip c 20 0 0 (fun j _ h => hb j (by omega)), firstFrom]
theorem before_succ {c : Nat → Int} {k : Nat} (hb : Before c k) (hr : rightB c k = true) : Before c (k + 1) := fun j hj => by
  rcases Nat.lt_or_ge j k with h | h
  · exact hb j h
  · rw [show j = k by omega]; exact hr
theorem before_zero (c : Nat → Int) : Before c 0 := fun j h => by omega
theorem chk_cases (c : Nat → Int) : (chk c = 0 ∧ Before c 20) ∨ ∃ k, k < 20 ∧ Before c k ∧ rightB c k = false ∧ chk c = (k : Int) + 1 := by
  have : ∀ n, n ≤ 20 → Before c n ∨ ∃ k, k < n ∧ Before c k ∧ rightB c k = false := by
    intro n
    induction n with
    | zero => intro _; exact .inl (before_zero c)
    | succ n ih =>
      intro hn
      rcases ih (by omega) with h | ⟨k, hk, h1, h2⟩
      · cases hr : rightB c n with
        | true => exact .inl (before_succ h hr)
        | false => exact .inr ⟨n, by omega, h, hr⟩
      · exact .inr ⟨k, by omega, h1, h2⟩
  rcases this 20 (Nat.le_refl _) with h | ⟨k, hk, h1, h2⟩
  · exact .inl ⟨chk_none h, h⟩
  · exact .inr ⟨k, hk, h1, h2, chk_at hk h1 h2⟩
theorem chk_range (c : Nat → Int) : 0 ≤ chk c ∧ chk c ≤ 20 := by
  rcases chk_cases c with ⟨h, _⟩ | ⟨k, hk, _, _, h⟩ <;> rw [h] <;> omega

def upd (c : Nat → Int) (k : Nat) (v : Int) : Nat → Int := fun j => if j = k then v else c j
theorem upd_same (c : Nat → Int) (k : Nat) (v : Int) : upd c k v k = v := if_pos rfl
theorem upd_other (c : Nat → Int) {k j : Nat} (v : Int) (h : j ≠ k) : upd c k v j = c j := if_neg h
/-- The condition of a field hangs on no later field, but for PenaltyNum's. -/
theorem right_upd (c : Nat → Int) (k j : Nat) (v : Int) (h : j < k) (hk : k < 20) (hx : ¬ (k = 19 ∧ j = 18)) : rightB (upd c k v) j = rightB c j := by
  have o : ∀ i, i < k → upd c k v i = c i := fun i hi => upd_other c v (by omega)
  have hj : j < 19 := by omega
  by_cases h18 : j = 18
  · omega
  · have : j = 0 ∨ j = 1 ∨ j = 2 ∨ j = 3 ∨ j = 4 ∨ j = 5 ∨ j = 6 ∨ j = 7 ∨ j = 8 ∨ j = 9 ∨ j = 10 ∨ j = 11 ∨ j = 12 ∨ j = 13 ∨ j = 14 ∨ j = 15 ∨ j = 16 ∨ j = 17 := by omega
    rcases this with e | e | e | e | e | e | e | e | e | e | e | e | e | e | e | e | e | e <;> subst e <;> simp only [rightB] <;> (repeat rw [o _ (by omega)])
theorem first_upd (c : Nat → Int) (k : Nat) (v : Int) (hk : k < 20) (hc : chk c = 0) : chk (upd c k v) = 0 ∨ (k : Int) + 1 ≤ chk (upd c k v) ∨ ((k : Int) + 1 = 20 ∧ chk (upd c k v) = 19) := by
  rcases chk_cases c with ⟨_, hb⟩ | ⟨j, _, _, _, h⟩
  · rcases chk_cases (upd c k v) with ⟨h, _⟩ | ⟨j, hj, _, hr, h⟩
    · exact .inl h
    · by_cases hjk : j < k
      · by_cases hx : k = 19 ∧ j = 18
        · refine .inr (.inr ⟨by omega, by rw [h]; omega⟩)
        · rw [right_upd c k j v hjk hk hx, hb j hj] at hr
          cases hr
      · exact .inr (.inl (by rw [h]; omega))
  · omega
end Go.Proofs.Ytjleklhajmhekaa
