/- Decimal numerals: the reference's reader as a plain function, and what it reads. No program in sight. -/
import Derived.Lib.ItoaNum
import Derived.Lib.ParseIntB
namespace Go.Proofs.YtniehmlklbggdaaDoor.GwStr
open Go.Lib

/-- What is left of a row of digits, read from the left. -/
def rp (acc : Nat) : List UInt8 → Option Nat
  | [] => some acc
  | c :: r => if 48 ≤ c.toNat ∧ c.toNat ≤ 57 then
      if (18446744073709551615 - (c.toNat - 48)) / 10 < acc then none else rp (10 * acc + (c.toNat - 48)) r
    else none
/-- The reference's reader. -/
def refP (l : List UInt8) : Option Nat := if l = [] ∨ (1 < l.length ∧ l.headD 0 = 48) then none else rp 0 l

theorem rp_snoc (c : UInt8) : ∀ (l : List UInt8) (acc : Nat), rp acc (l ++ [c]) = (rp acc l).bind fun n => rp n [c]
  | [], acc => by simp [rp]
  | d :: r, acc => by
    simp only [List.cons_append, rp]
    split
    · split
      · rfl
      · exact rp_snoc c r _
    · rfl
theorem pm_snoc (M : Nat) (c : UInt8) : ∀ (l : List UInt8) (acc u : Nat), parseUintM M acc l = .ok u → parseUintM M acc (l ++ [c]) = parseUintM M u [c]
  | [], acc, u, h => by simp only [parseUintM] at h; injection h with h; subst h; rfl
  | d :: r, acc, u, h => by
    simp only [List.cons_append, parseUintM] at h ⊢
    split at h
    · rename_i h1
      rw [if_pos h1]
      split at h
      · cases h
      · rename_i h2
        rw [if_neg h2]
        split at h
        · cases h
        · rename_i h3
          rw [if_neg h3]
          exact pm_snoc M c r _ u h
    · cases h

theorem digit_byte (d : Nat) (h : d < 10) : (UInt8.ofNat (48 + d)).toNat = 48 + d := by
  rw [UInt8.toNat_ofNat']; omega

theorem dec_big {u : Nat} (h : ¬ u < 10) : decDigits u = decDigits (u / 10) ++ [UInt8.ofNat (48 + u % 10)] := by rw [decDigits, dif_neg h]

theorem rp_dec (u : Nat) (hu : u < 18446744073709551616) : rp 0 (decDigits u) = some u := by
  induction u using Nat.strongRecOn with
  | _ u ih =>
    by_cases h : u < 10
    · rw [decDigits_one h]
      simp only [rp, digit_byte u h]
      rw [if_pos (by omega), if_neg (by omega)]
      simp
    · rw [dec_big h, rp_snoc, ih (u / 10) (by omega) (by omega)]
      simp only [Option.bind_some, rp, digit_byte (u % 10) (by omega)]
      rw [if_pos (by omega), if_neg (by omega)]
      simp; omega
theorem pm_dec (u : Nat) (hu : u < 18446744073709551616) : parseUintM 18446744073709551615 0 (decDigits u) = .ok u := by
  induction u using Nat.strongRecOn with
  | _ u ih =>
    by_cases h : u < 10
    · rw [decDigits_one h]
      simp only [parseUintM, digit_byte u h]
      rw [if_pos (by omega), if_neg (by omega), if_neg (by omega)]
      simp
    · rw [dec_big h, pm_snoc _ _ _ _ _ (ih (u / 10) (by omega) (by omega))]
      simp only [parseUintM, digit_byte (u % 10) (by omega)]
      rw [if_pos (by omega), if_neg (by omega), if_neg (by omega)]
      simp; omega
theorem dec_ne (u : Nat) : decDigits u ≠ [] := by
  intro h
  have := congrArg List.length h
  rw [decDigits_length] at this
  have := nDigits_pos u
  simp at *
  omega
theorem pu_dec (u : Nat) (hu : u < 18446744073709551616) : parseUintB 64 (decDigits u) = .ok u := by
  unfold parseUintB
  rw [if_neg (dec_ne u)]
  exact pm_dec u hu

theorem dec_head (u : Nat) (hu : 0 < u) : (decDigits u).headD 0 ≠ 48 := by
  induction u using Nat.strongRecOn with
  | _ u ih =>
    by_cases h : u < 10
    · rw [decDigits_one h]
      intro e
      have := congrArg UInt8.toNat e
      simp only [List.headD_cons, digit_byte u h] at this
      have e2 : (48 : UInt8).toNat = 48 := rfl
      omega
    · have := ih (u / 10) (by omega) (by omega)
      rw [dec_big h]
      cases hl : decDigits (u / 10) with
      | nil => exact absurd hl (dec_ne _)
      | cons c r => rw [hl] at this; simpa using this

theorem refP_dec (u : Nat) (hu : u < 18446744073709551616) : refP (decDigits u) = some u := by
  unfold refP
  rw [if_neg]
  · exact rp_dec u hu
  · rintro (h | ⟨h1, h2⟩)
    · exact dec_ne u h
    · by_cases h : u < 10
      · rw [decDigits_one h] at h1; simp at h1
      · exact dec_head u (by omega) h2

theorem byte_digit {c : UInt8} (h : 48 ≤ c.toNat ∧ c.toNat ≤ 57) : UInt8.ofNat (48 + (c.toNat - 48)) = c := by
  rw [show 48 + (c.toNat - 48) = c.toNat by omega]; simp

theorem rp_reads : ∀ (l : List UInt8) (acc n : Nat), 0 < acc → acc < 18446744073709551616 → rp acc l = some n → decDigits n = decDigits acc ++ l ∧ n < 18446744073709551616
  | [], acc, n, h0, h1, h => by
    simp only [rp] at h
    injection h with h
    subst h
    exact ⟨by simp, h1⟩
  | c :: r, acc, n, h0, h1, h => by
    simp only [rp] at h
    split at h
    · rename_i hd
      split at h
      · cases h
      · rename_i hb
        obtain ⟨a, b⟩ := rp_reads r (10 * acc + (c.toNat - 48)) n (by omega) (by omega) h
        rw [a, dec_big (u := 10 * acc + (c.toNat - 48)) (by omega), show (10 * acc + (c.toNat - 48)) / 10 = acc by omega, show (10 * acc + (c.toNat - 48)) % 10 = c.toNat - 48 by omega, byte_digit hd]
        exact ⟨by simp, b⟩
    · cases h

theorem refP_reads {l : List UInt8} {n : Nat} (h : refP l = some n) : decDigits n = l ∧ n < 18446744073709551616 := by
  unfold refP at h
  split at h
  · cases h
  · rename_i hg
    match l, hg, h with
    | [], hg, _ => exact absurd (.inl rfl) hg
    | c :: r, hg, h =>
      simp only [rp] at h
      split at h
      · rename_i hd
        split at h
        · cases h
        · simp only [Nat.mul_zero, Nat.zero_add] at h
          have hone : decDigits (c.toNat - 48) = [c] := by rw [decDigits_one (by omega), byte_digit hd]
          cases r with
          | nil =>
            simp only [rp] at h
            injection h with h
            subst h
            exact ⟨hone, by omega⟩
          | cons c2 r2 =>
            have hne : 0 < c.toNat - 48 := by
              refine Nat.pos_of_ne_zero fun e => hg (.inr ⟨by simp, ?_⟩)
              rw [List.headD_cons]
              exact UInt8.toNat_inj.1 (by have e2 : (48 : UInt8).toNat = 48 := rfl; omega)
            obtain ⟨a, b⟩ := rp_reads (c2 :: r2) (c.toNat - 48) n hne (by omega) h
            rw [a, hone]
            exact ⟨rfl, b⟩
      · cases h
theorem refP_none {l : List UInt8} (h : ∀ u, u < 18446744073709551616 → decDigits u ≠ l) : refP l = none := by
  cases hr : refP l with
  | none => rfl
  | some n => exact absurd (refP_reads hr).1 (h n (refP_reads hr).2)
end Go.Proofs.YtniehmlklbggdaaDoor.GwStr
