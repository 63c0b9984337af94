/- Split, the fold under it, and the reference's Split: how many weights fit, and the rest. -/
import Derived.Test.YthhfpkhmhhcaiaaNum
import Derived.Test.YthhfpkhmhhcaiaaRd
namespace Go.Proofs.Ythhfpkhmhhcaiaa
open Go Go.RowKit
set_option linter.unusedVariables false
set_option linter.unusedSimpArgs false

/-- n weights fit, the rest is r: each of the first n fits into what is left of lim, and the next one, if there is one, does not. -/
def left (lim : Int) (z : List Int) : Nat → Int
  | 0 => lim
  | k + 1 => left lim z k - z.getD k 0
def Fits (lim : Int) (z : List Int) (len n : Nat) : Prop := n ≤ len ∧ (∀ j, j < n → z.getD j 0 ≤ left lim z j) ∧ (n < len → left lim z n < z.getD n 0)
theorem Fits.unique {lim : Int} {z : List Int} {len n m : Nat} (h : Fits lim z len n) (k : Fits lim z len m) : n = m := by
  rcases Nat.lt_trichotomy n m with h1 | h1 | h1
  · have := h.2.2 (by have := k.1; omega)
    have := k.2.1 n h1
    omega
  · exact h1
  · have := k.2.2 (by have := h.1; omega)
    have := h.2.1 m h1
    omega
/-- What a call of Split, of the fold or of the reference's leaves. -/
def SplitPost (lim : Int) (z : List Int) (len : Nat) (w : World) (e : Ending) (w' : World) : Prop :=
  ∃ n : Nat, e = .returned (.tuple #[.int .i64 n, .int .u64 (left lim z n)]) ∧ Fits lim z len n ∧ w = w'
def FoldPost (lim : Int) (z : List Int) (len : Nat) (w : World) (e : Ending) (w' : World) : Prop :=
  ∃ n : Nat, e = .returned (.tuple #[.int .u64 (left lim z n), .int .i64 n]) ∧ Fits lim z len n ∧ w = w'

section
variable {w : World} {a : Option Addr} {len cap : Nat} {z : List Int} {lim : Int}
theorem u64_of {x : Int} (h : (Lit.int .u64 x).wf = true) : 0 ≤ x ∧ x ≤ 18446744073709551615 := by
  simp [Lit.wf, IntKind.min, IntKind.max, IntKind.signed, IntKind.bits] at h
  omega
set_option maxHeartbeats 800000 in
theorem fold_any (h : Rd .u64 w a len z) (hl : len ≤ 9223372036854775807) (l0 : 0 ≤ lim) (l1 : lim ≤ 18446744073709551615) :
    Calls Try.prog 22 #[.slice a len cap, .int .u64 lim, .func (.func 23) #[] #[]] w (FoldPost lim z len w) := by
  have H := Lib.hid h
  clear h
  go_enter Try.func22, Try.ntmps22
  go_wp2
  go_loop [1, 14] (fun s1 s14 => ∃ (k : Nat) (r : Int), k ≤ len ∧ s14 = .int .i64 k ∧ s1 = .int .u64 r ∧ 0 ≤ r ∧ r ≤ 18446744073709551615 ∧ Hid (r = left lim z k ∧ ∀ j, j < k → z.getD j 0 ≤ left lim z j)) (fun _ s14 => len - (intOf s14).toNat)
  case atStart => exact ⟨0, lim, by omega, rfl, rfl, l0, l1, Lib.hid ⟨rfl, fun j hj => by omega⟩⟩
  case round =>
    obtain ⟨k, r, hk, rfl, rfl, r0, r1, HR⟩ := hrel
    by_cases hlt : k < len
    · obtain ⟨b, off, rfl, hb, hc⟩ := H.out (by omega)
      obtain ⟨hcell, hwf⟩ := hc k hlt
      obtain ⟨v0, v1⟩ := u64_of hwf
      obtain ⟨v, hv⟩ : ∃ v, z.getD k 0 = v := ⟨_, rfl⟩
      rw [hv] at hcell v0 v1
      have HV := Lib.hid hv
      clear hc hwf hv
      by_cases hvr : v ≤ r
      · have HS := Lib.hid (fun w => sub_yes r v w r0 r1 v0 hvr)
        have HR2 : Hid (r - v = left lim z (k + 1) ∧ ∀ j, j < k + 1 → z.getD j 0 ≤ left lim z j) := Lib.hid ⟨by simp only [left]; rw [HV.out, ← HR.out.1], fun j hj => by
          rcases Nat.lt_or_ge j k with h | h
          · exact HR.out.2 j h
          · obtain rfl : j = k := by omega
            rw [HV.out, ← HR.out.1]; exact hvr⟩
        clear HR HV
        go_wp2_with fail
        refine (HS.out _).mono ?_
        rintro e w' ⟨rfl, rfl⟩
        go_wp2
        go_round
        case rel => exact ⟨k + 1, r - v, by omega, by go_num, rfl, by omega, by omega, HR2⟩
        case measure => simp [intOf]; omega
      · have HS := Lib.hid (fun w => sub_no r v w (by omega))
        have HE : Hid (FoldPost lim z len w (.returned (.tuple #[.int .u64 r, .int .i64 k])) w) := Lib.hid ⟨k, by rw [HR.out.1], ⟨hk, HR.out.2, fun _ => by rw [HV.out, ← HR.out.1]; omega⟩, rfl⟩
        clear HR HV
        go_wp2_with fail
        refine (HS.out _).mono ?_
        rintro e w' ⟨rfl, rfl⟩
        go_wp2
        go_ret2
        exact HE.out
    · obtain rfl : k = len := by omega
      have HE : Hid (FoldPost lim z k w (.returned (.tuple #[.int .u64 r, .int .i64 k])) w) := Lib.hid ⟨k, by rw [HR.out.1], ⟨Nat.le_refl _, HR.out.2, fun h => by omega⟩, rfl⟩
      clear hlt
      have hlt : ¬ k < k := by omega
      go_wp2
      go_ret2
      exact HE.out
theorem split_any (h : Rd .u64 w a len z) (hl : len ≤ 9223372036854775807) (l0 : 0 ≤ lim) (l1 : lim ≤ 18446744073709551615) :
    Calls Try.prog 16 #[.int .u64 lim, .slice a len cap] w (SplitPost lim z len w) := by
  have H := Lib.hid (fold_any (cap := cap) h hl l0 l1)
  clear h
  go_enter Try.func16, Try.ntmps16
  go_wp2_with fail
  refine H.out.mono ?_
  rintro e w' ⟨n, rfl, hf, rfl⟩
  have HE : Hid (SplitPost lim z len w (.returned (.tuple #[.int .i64 n, .int .u64 (left lim z n)])) w) := Lib.hid ⟨n, rfl, hf, rfl⟩
  clear hf H
  generalize left lim z n = r at *
  go_wp2
  go_ret2
  exact HE.out
set_option maxHeartbeats 800000 in
theorem rsplit_any (h : Rd .u64 w a len z) (hl : len ≤ 9223372036854775807) (l0 : 0 ≤ lim) (l1 : lim ≤ 18446744073709551615) :
    Calls Try.prog 17 #[.int .u64 lim, .slice a len cap] w (SplitPost lim z len w) := by
  have H := Lib.hid h
  clear h
  go_enter Try.func17, Try.ntmps17
  go_wp2
  go_loop [0, 6] (fun s1 s14 => ∃ (k : Nat) (r : Int), k ≤ len ∧ s14 = .int .i64 k ∧ s1 = .int .u64 r ∧ 0 ≤ r ∧ r ≤ 18446744073709551615 ∧ Hid (r = left lim z k ∧ ∀ j, j < k → z.getD j 0 ≤ left lim z j)) (fun _ s14 => len - (intOf s14).toNat)
  case atStart => exact ⟨0, lim, by omega, rfl, rfl, l0, l1, Lib.hid ⟨rfl, fun j hj => by omega⟩⟩
  case round =>
    obtain ⟨k, r, hk, rfl, rfl, r0, r1, HR⟩ := hrel
    by_cases hlt : k < len
    · obtain ⟨b, off, rfl, hb, hc⟩ := H.out (by omega)
      obtain ⟨hcell, hwf⟩ := hc k hlt
      obtain ⟨v0, v1⟩ := u64_of hwf
      obtain ⟨v, hv⟩ : ∃ v, z.getD k 0 = v := ⟨_, rfl⟩
      rw [hv] at hcell v0 v1
      have HV := Lib.hid hv
      clear hc hwf hv
      by_cases hvr : v ≤ r
      · have HR2 : Hid (r - v = left lim z (k + 1) ∧ ∀ j, j < k + 1 → z.getD j 0 ≤ left lim z j) := Lib.hid ⟨by simp only [left]; rw [HV.out, ← HR.out.1], fun j hj => by
          rcases Nat.lt_or_ge j k with h | h
          · exact HR.out.2 j h
          · obtain rfl : j = k := by omega
            rw [HV.out, ← HR.out.1]; exact hvr⟩
        clear HR HV
        go_wp2
        go_round
        case rel => exact ⟨k + 1, r - v, by omega, by go_num, rfl, by omega, by omega, HR2⟩
        case measure => simp [intOf]; omega
      · have HE : Hid (SplitPost lim z len w (.returned (.tuple #[.int .i64 k, .int .u64 r])) w) := Lib.hid ⟨k, by rw [HR.out.1], ⟨hk, HR.out.2, fun _ => by rw [HV.out, ← HR.out.1]; omega⟩, rfl⟩
        clear HR HV
        go_wp2
        go_ret2
        exact HE.out
    · obtain rfl : k = len := by omega
      have HE : Hid (SplitPost lim z k w (.returned (.tuple #[.int .i64 k, .int .u64 r])) w) := Lib.hid ⟨k, by rw [HR.out.1], ⟨Nat.le_refl _, HR.out.2, fun h => by omega⟩, rfl⟩
      clear hlt
      have hlt : ¬ k < k := by omega
      go_wp2
      go_ret2
      exact HE.out
end
end Go.Proofs.Ythhfpkhmhhcaiaa
