/- clock.Max, slices.Max and the reference's Max: the greatest number. -/
import Derived.Test.YtnlfnglhkpmdnaaBase
import Derived.WalkLawsBesides
namespace Go.Proofs.Ytnlfnglhkpmdnaa
open Go.RowKit
set_option linter.unusedVariables false

/-- The greatest of the first k + 1 numbers. -/
def maxTo (z : List Int) : Nat → Int
  | 0 => z.getD 0 0
  | k + 1 => max (maxTo z k) (z.getD (k + 1) 0)
theorem maxTo_is (z : List Int) : ∀ k, ∃ j, j ≤ k ∧ maxTo z k = z.getD j 0
  | 0 => ⟨0, Nat.le_refl _, rfl⟩
  | k + 1 => by
    obtain ⟨j, hj, e⟩ := maxTo_is z k
    by_cases h : maxTo z k ≤ z.getD (k + 1) 0
    · exact ⟨k + 1, Nat.le_refl _, by simp only [maxTo]; omega⟩
    · exact ⟨j, by omega, by simp only [maxTo]; omega⟩
theorem maxTo_ge (z : List Int) : ∀ k i, i ≤ k → z.getD i 0 ≤ maxTo z k
  | 0, i, h => by obtain rfl : i = 0 := by omega
                  exact Int.le_refl _
  | k + 1, i, h => by
    by_cases hi : i ≤ k
    · have := maxTo_ge z k i hi
      simp only [maxTo]; omega
    · obtain rfl : i = k + 1 := by omega
      simp only [maxTo]; omega

theorem max_if (t y : Int) : (if t < y then y else t) = max t y := by split <;> omega

theorem refMax_row (b off len cap : Nat) (z : List Int) (w : World) (h0 : 0 < len) (hlen : len ≤ 9223372036854775807)
    (hc : ∀ i, i < len → w.cell? ⟨b, off + i, none⟩ = some (.int .i64 (z.getD i 0))) :
    Calls Try.prog 21 #[.slice (some ⟨b, off, none⟩) len cap] w fun o w' => o = .returned (.int .i64 (maxTo z (len - 1))) ∧ w = w' := by
  have hc0 : w.cell? ⟨b, off, none⟩ = some (.int .i64 (z.getD 0 0)) := hc 0 h0
  have hl : ((len : Int) == 0) = false := by simp; omega
  have HC := Lib.hid hc
  clear hc
  have HM := Lib.hid (show maxTo z 0 = z.getD 0 0 from rfl)
  generalize z.getD 0 0 = x at *
  go_enter Try.func21, Try.ntmps21
  go_wp2
  go_loop [3, 4] (fun s3 s4 => ∃ k : Nat, 1 ≤ k ∧ k ≤ len ∧ s4 = .int .i64 k ∧ s3 = .int .i64 (maxTo z (k - 1))) (fun _ s4 => len - (intOf s4).toNat)
  case atStart => exact ⟨1, by omega, by omega, rfl, by rw [HM.out]⟩
  case round =>
    obtain ⟨k, k0, hk, rfl, rfl⟩ := hrel
    by_cases hlt : k < len
    · have hcell := HC.out k hlt
      have HS : Hid (maxTo z (k + 1 - 1) = max (maxTo z (k - 1)) (z.getD k 0)) := by
        obtain ⟨j, rfl⟩ : ∃ j, k = j + 1 := ⟨k - 1, by omega⟩
        exact Lib.hid rfl
      generalize z.getD k 0 = y at *
      generalize maxTo z (k - 1) = t at *
      go_wp2
      go_round
      case rel => exact ⟨k + 1, by omega, by omega, by go_num, by rw [HS.out, ← max_if]⟩
      case measure => simp [intOf]; omega
    · obtain rfl : k = len := by omega
      clear hlt
      have hlt : ¬ k < k := by omega
      go_wp2
      go_ret
      exact ⟨rfl, rfl⟩
theorem sliceMax_row (b off len cap : Nat) (z : List Int) (w : World) (h0 : 0 < len) (hlen : len ≤ 9223372036854775807)
    (hc : ∀ i, i < len → w.cell? ⟨b, off + i, none⟩ = some (.int .i64 (z.getD i 0))) :
    Calls Try.prog 26 #[.slice (some ⟨b, off, none⟩) len cap] w fun o w' => o = .returned (.int .i64 (maxTo z (len - 1))) ∧ w = w' := by
  have hc0 : w.cell? ⟨b, off, none⟩ = some (.int .i64 (z.getD 0 0)) := hc 0 h0
  have hl : ((len : Int) == 0) = false := by simp; omega
  have hl2 : decide ((len : Int) < 1) = false := by simp; omega
  have HC := Lib.hid hc
  clear hc
  have HM := Lib.hid (show maxTo z 0 = z.getD 0 0 from rfl)
  generalize z.getD 0 0 = x at *
  go_enter Try.func26, Try.ntmps26
  go_wp2
  go_loop [3, 4] (fun s3 s4 => ∃ k : Nat, 1 ≤ k ∧ k ≤ len ∧ s4 = .int .i64 k ∧ s3 = .int .i64 (maxTo z (k - 1))) (fun _ s4 => len - (intOf s4).toNat)
  case atStart => exact ⟨1, by omega, by omega, rfl, by rw [HM.out]⟩
  case round =>
    obtain ⟨k, k0, hk, rfl, rfl⟩ := hrel
    by_cases hlt : k < len
    · have hcell := HC.out k hlt
      have HS : Hid (maxTo z (k + 1 - 1) = max (maxTo z (k - 1)) (z.getD k 0)) := by
        obtain ⟨j, rfl⟩ : ∃ j, k = j + 1 := ⟨k - 1, by omega⟩
        exact Lib.hid rfl
      generalize z.getD k 0 = y at *
      generalize maxTo z (k - 1) = t at *
      go_wp2
      go_round
      case rel => exact ⟨k + 1, by omega, by omega, by go_num, by rw [HS.out, ← max_if]⟩
      case measure => simp [intOf]; omega
    · obtain rfl : k = len := by omega
      clear hlt
      have hlt : ¬ k < k := by omega
      go_wp2
      go_ret
      exact ⟨rfl, rfl⟩

theorem refMax_none (a : Option Addr) (cap : Nat) (w : World) : Calls Try.prog 21 #[.slice a 0 cap] w fun o w' => o = .returned (.int .i64 (-1)) ∧ w = w' := by
  go_enter Try.func21, Try.ntmps21
  go_wp2
  go_ret
  exact ⟨rfl, rfl⟩
theorem max_none (a : Option Addr) (cap : Nat) (w : World) : Calls Try.prog 20 #[.slice a 0 cap] w fun o w' => o = .returned (.int .i64 (-1)) ∧ w = w' := by
  go_enter Try.func20, Try.ntmps20
  go_wp2
  go_ret
  exact ⟨rfl, rfl⟩
theorem max_row (b off len cap : Nat) (z : List Int) (w : World) (h0 : 0 < len) (hlen : len ≤ 9223372036854775807)
    (hc : ∀ i, i < len → w.cell? ⟨b, off + i, none⟩ = some (.int .i64 (z.getD i 0))) :
    Calls Try.prog 20 #[.slice (some ⟨b, off, none⟩) len cap] w fun o w' => o = .returned (.int .i64 (maxTo z (len - 1))) ∧ w = w' := by
  have H := Lib.hid (sliceMax_row b off len cap z w h0 hlen hc)
  have hl : ((len : Int) == 0) = false := by simp; omega
  clear hc
  generalize maxTo z (len - 1) = t at *
  go_enter Try.func20, Try.ntmps20
  go_wp2_with fail
  refine H.out.mono ?_
  rintro e w' ⟨rfl, rfl⟩
  go_wp2_with fail
  go_ret
  exact ⟨rfl, rfl⟩
end Go.Proofs.Ytnlfnglhkpmdnaa
