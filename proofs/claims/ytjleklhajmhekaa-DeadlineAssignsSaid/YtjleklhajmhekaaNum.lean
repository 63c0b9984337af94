/- Ceil and Epochs, and the reference's: what they answer, for all numbers. -/
import Derived.Test.YtjleklhajmhekaaWords
namespace Go.Proofs.Ytjleklhajmhekaa
open Go.RowKit Go.Lib
set_option linter.unusedVariables false
set_option linter.unusedSimpArgs false

def ceilQ (a d : Int) : Int := if a % d = 0 then a / d else a / d + 1
theorem ceilQ_le (a d : Int) (h0 : 0 ≤ a) (h1 : a ≤ 18446744073709551615) (h2 : 1 ≤ d) (hm : ¬ a % d = 0) : a / d + 1 ≤ 18446744073709551615 := by
  by_cases e : d = 1
  · subst e; simp at hm
  · have h3 : a / d < 9223372036854775808 := Int.ediv_lt_of_lt_mul (by omega) (by
      have : 9223372036854775808 * 2 ≤ 9223372036854775808 * d := Int.mul_le_mul_of_nonneg_left (by omega) (by omega)
      omega)
    omega
theorem ceilQ_nonneg (a d : Int) (h0 : 0 ≤ a) (h2 : 1 ≤ d) : 0 ≤ ceilQ a d := by
  have hq : 0 ≤ a / d := Int.ediv_nonneg h0 (by omega)
  unfold ceilQ
  split <;> omega
/-- The number of epochs, and whether there is one. -/
def epOk (a d : Int) : Bool := decide (d ≠ 0 ∧ ceilQ a d ≤ 1099511627776)
def epQ (a d : Int) : Int := if epOk a d = true then ceilQ a d else 0
theorem ep_zero (a d : Int) (h : d = 0) : epQ a d = 0 ∧ epOk a d = false := by
  have : epOk a d = false := by unfold epOk; exact decide_eq_false (fun x => x.1 h)
  exact ⟨by unfold epQ; rw [this]; rfl, this⟩
theorem ep_many (a d : Int) (h : ¬ ceilQ a d ≤ 1099511627776) : epQ a d = 0 ∧ epOk a d = false := by
  have : epOk a d = false := by unfold epOk; exact decide_eq_false (fun x => h x.2)
  exact ⟨by unfold epQ; rw [this]; rfl, this⟩
theorem ep_yes (a d : Int) (h : ¬ d = 0) (h' : ceilQ a d ≤ 1099511627776) : epQ a d = ceilQ a d ∧ epOk a d = true := by
  have : epOk a d = true := by unfold epOk; exact decide_eq_true ⟨h, h'⟩
  exact ⟨by unfold epQ; rw [if_pos this], this⟩
theorem ceil_zero (a : Int) (w : World) :
    Calls Try.prog 45 #[.int .u64 a, .int .u64 0] w fun e w' => e = .returned (.tuple #[.int .u64 0, .bool false]) ∧ w = w' := by
  go_enter Try.func45, Try.ntmps45
  go_wp2
  go_ret2
  exact ⟨rfl, rfl⟩
theorem ceil_yes (a d : Int) (w : World) (h0 : 0 ≤ a) (h1 : a ≤ 18446744073709551615) (h2 : 1 ≤ d) (h3 : d ≤ 18446744073709551615) :
    Calls Try.prog 45 #[.int .u64 a, .int .u64 d] w fun e w' => e = .returned (.tuple #[.int .u64 (ceilQ a d), .bool true]) ∧ w = w' := by
  have hd : (d == 0) = false := by simp; omega
  have hq : 0 ≤ a / d := Int.ediv_nonneg h0 (by omega)
  have hq2 : a / d ≤ a := Int.ediv_le_self _ h0
  by_cases hm : a % d = 0
  · have hf : ceilQ a d = a / d := by unfold ceilQ; rw [if_pos hm]
    have HF := Lib.hid hf
    clear hf
    go_enter Try.func45, Try.ntmps45
    go_wp2
    go_ret2
    exact ⟨by rw [HF.out]; rfl, rfl⟩
  · have hq3 := ceilQ_le a d h0 h1 h2 hm
    have hf : ceilQ a d = a / d + 1 := by unfold ceilQ; rw [if_neg hm]
    have HF := Lib.hid hf
    clear hf
    go_enter Try.func45, Try.ntmps45
    go_wp2
    go_ret2
    exact ⟨by rw [HF.out]; rfl, rfl⟩
theorem rceil_zero (a : Int) (w : World) :
    Calls Try.prog 47 #[.int .u64 a, .int .u64 0] w fun e w' => e = .returned (.tuple #[.int .u64 0, .bool false]) ∧ w = w' := by
  go_enter Try.func47, Try.ntmps47
  go_wp2
  go_ret2
  exact ⟨rfl, rfl⟩
theorem rceil_yes (a d : Int) (w : World) (h0 : 0 ≤ a) (h1 : a ≤ 18446744073709551615) (h2 : 1 ≤ d) (h3 : d ≤ 18446744073709551615) :
    Calls Try.prog 47 #[.int .u64 a, .int .u64 d] w fun e w' => e = .returned (.tuple #[.int .u64 (ceilQ a d), .bool true]) ∧ w = w' := by
  have hd : (d == 0) = false := by simp; omega
  have hq : 0 ≤ a / d := Int.ediv_nonneg h0 (by omega)
  have hq2 : a / d ≤ a := Int.ediv_le_self _ h0
  have hr := Int.emod_nonneg a (show d ≠ 0 by omega)
  by_cases hm : a % d = 0
  · have hf : ceilQ a d = a / d := by unfold ceilQ; rw [if_pos hm]
    have HF := Lib.hid hf
    clear hf
    go_enter Try.func47, Try.ntmps47
    go_wp2
    go_ret2
    exact ⟨by rw [HF.out]; rfl, rfl⟩
  · have hq3 := ceilQ_le a d h0 h1 h2 hm
    have hf : ceilQ a d = a / d + 1 := by unfold ceilQ; rw [if_neg hm]
    have hr2 : 0 < a % d := by omega
    have HF := Lib.hid hf
    clear hf
    go_enter Try.func47, Try.ntmps47
    go_wp2
    go_ret2
    exact ⟨by rw [HF.out]; rfl, rfl⟩
theorem epochs_zero (a : Int) (w : World) :
    Calls Try.prog 26 #[.int .u64 a, .int .u64 0] w fun e w' => e = .returned (.tuple #[.int .i64 0, .bool false]) ∧ w = w' := by
  have H := Lib.hid (fun w => ceil_zero a w)
  go_enter Try.func26, Try.ntmps26
  go_wp2_with fail
  refine (H.out _).mono ?_
  rintro e w' ⟨rfl, rfl⟩
  go_wp2
  go_ret2
  exact ⟨rfl, rfl⟩
theorem epochs_many (a d : Int) (w : World) (h0 : 0 ≤ a) (h1 : a ≤ 18446744073709551615) (h2 : 1 ≤ d) (h3 : d ≤ 18446744073709551615) (h4 : 1099511627776 < ceilQ a d) :
    Calls Try.prog 26 #[.int .u64 a, .int .u64 d] w fun e w' => e = .returned (.tuple #[.int .i64 0, .bool false]) ∧ w = w' := by
  have H := Lib.hid (fun w => ceil_yes a d w h0 h1 h2 h3)
  clear h0 h1 h2 h3
  generalize ceilQ a d = q at *
  go_enter Try.func26, Try.ntmps26
  go_wp2_with fail
  refine (H.out _).mono ?_
  rintro e w' ⟨rfl, rfl⟩
  go_wp2
  go_ret2
  exact ⟨rfl, rfl⟩
theorem epochs_yes (a d : Int) (w : World) (h0 : 0 ≤ a) (h1 : a ≤ 18446744073709551615) (h2 : 1 ≤ d) (h3 : d ≤ 18446744073709551615) (h4 : ceilQ a d ≤ 1099511627776) :
    Calls Try.prog 26 #[.int .u64 a, .int .u64 d] w fun e w' => e = .returned (.tuple #[.int .i64 (ceilQ a d), .bool true]) ∧ w = w' := by
  have H := Lib.hid (fun w => ceil_yes a d w h0 h1 h2 h3)
  have h5 := ceilQ_nonneg a d h0 h2
  clear h0 h1 h2 h3
  generalize ceilQ a d = q at *
  go_enter Try.func26, Try.ntmps26
  go_wp2_with fail
  refine (H.out _).mono ?_
  rintro e w' ⟨rfl, rfl⟩
  go_wp2
  go_ret2
  exact ⟨rfl, rfl⟩
/-- What it answers, in one. -/
theorem epochs_any (a d : Int) (w : World) (h0 : 0 ≤ a) (h1 : a ≤ 18446744073709551615) (h2 : 0 ≤ d) (h3 : d ≤ 18446744073709551615) :
    Calls Try.prog 26 #[.int .u64 a, .int .u64 d] w fun e w' => e = .returned (.tuple #[.int .i64 (epQ a d), .bool (epOk a d)]) ∧ w = w' := by
  by_cases hd : d = 0
  · have h := ep_zero a d hd
    rw [h.1, h.2]
    subst hd
    exact epochs_zero a w
  · by_cases h4 : ceilQ a d ≤ 1099511627776
    · have h := ep_yes a d hd h4
      rw [h.1, h.2]
      exact epochs_yes a d w h0 h1 (by omega) h3 h4
    · have h := ep_many a d h4
      rw [h.1, h.2]
      exact epochs_many a d w h0 h1 (by omega) h3 (by omega)
theorem repochs_zero (a : Int) (w : World) :
    Calls Try.prog 28 #[.int .u64 a, .int .u64 0] w fun e w' => e = .returned (.tuple #[.int .i64 0, .bool false]) ∧ w = w' := by
  have H := Lib.hid (fun w => rceil_zero a w)
  go_enter Try.func28, Try.ntmps28
  go_wp2_with fail
  refine (H.out _).mono ?_
  rintro e w' ⟨rfl, rfl⟩
  go_wp2
  go_ret2
  exact ⟨rfl, rfl⟩
theorem repochs_many (a d : Int) (w : World) (h0 : 0 ≤ a) (h1 : a ≤ 18446744073709551615) (h2 : 1 ≤ d) (h3 : d ≤ 18446744073709551615) (h4 : 1099511627776 < ceilQ a d) :
    Calls Try.prog 28 #[.int .u64 a, .int .u64 d] w fun e w' => e = .returned (.tuple #[.int .i64 0, .bool false]) ∧ w = w' := by
  have H := Lib.hid (fun w => rceil_yes a d w h0 h1 h2 h3)
  clear h0 h1 h2 h3
  generalize ceilQ a d = q at *
  go_enter Try.func28, Try.ntmps28
  go_wp2_with fail
  refine (H.out _).mono ?_
  rintro e w' ⟨rfl, rfl⟩
  go_wp2
  go_ret2
  exact ⟨rfl, rfl⟩
theorem repochs_yes (a d : Int) (w : World) (h0 : 0 ≤ a) (h1 : a ≤ 18446744073709551615) (h2 : 1 ≤ d) (h3 : d ≤ 18446744073709551615) (h4 : ceilQ a d ≤ 1099511627776) :
    Calls Try.prog 28 #[.int .u64 a, .int .u64 d] w fun e w' => e = .returned (.tuple #[.int .i64 (ceilQ a d), .bool true]) ∧ w = w' := by
  have H := Lib.hid (fun w => rceil_yes a d w h0 h1 h2 h3)
  have h5 := ceilQ_nonneg a d h0 h2
  clear h0 h1 h2 h3
  generalize ceilQ a d = q at *
  go_enter Try.func28, Try.ntmps28
  go_wp2_with fail
  refine (H.out _).mono ?_
  rintro e w' ⟨rfl, rfl⟩
  go_wp2
  go_ret2
  exact ⟨rfl, rfl⟩
/-- What it answers, in one. -/
theorem repochs_any (a d : Int) (w : World) (h0 : 0 ≤ a) (h1 : a ≤ 18446744073709551615) (h2 : 0 ≤ d) (h3 : d ≤ 18446744073709551615) :
    Calls Try.prog 28 #[.int .u64 a, .int .u64 d] w fun e w' => e = .returned (.tuple #[.int .i64 (epQ a d), .bool (epOk a d)]) ∧ w = w' := by
  by_cases hd : d = 0
  · have h := ep_zero a d hd
    rw [h.1, h.2]
    subst hd
    exact repochs_zero a w
  · by_cases h4 : ceilQ a d ≤ 1099511627776
    · have h := ep_yes a d hd h4
      rw [h.1, h.2]
      exact repochs_yes a d w h0 h1 (by omega) h3 h4
    · have h := ep_many a d h4
      rw [h.1, h.2]
      exact repochs_many a d w h0 h1 (by omega) h3 (by omega)
end Go.Proofs.Ytjleklhajmhekaa
