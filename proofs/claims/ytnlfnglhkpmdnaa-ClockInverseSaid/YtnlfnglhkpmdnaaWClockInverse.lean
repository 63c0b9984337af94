/- The walk of ClockInverse. -/
import Derived.Test.YtnlfnglhkpmdnaaClock
namespace Go.Proofs.Ytnlfnglhkpmdnaa
open Go.RowKit Go.OpenShut
set_option linter.unusedVariables false
theorem first_epoch (n L : Int) (h0 : 0 ≤ n) (h2 : 1 ≤ L) : epochOf (n * L) L = n := by
  rw [epochOf_yes (Int.mul_nonneg h0 (by omega)) h2, Int.mul_ediv_cancel _ (by omega)]
theorem before_epoch (n L : Int) (h0 : 1 ≤ n) (h2 : 1 ≤ L) : epochOf (n * L - 1) L = n - 1 := by
  have h : L ≤ n * L := by
    have := Int.mul_le_mul_of_nonneg_right h0 (show 0 ≤ L by omega)
    omega
  rw [epochOf_yes (by omega) h2]
  have e : n * L - 1 = (L - 1) + (n - 1) * L := by rw [Int.sub_mul]; omega
  rw [e, Int.add_mul_ediv_right _ _ (by omega), Int.ediv_eq_zero_of_lt (by omega) (by omega)]
  omega
theorem walk_ClockInverse (a0 : Int) (a1 : Int) (w : World) (w0 : (Lit.int .i64 a0).wf = true) (w1 : (Lit.int .i64 a1).wf = true) :
    Calls Try.prog 5 #[.int .i64 a0, .int .i64 a1] w fun e w' => e = .returned (.bool true) ∧ Below w.heap.size w w' := by
  clear w0 w1
  by_cases h : 0 ≤ a0 ∧ a0 ≤ 1099511627776 ∧ 1 ≤ a1 ∧ a1 ≤ 1048576
  · obtain ⟨h0, h1, h2, h3⟩ := h
    have m0 : 0 ≤ a0 * a1 := Int.mul_nonneg h0 (by omega)
    have m1 : a0 * a1 ≤ 1099511627776 * 1048576 := Int.mul_le_mul h1 h3 (by omega) (by omega)
    have hf := first_yes a0 a1 w h0 h1 h2 h3
    have he := fun w => epochOf_any (a0 * a1) a1 w (by omega)
    rw [first_epoch a0 a1 h0 h2] at he
    have H1 := Lib.hid hf
    have H2 := Lib.hid he
    clear hf he
    by_cases hz : a0 = 0
    · subst hz
      generalize 0 * a1 = q at *
      go_enter Try.func5, Try.ntmps5
      go_wp2_with fail
      refine H1.out.mono ?_
      rintro e w' ⟨rfl, rfl⟩
      go_wp2_with fail
      refine (alive_any _).mono ?_
      rintro e w3 ⟨rfl, hb3⟩
      go_wp2_with fail
      refine (H2.out _).mono ?_
      rintro e w' ⟨rfl, rfl⟩
      go_wp2_with fail
      go_ret
      exact ⟨rfl, hb3⟩
    · have hm : 1 ≤ a0 * a1 := by
        have := Int.mul_le_mul (show 1 ≤ a0 by omega) h2 (by omega) (by omega)
        omega
      have hb := fun w => epochOf_any (a0 * a1 - 1) a1 w (by omega)
      rw [before_epoch a0 a1 (by omega) h2] at hb
      have H3 := Lib.hid hb
      have hz1 : 1 ≤ a0 := by omega
      have hz2 : (a0 == 0) = false := by simpa using hz
      clear hb hz
      generalize a0 * a1 = q at *
      go_enter Try.func5, Try.ntmps5
      go_wp2_with fail
      refine H1.out.mono ?_
      rintro e w' ⟨rfl, rfl⟩
      go_wp2_with fail
      refine (alive_any _).mono ?_
      rintro e w3 ⟨rfl, hb3⟩
      go_wp2_with fail
      refine (H2.out _).mono ?_
      rintro e w' ⟨rfl, rfl⟩
      go_wp2_with fail
      refine (H3.out _).mono ?_
      rintro e w' ⟨rfl, rfl⟩
      go_wp2_with fail
      go_ret
      exact ⟨rfl, hb3⟩
  · have H1 := Lib.hid (first_no a0 a1 w (by omega))
    clear h
    go_enter Try.func5, Try.ntmps5
    go_wp2_with fail
    refine H1.out.mono ?_
    rintro e w' ⟨rfl, rfl⟩
    go_wp2_with fail
    refine (alive_any _).mono ?_
    rintro e w3 ⟨rfl, hb3⟩
    go_wp2_with fail
    go_ret
    exact ⟨rfl, hb3⟩
end Go.Proofs.Ytnlfnglhkpmdnaa
