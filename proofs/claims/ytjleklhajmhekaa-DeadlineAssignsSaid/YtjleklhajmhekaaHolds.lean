/- The ranges. -/
import Derived.Test.YtjleklhajmhekaaCfg
import Derived.Lib.MinMax
namespace Go.Proofs.Ytjleklhajmhekaa
open Go.RowKit
set_option linter.unusedVariables false

theorem btw_yes {v lo hi : Int} (h : lo ≤ v) (h' : v ≤ hi) : btw v lo hi = true := by unfold btw; simp; omega
theorem btw_no {v lo hi : Int} (h : v < lo ∨ hi < v) : btw v lo hi = false := by unfold btw; simp; omega

theorem between_any (v lo hi : Int) (w : World) :
    Calls Try.prog 43 #[.int .i64 v, .int .i64 lo, .int .i64 hi] w fun e w' => e = .returned (.bool (btw v lo hi)) ∧ w = w' := by
  by_cases h1 : lo ≤ v
  · have hd : decide (lo ≤ v) = true := by simpa using h1
    by_cases h2 : v ≤ hi
    · have H := Lib.hid (btw_yes h1 h2)
      go_enter Try.func43, Try.ntmps43
      go_wp2
      go_ret
      exact ⟨ret_bool H.out.symm, rfl⟩
    · have hd2 : decide (v ≤ hi) = false := by simpa using h2
      have H := Lib.hid (btw_no (v := v) (lo := lo) (hi := hi) (.inr (by omega)))
      go_enter Try.func43, Try.ntmps43
      go_wp2
      go_ret
      exact ⟨ret_bool H.out.symm, rfl⟩
  · have hd : decide (lo ≤ v) = false := by simpa using h1
    have H := Lib.hid (btw_no (v := v) (lo := lo) (hi := hi) (.inl (by omega)))
    go_enter Try.func43, Try.ntmps43
    go_wp2
    go_ret
    exact ⟨ret_bool H.out.symm, rfl⟩

end Go.Proofs.Ytjleklhajmhekaa
