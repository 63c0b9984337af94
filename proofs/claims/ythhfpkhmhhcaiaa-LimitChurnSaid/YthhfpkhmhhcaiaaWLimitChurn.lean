/- The walk of LimitChurn. -/
import Derived.Test.YthhfpkhmhhcaiaaLive
import Derived.Test.YthhfpkhmhhcaiaaSplit
namespace Go.Proofs.Ythhfpkhmhhcaiaa
open Go Go.RowKit
set_option linter.unusedVariables false
set_option linter.unusedSimpArgs false

theorem walk_LimitChurn (a0 a1 a2 : Int) (w : World) (w0 : (Lit.int .u64 a0).wf = true) (w1 : (Lit.int .u64 a1).wf = true) (w2 : (Lit.int .u64 a2).wf = true) :
    Calls Try.prog 3 #[.int .u64 a0, .int .u64 a1, .int .u64 a2] w fun e w' => e = .returned (.bool true) ∧ Below w.heap.size w w' := by
  obtain ⟨b0, c0⟩ := u64_of w0
  obtain ⟨b2, c2⟩ := u64_of w2
  have HP := Lib.hid (fun w => churn_any a0 a1 a2 w b0 c0 b2 c2)
  have HR := Lib.hid (fun w => rchurn_any a0 a1 a2 w b0 c0 b2 c2)
  have hge := churnQ_ge a0 a1 a2
  clear w0 w1 w2 b0 c0 b2 c2
  generalize churnQ a0 a1 a2 = q at *
  go_enter Try.func3, Try.ntmps3
  go_wp2_with fail
  refine (HP.out _).mono ?_
  rintro e w1 ⟨rfl, rfl⟩
  go_wp2_with fail
  refine (alive_any _).mono ?_
  rintro e w1 ⟨rfl, hb⟩
  have HB := Lib.hid hb
  clear hb
  go_wp2_with fail
  refine (HR.out _).mono ?_
  rintro e w2 ⟨rfl, rfl⟩
  go_wp2_with fail
  go_ret
  exact ⟨rfl, HB.out⟩
end Go.Proofs.Ythhfpkhmhhcaiaa
