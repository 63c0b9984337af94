/- The walk of LimitEpochs. -/
import Derived.Test.YthhfpkhmhhcaiaaLive
import Derived.Test.YthhfpkhmhhcaiaaSplit
namespace Go.Proofs.Ythhfpkhmhhcaiaa
open Go Go.RowKit
set_option linter.unusedVariables false
set_option linter.unusedSimpArgs false

theorem walk_LimitEpochs (a0 a1 : Int) (w : World) (w0 : (Lit.int .u64 a0).wf = true) (w1 : (Lit.int .u64 a1).wf = true) :
    Calls Try.prog 5 #[.int .u64 a0, .int .u64 a1] w fun e w' => e = .returned (.bool true) ∧ Below w.heap.size w w' := by
  obtain ⟨b0, c0⟩ := u64_of w0
  obtain ⟨b1, c1⟩ := u64_of w1
  have HP := Lib.hid (fun w => epochs_any a0 a1 w b0 c0 b1 c1)
  have HR := Lib.hid (fun w => repochs_any a0 a1 w b0 c0 b1 c1)
  clear w0 w1 b0 c0 b1 c1
  generalize epQ a0 a1 = q at *
  generalize epOk a0 a1 = b at *
  go_enter Try.func5, Try.ntmps5
  go_wp2_with fail
  refine (HP.out _).mono ?_
  rintro e w1 ⟨rfl, rfl⟩
  go_wp2_with fail
  refine (HR.out _).mono ?_
  rintro e w1 ⟨rfl, rfl⟩
  go_wp2_with fail
  refine (alive_any _).mono ?_
  rintro e w1 ⟨rfl, hb⟩
  have HB := Lib.hid hb
  clear hb
  go_wp2_with fail
  go_ret
  exact ⟨rfl, HB.out⟩
end Go.Proofs.Ythhfpkhmhhcaiaa
