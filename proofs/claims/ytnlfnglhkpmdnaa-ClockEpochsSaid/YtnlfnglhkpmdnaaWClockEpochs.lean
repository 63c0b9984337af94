/- The walk of ClockEpochs. -/
import Derived.Test.YtnlfnglhkpmdnaaClock
namespace Go.Proofs.Ytnlfnglhkpmdnaa
open Go.RowKit Go.OpenShut
set_option linter.unusedVariables false
theorem walk_ClockEpochs (a0 : Int) (a1 : Int) (a2 : Int) (w : World) (w0 : (Lit.int .i64 a0).wf = true) (w1 : (Lit.int .i64 a1).wf = true) (w2 : (Lit.int .i64 a2).wf = true) :
    Calls Try.prog 4 #[.int .i64 a0, .int .i64 a1, .int .i64 a2] w fun e w' => e = .returned (.bool true) ∧ Below w.heap.size w w' := by
  obtain ⟨_, b0⟩ := bounds_i64 w0
  clear w0 w1 w2
  obtain ⟨q, o, h1, h2⟩ : ∃ (q : Int) (o : Bool), (Calls Try.prog 15 #[.int .i64 a1, .int .i64 a2] w fun e w' => e = .returned (.tuple #[.int .i64 q, .bool o]) ∧ w = w') ∧
      (Calls Try.prog 16 #[.int .i64 a1, .int .i64 a2] w fun e w' => e = .returned (.tuple #[.int .i64 q, .bool o]) ∧ w = w') := by
    by_cases h : 0 ≤ a1 ∧ a1 ≤ 1099511627776 ∧ 1 ≤ a2 ∧ a2 ≤ 1048576
    · exact ⟨_, _, first_yes a1 a2 w h.1 h.2.1 h.2.2.1 h.2.2.2, refFirst_yes a1 a2 w h.1 h.2.1 h.2.2.1 h.2.2.2⟩
    · exact ⟨_, _, first_no a1 a2 w (by omega), refFirst_no a1 a2 w (by omega)⟩
  have H1 := Lib.hid h1
  have H2 := Lib.hid h2
  have H3 := Lib.hid (fun w => epochOf_any a0 a2 w b0)
  have H4 := Lib.hid (fun w => refEpochOf_any a0 a2 w b0)
  clear h1 h2
  generalize epochOf a0 a2 = p at *
  go_enter Try.func4, Try.ntmps4
  go_wp2_with fail
  refine H1.out.mono ?_
  rintro e w' ⟨rfl, rfl⟩
  go_wp2_with fail
  refine H2.out.mono ?_
  rintro e w' ⟨rfl, rfl⟩
  go_wp2_with fail
  refine (alive_any _).mono ?_
  rintro e w3 ⟨rfl, hb3⟩
  go_wp2_with fail
  refine (H3.out _).mono ?_
  rintro e w' ⟨rfl, rfl⟩
  go_wp2_with fail
  refine (H4.out _).mono ?_
  rintro e w' ⟨rfl, rfl⟩
  go_wp2_with fail
  go_ret
  exact ⟨rfl, hb3⟩
end Go.Proofs.Ytnlfnglhkpmdnaa
