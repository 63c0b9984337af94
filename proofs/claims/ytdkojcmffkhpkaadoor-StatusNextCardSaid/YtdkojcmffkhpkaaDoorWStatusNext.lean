/- The statement StatusNext, walked: it returns true for all numbers. -/
import Derived.Test.YtdkojcmffkhpkaaDoorRun
namespace Go.Proofs.YtdkojcmffkhpkaaDoor
open Go Go.RowKit Go.Maps
set_option linter.unusedVariables false
set_option linter.unusedSimpArgs false

theorem walk_StatusNext (a0 : Int) (a1 : Int) (w : World) (w0 : (Lit.int .i64 a0).wf = true) (w1 : (Lit.int .i64 a1).wf = true) (hL : laidMetH Tryd.prog Rows.statusNextRow.laid w) :
    Calls Tryd.prog 3 #[.int .i64 a0, .int .i64 a1] w fun e w' => e = .returned (.bool true) ∧ Below w.heap.size w w' := by
  have h := names_of_laid hL
  have H := Lib.hid h
  have H1 := Lib.hid (next_any a0 a1 w w0 w1)
  have H2 : Hid (∀ w : World, Calls Tryd.prog 10 #[.int .i64 a0, .int .i64 a1] w fun x w' => x = .returned (.int .i64 (refN a0 a1)) ∧ w = w') := Lib.hid fun w => refnext_any a0 a1 w w0 w1
  clear w0 w1 hL h
  generalize refN a0 a1 = r at *
  go_enter Tryd.func3, Tryd.ntmps3
  go_wp2_with fail
  refine H1.out.mono ?_
  rintro e w1 ⟨rfl, hb1⟩
  have HB1 := Lib.hid hb1
  have HA := Lib.hid (alive_any w1 (H.out.below hb1))
  clear hb1
  go_wp2_with fail
  refine (H2.out _).mono ?_
  rintro e w2 ⟨rfl, rfl⟩
  go_wp2_with fail
  refine HA.out.mono ?_
  rintro e w2 ⟨rfl, hb2⟩
  have HB2 := Lib.hid (HB1.out.trans (hb2.mono HB1.out.size))
  clear hb2
  by_cases hr : r = 0
  · subst hr
    go_wp2
    go_ret
    exact ⟨rfl, HB2.out⟩
  · have hr1 : (r == 0) = false := by simpa using hr
    have hr2 : (r != 0) = true := by simpa using hr
    clear hr
    go_wp2
    go_ret
    exact ⟨rfl, HB2.out⟩
end Go.Proofs.YtdkojcmffkhpkaaDoor
