/- Next, the reference's Next, Live and Final. -/
import Derived.Test.YtfcjgllljejfcaaTab
namespace Go.Proofs.Ytfcjgllljejfcaa
open Go Go.RowKit Go.Maps
set_option linter.unusedVariables false
set_option linter.unusedSimpArgs false

theorem wf_bd {n : Int} (h : (Lit.int .i64 n).wf = true) : -9223372036854775808 ≤ n ∧ n ≤ 9223372036854775807 := by
  exact bounds_i64 h
theorem next_any (s e : Int) (w : World) (hs : (Lit.int .i64 s).wf = true) (he : (Lit.int .i64 e).wf = true) :
    Calls Try.prog 44 #[.int .i64 s, .int .i64 e] w fun x w' => x = .returned (.tuple #[.int .i64 (refN s e), .bool (refN s e != 0)]) ∧ Below w.heap.size w w' := by
  go_enter Try.func44, Try.ntmps44
  go_wp2_with (go_at_call 53; refine (table_any _).mono ?_; rintro x w' ⟨b, rfl, hT, hb⟩; have hl := look hT hs he; unfold ki at hl; have HB := Lib.hid hb; clear hT hb)
  go_ret2
  exact ⟨rfl, HB.out⟩
theorem refnext_any (s e : Int) (w : World) (hs : (Lit.int .i64 s).wf = true) (he : (Lit.int .i64 e).wf = true) :
    Calls Try.prog 31 #[.int .i64 s, .int .i64 e] w fun x w' => x = .returned (.int .i64 (refN s e)) ∧ w = w' := by
  have b1 := wf_bd hs
  have b2 := wf_bd he
  clear hs he
  go_enter Try.func31, Try.ntmps31
  go_wp2
  all_goals
    go_ret
    refine ⟨ret_int ?_, rfl⟩
    simp only [beq_iff_eq, beq_eq_false_iff_ne, ne_eq] at *
    unfold refN
    repeat' split
    all_goals first | rfl | omega | (rw [IntWalk.wrap64_in _ (by omega)])
end Go.Proofs.Ytfcjgllljejfcaa
