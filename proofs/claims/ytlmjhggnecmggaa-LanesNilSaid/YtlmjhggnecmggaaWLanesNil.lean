/- The walk of LanesNil. (Written by mknil.py.) -/
import Derived.Test.YtlmjhggnecmggaaNilA
import Derived.Test.YtlmjhggnecmggaaNilB
import Derived.Test.YtlmjhggnecmggaaNilC
import Derived.OpenShut
import Derived.LoopN
namespace Go.Proofs.Ytlmjhggnecmggaa
open Go Go.RowKit Go.OpenShut
set_option linter.unusedVariables false
set_option linter.unusedSimpArgs false

theorem walk_LanesNil (a0 : Int) (a1 : Int) (w : World) (w0 : (Lit.int .i64 a0).wf = true) (w1 : (Lit.int .i64 a1).wf = true) :
    Calls Try.prog 8 #[.int .i64 a0, .int .i64 a1] w fun e w' => e = .returned (.bool true) ∧ Below w.heap.size w w' := by
  by_cases c0 : a0 = 0
  · subst c0; exact nil_0 a1 w
  · by_cases c1 : a0 = 1
    · subst c1; exact nil_1 a1 w
    · exact nil_no a0 a1 w c0 c1
end Go.Proofs.Ytlmjhggnecmggaa
