/- Part 13 of 29: L14Batch. -/
import Derived.Test.YtobgbcdgffgdhaaGreatZu11
import Derived.LoopIn
import Derived.LoopNIn
import Derived.OwnWalkIn
import Derived.RangeFuncBox
import Derived.TacticsInMore
namespace Go.Proofs.YtobgbcdgffgdhaaGreat
set_option linter.unusedVariables false
set_option linter.unusedSimpArgs false
section
open Go Go.RowKit Go.Shelf
set_option maxRecDepth 100000
attribute [local go_sem] Oper.semAt_some
def nowF (z : Nat) : Value := .func (.func 238) #[] #[.pointer (some ⟨z + 4, 0, none⟩), .pointer (some ⟨z, 0, none⟩)]
end
end Go.Proofs.YtobgbcdgffgdhaaGreat
