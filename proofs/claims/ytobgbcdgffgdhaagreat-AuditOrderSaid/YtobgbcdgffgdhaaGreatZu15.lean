/- Part 15 of 29: L15Mul. -/
import Derived.BigQuiet
import Derived.Deep.CutBlock
import Derived.Deep.DeepCutAuto
import Derived.Lib.Hide
import Derived.Lib.ItoaNum
import Derived.Test.YtobgbcdgffgdhaaGreatRows
import Derived.Test.YtobgbcdgffgdhaaGreatShelf
import Derived.WalkLawsBesides
namespace Go.Proofs.YtobgbcdgffgdhaaGreat
set_option linter.unusedVariables false
set_option linter.unusedSimpArgs false
section
set_option maxRecDepth 100000
open Go.RowKit
def mdQ (a b d : Nat) : Nat := if 1 ≤ d ∧ a * b / d < 18446744073709551616 then a * b / d else 0
end
end Go.Proofs.YtobgbcdgffgdhaaGreat
