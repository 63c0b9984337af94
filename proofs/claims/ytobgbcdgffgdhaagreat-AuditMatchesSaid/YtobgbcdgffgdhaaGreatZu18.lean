/- Part 18 of 29: L18Bnd. -/
import Derived.Test.YtobgbcdgffgdhaaGreatZu11
import Derived.WalkLawsBesides
namespace Go.Proofs.YtobgbcdgffgdhaaGreat
set_option linter.unusedVariables false
set_option linter.unusedSimpArgs false
section
open Go Go.RowKit
set_option maxRecDepth 100000
def bnd_18 (a x : Int) (c : Nat → Int) : Option Int := if a + x + c 9 ≤ 18446744073709551615 ∧ ceilQ (a + x + c 9) (c 7) ≤ 1099511627776 then some (max 1 (ceilQ (a + x + c 9) (c 7))) else none
end
end Go.Proofs.YtobgbcdgffgdhaaGreat
