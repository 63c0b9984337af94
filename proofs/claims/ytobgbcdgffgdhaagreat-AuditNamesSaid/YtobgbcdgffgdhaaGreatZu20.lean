/- Part 20 of 29: L18RefPay. -/
import Derived.Test.YtobgbcdgffgdhaaGreatZu14
import Derived.Test.YtobgbcdgffgdhaaGreatZu18
import Derived.Laws.EntriesVeiled
namespace Go.Proofs.YtobgbcdgffgdhaaGreat
set_option linter.unusedVariables false
set_option linter.unusedSimpArgs false
section
open Go Go.RowKit
set_option maxRecDepth 100000
def lastE (a x : Int) (c : Nat → Int) (more e : Int) : Option Int := match bnd_18 a x c with | none => none | some k => if 0 ≤ e ∧ e + k + 1 + more ≤ 1099511627776 then some (e + k + 1 + more) else none
end
end Go.Proofs.YtobgbcdgffgdhaaGreat
