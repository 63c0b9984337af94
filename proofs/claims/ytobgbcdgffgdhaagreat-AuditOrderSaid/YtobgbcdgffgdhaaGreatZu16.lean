/- Part 16 of 29: L14Step. -/
import Derived.Test.YtobgbcdgffgdhaaGreatZu13
import Derived.Laws.EntriesVeiled
namespace Go.Proofs.YtobgbcdgffgdhaaGreat
set_option linter.unusedVariables false
set_option linter.unusedSimpArgs false
section
open Go Go.RowKit Go.Shelf
set_option maxRecDepth 100000
attribute [local go_sem] Oper.semAt_some
section
variable {w W w1 : World} {b : Nat} {go : Option Nat} {sz : Nat} {L : List Int} {wv : Value} {lim : Int} {p : Nat × Int} {k x : Nat}
def W0 (w1 : World) (b z : Nat) : World :=
 (((w1.alloc (.cells #[bndF (z + 1)] 282)).alloc (.cells #[.slice none 0 0] 24)).alloc (.cells #[.pointer (some ⟨b, 0, none⟩)] 95)).alloc (.cells #[nowF z] 65)
end
end
end Go.Proofs.YtobgbcdgffgdhaaGreat
