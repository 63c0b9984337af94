/- Part 3 of 31: Big. -/
import Derived.Test.YtobgbcdgffgdhaaGreatZw00
import Derived.OpenShut
import Derived.ProofKit
import Derived.Test.YtobgbcdgffgdhaaGreatRows
import Derived.WalkKit
namespace Go.Proofs.YtobgbcdgffgdhaaGreat
set_option linter.unusedVariables false
set_option linter.unusedSimpArgs false
set_option maxRecDepth 100000
set_option maxHeartbeats 8000000
section
open Go Go.ChangeShapes Go.WideShapes Go.ChangeAt Go.RowKit
theorem Zcg:ownKnob Tryz.prog.godebug=none:=by kernel_rfl
theorem jy:laidOutB Tryz.prog=true:=by kernel_rfl
theorem wg:mapsRowed Tryz.prog=true:=by kernel_rfl
theorem pD:(Tryz.prog.stops== [])=true:=by kernel_rfl
theorem pC:(Tryz.prog.stopKnobs== [])=true:=by kernel_rfl
theorem vY:(Rows.auditMatchesRow.plainKeys==Tryz.prog.plainKeys)=true:=by kernel_rfl
theorem pB:Tryz.prog.stopsHeard=true:=by kernel_rfl
theorem pA:Tryz.prog.mayEnter=true:=by kernel_rfl
theorem vZ:(Rows.auditMatchesRow.lifted==Tryz.prog.liftsFinal)=true:=by kernel_rfl
theorem we:(Tryz.prog.make==some Rows.auditMatchesRow.make)=true:=by kernel_rfl
end
end Go.Proofs.YtobgbcdgffgdhaaGreat
