/- Part 3 of 34: Big. -/
import Derived.Test.YtobgbcdgffgdhaaGreatZx00
import Derived.OpenShut
import Derived.ProofKit
import Derived.Test.YtobgbcdgffgdhaaGreatRows
import Derived.WalkKit
namespace Go.Proofs.YtobgbcdgffgdhaaGreat
set_option linter.unusedVariables false
set_option linter.unusedSimpArgs false
set_option maxRecDepth 100000
set_option maxHeartbeats 8000000
section
open Go Go.ChangeShapes Go.WideShapes Go.ChangeAt Go.RowKit
theorem ZgR:ownKnob Tryz.prog.godebug=none:=by kernel_rfl
theorem ny:laidOutB Tryz.prog=true:=by kernel_rfl
theorem Zbo:mapsRowed Tryz.prog=true:=by kernel_rfl
theorem uk:(Tryz.prog.stops== [])=true:=by kernel_rfl
theorem uj:(Tryz.prog.stopKnobs== [])=true:=by kernel_rfl
theorem Zbl:(Rows.auditMatchesRow.plainKeys==Tryz.prog.plainKeys)=true:=by kernel_rfl
theorem ui:Tryz.prog.stopsHeard=true:=by kernel_rfl
theorem uh:Tryz.prog.mayEnter=true:=by kernel_rfl
theorem Zbm:(Rows.auditMatchesRow.lifted==Tryz.prog.liftsFinal)=true:=by kernel_rfl
theorem Zbn:(Tryz.prog.make==some Rows.auditMatchesRow.make)=true:=by kernel_rfl
end
end Go.Proofs.YtobgbcdgffgdhaaGreat
