/- Part 2 of 29: Big. -/
import Derived.Test.YtianiiijaopdpaaGreatZy00
import Derived.OpenShut
import Derived.ProofKit
import Derived.Test.YtianiiijaopdpaaGreatRows
import Derived.WalkKit
namespace Go.Proofs.YtianiiijaopdpaaGreat
set_option linter.unusedVariables false
set_option linter.unusedSimpArgs false
set_option maxRecDepth 100000
set_option maxHeartbeats 8000000
section
open Go Go.ChangeShapes Go.WideShapes Go.ChangeAt Go.RowKit
theorem Zar:ownKnob Tryz.prog.godebug=none:=by kernel_rfl
theorem gY:laidOutB Tryz.prog=true:=by kernel_rfl
theorem ur:mapsRowed Tryz.prog=true:=by kernel_rfl
theorem nU:(Tryz.prog.stops== [])=true:=by kernel_rfl
theorem nT:(Tryz.prog.stopKnobs== [])=true:=by kernel_rfl
theorem um:(Rows.engineMatchesRow.plainKeys==Tryz.prog.plainKeys)=true:=by kernel_rfl
theorem nS:Tryz.prog.stopsHeard=true:=by kernel_rfl
theorem nQ:Tryz.prog.mayEnter=true:=by kernel_rfl
theorem uo:(Rows.engineMatchesRow.lifted==Tryz.prog.liftsFinal)=true:=by kernel_rfl
theorem uq:(Tryz.prog.make==some Rows.engineMatchesRow.make)=true:=by kernel_rfl
end
end Go.Proofs.YtianiiijaopdpaaGreat
