/- Part 2 of 58: Big. -/
import Derived.Test.YtianiiijaopdpaaGreatZu00
import Derived.OpenShut
import Derived.ProofKit
import Derived.Test.YtianiiijaopdpaaGreatRows
import Derived.WalkKit
namespace Go.Proofs.YtianiiijaopdpaaGreat
set_option linter.unusedVariables false
set_option linter.unusedSimpArgs false
set_option maxRecDepth 100000
set_option maxHeartbeats 8000000
section
open Go Go.ChangeShapes Go.WideShapes Go.ChangeAt Go.RowKit
theorem ee:ownKnob Tryz.prog.godebug=none:=by kernel_rfl
theorem LD:laidOutB Tryz.prog=true:=by kernel_rfl
theorem Cr:mapsRowed Tryz.prog=true:=by kernel_rfl
theorem R6:(Tryz.prog.stops== [])=true:=by kernel_rfl
theorem R0:(Tryz.prog.stopKnobs== [])=true:=by kernel_rfl
theorem Co:(Rows.engineMatchesRow.plainKeys==Tryz.prog.plainKeys)=true:=by kernel_rfl
theorem RZ:Tryz.prog.stopsHeard=true:=by kernel_rfl
theorem RY:Tryz.prog.mayEnter=true:=by kernel_rfl
theorem Cp:(Rows.engineMatchesRow.lifted==Tryz.prog.liftsFinal)=true:=by kernel_rfl
theorem Cq:(Tryz.prog.make==some Rows.engineMatchesRow.make)=true:=by kernel_rfl
end
end Go.Proofs.YtianiiijaopdpaaGreat
