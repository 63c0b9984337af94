/- Part 2 of 29: Big. -/
import Derived.OpenShut
import Derived.ProofKit
import Derived.Test.YtobgbcdgffgdhaaGreatRows
import Derived.WalkKit
namespace Go.Proofs.YtobgbcdgffgdhaaGreat
set_option linter.unusedVariables false
set_option linter.unusedSimpArgs false
section
open Go Go.ChangeShapes Go.WideShapes Go.ChangeAt Go.RowKit
theorem bigOwn : ownKnob Tryz.prog.godebug = none := by kernel_rfl
theorem bigLaid : laidOutB Tryz.prog = true := by kernel_rfl
theorem bigMaps : mapsRowed Tryz.prog = true := by kernel_rfl
theorem bigStops : (Tryz.prog.stops == []) = true := by kernel_rfl
theorem bigKnobs : (Tryz.prog.stopKnobs == []) = true := by kernel_rfl
theorem bigKeys : (Rows.auditMatchesRow.plainKeys == Tryz.prog.plainKeys) = true := by kernel_rfl
theorem bigHeard : Tryz.prog.stopsHeard = true := by kernel_rfl
theorem bigEnter : Tryz.prog.mayEnter = true := by kernel_rfl
theorem bigLift : (Rows.auditMatchesRow.lifted == Tryz.prog.liftsFinal) = true := by kernel_rfl
theorem bigMake : (Tryz.prog.make == some Rows.auditMatchesRow.make) = true := by kernel_rfl
end
end Go.Proofs.YtobgbcdgffgdhaaGreat
