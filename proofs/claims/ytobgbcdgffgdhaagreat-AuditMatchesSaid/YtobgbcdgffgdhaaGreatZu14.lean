/- Part 14 of 29: L15Eff L15Does. -/
import Derived.Test.YtobgbcdgffgdhaaGreatZu06
import Derived.WalkLawsBesides
namespace Go.Proofs.YtobgbcdgffgdhaaGreat
set_option linter.unusedVariables false
set_option linter.unusedSimpArgs false
section
open Go Go.RowKit
set_option maxRecDepth 100000
abbrev Eff := Val → Int × Val
def inE (e : Int) : Prop := 0 ≤ e ∧ e ≤ 1099511627776
instance (e : Int) : Decidable (inE e) := by unfold inE; infer_instance
def passE (ev : Int) : Eff := fun x => if refN x.st ev = 0 then (8, x) else (0, { x with st := refN x.st ev })
def requestE (e : Int) : Eff := fun x => if inE e then (0, { x with rq := e }) else (10, x)
def scheduleE (e : Int) : Eff := fun x => if x.st = 3 ∧ x.ex = -1 then (0, { x with ex := e }) else (8, x)
def holdE (e n : Int) : Eff := fun x => if inE e ∧ n ≤ 1099511627776 - e then (0, { x with wd := max x.wd (e + n) }) else (10, x)
def ripeE (e : Int) : Eff := fun x => if e < x.wd then (8, x) else (0, x)
def markE : Eff := fun x => if x.sl = true then (9, x) else (0, { x with sl := true, dl := -1 })
section
variable {w w' : World} {b g : Nat} {x y : Val}
theorem refN_wf (s e : Int) : (Lit.int .i64 (refN s e)).wf = true := by
 have : refN s e = 0 ∨ refN s e = 2 ∨ refN s e = 3 ∨ refN s e = 4 ∨ refN s e = 5 ∨ refN s e = 6 ∨ refN s e = 7 := by
  unfold refN
  repeat' split
  all_goals omega
 rcases this with h | h | h | h | h | h | h <;> rw [h] <;> decide
def lOk (e n : Int) : Prop := inE e ∧ n ≤ 1099511627776 - e
instance (e n : Int) : Decidable (lOk e n) := by unfold lOk; infer_instance
end
end
section
open Go Go.RowKit
set_option maxRecDepth 100000
def runE : List Eff → Eff
 | [], x => (0, x)
 | e :: es, x => if (e x).1 = 0 then runE es (e x).2 else ((e x).1, val0)
end
end Go.Proofs.YtobgbcdgffgdhaaGreat
