/- Part 17 of 29: L15Settle L15Refs. -/
import Derived.Test.YtobgbcdgffgdhaaGreatZu14
import Derived.Test.YtobgbcdgffgdhaaGreatZu15
namespace Go.Proofs.YtobgbcdgffgdhaaGreat
set_option linter.unusedVariables false
set_option linter.unusedSimpArgs false
section
open Go Go.RowKit
set_option maxRecDepth 100000
def amQ (a n d : Nat) : Nat := if d < n then 0 else mdQ a n d
theorem amQ_le (a n d : Nat) : amQ a n d ≤ a := by
 unfold amQ
 split
 ·omega
 ·unfold mdQ
  split
  ·rename_i h1 h2
   have h3 : n ≤ d := by omega
   calc a * n / d ≤ a * d / d := Nat.div_le_div_right (Nat.mul_le_mul_left a h3)
    _ = a := Nat.mul_div_cancel a (by omega)
  ·omega
end
section
open Go Go.RowKit
set_option maxRecDepth 100000
section
variable {v : Val} {e n : Int}
theorem acc_out (h : ¬ inE e) : runE [requestE e, passE 2] v = (10, val0) := by
 simp [runE, requestE, h]
theorem acc_bad (h : inE e) (h2 : refN v.st 2 = 0) : runE [requestE e, passE 2] v = (8, val0) := by
 simp [runE, requestE, h, passE, h2]
theorem acc_ok (h : inE e) (h2 : refN v.st 2 ≠ 0) : runE [requestE e, passE 2] v = (0, { v with rq := e, st := refN v.st 2 }) := by
 simp [runE, requestE, h, passE, h2]
theorem runE_go {f : Eff} {es : List Eff} {x y : Val} (h : f x = (0, y)) : runE (f :: es) x = runE es y := by
 rw [runE, h]
 exact if_pos rfl
theorem runE_end {f : Eff} {es : List Eff} {x y : Val} {c : Int} (h : f x = (c, y)) (hc : c ≠ 0) : runE (f :: es) x = (c, val0) := by
 rw [runE, h]
 exact if_neg hc
theorem asg_ok (h : v.st = 3 ∧ v.ex = -1) (h2 : lOk e n) : runE [scheduleE e, holdE e n] v = (0, { v with ex := e, wd := max v.wd (e + n) }) :=
 (runE_go (y := { v with ex := e }) (if_pos h)).trans (runE_go (y := { v with ex := e, wd := max v.wd (e + n) }) (if_pos h2))
theorem pay_ok (h : v.st = 5) (h1 : v.wd ≤ e) : runE [ripeE e, passE 5] v = (0, { v with st := 6 }) := by
 have e6 : refN v.st 5 = 6 := by rw [h]; rfl
 refine (runE_go (y := v) (if_neg (by omega))).trans (runE_go (y := { v with st := 6 }) ?_)
 unfold passE
 rw [e6]
 rfl
def slashL (v : Val) (e n : Int) : List Eff := if v.st = 2 then [markE, passE 7, holdE e n, requestE e] else [markE, passE 7, holdE e n]
def slashV (v : Val) (e n : Int) : Val := { v with st := refN v.st 7, sl := true, rq := if v.st = 2 then e else v.rq, wd := max v.wd (e + n), dl := -1 }
theorem mark_ok (h : v.sl = false) : markE v = (0, { v with sl := true, dl := -1 }) := if_neg (by rw [h]; decide)
theorem sl_yes (h : v.sl = true) : runE (slashL v e n) v = (9, val0) := by
 unfold slashL
 split <;> exact runE_end (y := v) (if_pos h) (by decide)
theorem sl_bad (h : v.sl = false) (h2 : refN v.st 7 = 0) : runE (slashL v e n) v = (8, val0) := by
 unfold slashL
 split <;> exact (runE_go (mark_ok h)).trans (runE_end (y := { v with sl := true, dl := -1 }) (if_pos h2) (by decide))
theorem sl_out (h : v.sl = false) (h2 : refN v.st 7 ≠ 0) (h3 : ¬ lOk e n) : runE (slashL v e n) v = (10, val0) := by
 unfold slashL
 split <;> exact (runE_go (mark_ok h)).trans ((runE_go (y := { v with sl := true, dl := -1, st := refN v.st 7 }) (if_neg h2)).trans (runE_end (y := { v with sl := true, dl := -1, st := refN v.st 7 }) (if_neg h3) (by decide)))
theorem sl_ok (h : v.sl = false) (h2 : refN v.st 7 ≠ 0) (h3 : lOk e n) : runE (slashL v e n) v = (0, slashV v e n) := by
 have k : runE [holdE e n] { v with sl := true, dl := -1, st := refN v.st 7 } = (0, { v with sl := true, dl := -1, st := refN v.st 7, wd := max v.wd (e + n) }) := runE_go (if_pos h3)
 unfold slashL slashV
 by_cases h4 : v.st = 2
 ·rw [if_pos h4, if_pos h4]
  exact (runE_go (mark_ok h)).trans ((runE_go (y := { v with sl := true, dl := -1, st := refN v.st 7 }) (if_neg h2)).trans ((runE_go (y := { v with sl := true, dl := -1, st := refN v.st 7, wd := max v.wd (e + n) }) (if_pos h3)).trans (runE_go (y := { v with sl := true, dl := -1, st := refN v.st 7, wd := max v.wd (e + n), rq := e }) (if_pos h3.1))))
 ·rw [if_neg h4, if_neg h4]
  exact (runE_go (mark_ok h)).trans ((runE_go (y := { v with sl := true, dl := -1, st := refN v.st 7 }) (if_neg h2)).trans k)
end
end
end Go.Proofs.YtobgbcdgffgdhaaGreat
