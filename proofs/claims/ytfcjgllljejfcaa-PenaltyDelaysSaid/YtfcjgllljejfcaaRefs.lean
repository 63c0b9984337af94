/- The reference's epoch and Later; what the lists of changes make of a validator. -/
import Derived.Test.YtfcjgllljejfcaaSlash
namespace Go.Proofs.Ytfcjgllljejfcaa
open Go Go.RowKit
set_option linter.unusedVariables false
set_option linter.unusedSimpArgs false
set_option maxRecDepth 100000

theorem refepoch_any (e : Int) (w : World) : Calls Try.prog 30 #[.int .i64 e] w fun o w' => o = .returned (.bool (decide (inE e))) ∧ w = w' := by
  by_cases h0 : 0 ≤ e
  · have hd0 : decide (0 ≤ e) = true := by simpa using h0
    by_cases h1 : e ≤ 1099511627776
    · have H := Lib.hid (show decide (inE e) = true from decide_eq_true ⟨h0, h1⟩)
      have hd1 : decide (e ≤ 1099511627776) = true := by simpa using h1
      go_enter Try.func30, Try.ntmps30
      go_wp2_with (go_at_call 48; refine (maxEpoch_any _).mono ?_; rintro o w' ⟨rfl, rfl⟩)
      go_ret
      exact ⟨ret_bool H.out.symm, rfl⟩
    · have H := Lib.hid (show decide (inE e) = false from decide_eq_false fun h => h1 h.2)
      have hd1 : decide (e ≤ 1099511627776) = false := by simpa using h1
      go_enter Try.func30, Try.ntmps30
      go_wp2_with (go_at_call 48; refine (maxEpoch_any _).mono ?_; rintro o w' ⟨rfl, rfl⟩)
      go_ret
      exact ⟨ret_bool H.out.symm, rfl⟩
  · have hd0 : decide (0 ≤ e) = false := by simpa using h0
    have H := Lib.hid (show decide (inE e) = false from decide_eq_false fun h => h0 h.1)
    go_enter Try.func30, Try.ntmps30
    go_wp2_with (go_at_call 48; refine (maxEpoch_any _).mono ?_; rintro o w' ⟨rfl, rfl⟩)
    go_ret
    exact ⟨ret_bool H.out.symm, rfl⟩
theorem reflater_one (e n : Int) (g : Nat) (w : World) (hn : 0 ≤ n) (hn2 : n ≤ 9223372036854775807) (hg : w.cell? ⟨g, 0, none⟩ = some (.int .i64 n)) :
    Calls Try.prog 32 #[.int .i64 e, .slice (some ⟨g, 0, none⟩) 1 1] w fun o w' => o = .returned (.tuple #[.int .i64 (if lOk e n then e + n else 0), .bool (decide (lOk e n))]) ∧ ∃ m, w' = w.drewN m := by
  by_cases h : inE e
  · refine (refLater_any e (some ⟨g, 0, none⟩) 1 1 [n] w h.1 h.2 (by omega) (fun i hi => ?_) (fun _ => ⟨g, 0, rfl, fun i hi => ?_⟩)).mono ?_
    · obtain rfl : i = 0 := by omega
      exact ⟨by simp; omega, by simpa using hn2⟩
    · obtain rfl : i = 0 := by omega
      exact hg
    · rintro o w' ⟨rfl, hw⟩
      refine ⟨?_, hw⟩
      have h' := h
      unfold inE at h'
      by_cases hs : n ≤ 1099511627776 - e
      · rw [if_pos ⟨h, hs⟩, decide_eq_true (show lOk e n from ⟨h, hs⟩)]
        simp [laterTo, laterIs, h', hn, hs]
      · rw [if_neg (fun x => hs x.2), decide_eq_false (fun x : lOk e n => hs x.2)]
        simp [laterTo, laterIs, h', hn, hs]
  · refine (refLater_out e (some ⟨g, 0, none⟩) 1 1 w (by unfold inE at h; omega)).mono ?_
    rintro o w' ⟨rfl, rfl⟩
    rw [if_neg (fun x => h x.1), decide_eq_false (fun x : lOk e n => h x.1)]
    exact ⟨rfl, 0, rfl⟩

/-! ### what the lists of changes make -/
section
variable {v : Val} {e n : Int}
theorem acc_out (h : ¬ inE e) : runE [requestE e, passE 2] v = (10, val0) := by
  simp [runE, requestE, h]
theorem acc_bad (h : inE e) (h2 : refN v.st 2 = 0) : runE [requestE e, passE 2] v = (8, val0) := by
  simp [runE, requestE, h, passE, h2]
theorem acc_ok (h : inE e) (h2 : refN v.st 2 ≠ 0) : runE [requestE e, passE 2] v = (0, { v with rq := e, st := refN v.st 2 }) := by
  simp [runE, requestE, h, passE, h2]
theorem runE_go {f : Eff} {es : List Eff} {x y : Val} (h : f x = (0, y)) : runE (f :: es) x = runE es y := by
  rw [runE, h]
  exact if_pos rfl
theorem runE_end {f : Eff} {es : List Eff} {x y : Val} {c : Int} (h : f x = (c, y)) (hc : c ≠ 0) : runE (f :: es) x = (c, val0) := by
  rw [runE, h]
  exact if_neg hc
theorem asg_bad (h : ¬ (v.st = 3 ∧ v.ex = -1)) : runE [scheduleE e, holdE e n] v = (8, val0) := runE_end (y := v) (if_neg h) (by decide)
theorem asg_out (h : v.st = 3 ∧ v.ex = -1) (h2 : ¬ lOk e n) : runE [scheduleE e, holdE e n] v = (10, val0) :=
  (runE_go (y := { v with ex := e }) (if_pos h)).trans (runE_end (y := { v with ex := e }) (if_neg h2) (by decide))
theorem asg_ok (h : v.st = 3 ∧ v.ex = -1) (h2 : lOk e n) : runE [scheduleE e, holdE e n] v = (0, { v with ex := e, wd := max v.wd (e + n) }) :=
  (runE_go (y := { v with ex := e }) (if_pos h)).trans (runE_go (y := { v with ex := e, wd := max v.wd (e + n) }) (if_pos h2))
theorem pay_bad (h : ¬ (v.st = 5 ∧ v.wd ≤ e)) : runE [ripeE e, passE 5] v = (8, val0) := by
  by_cases h1 : e < v.wd
  · exact runE_end (y := v) (if_pos h1) (by decide)
  · exact (runE_go (y := v) (if_neg h1)).trans (runE_end (y := v) (if_pos (by unfold refN; repeat' split <;> omega)) (by decide))
theorem pay_ok (h : v.st = 5) (h1 : v.wd ≤ e) : runE [ripeE e, passE 5] v = (0, { v with st := 6 }) := by
  have e6 : refN v.st 5 = 6 := by rw [h]; rfl
  refine (runE_go (y := v) (if_neg (by omega))).trans (runE_go (y := { v with st := 6 }) ?_)
  unfold passE
  rw [e6]
  rfl
/-- The changes of a slashing. -/
def slashL (v : Val) (e n : Int) : List Eff := if v.st = 2 then [markE, passE 7, holdE e n, requestE e] else [markE, passE 7, holdE e n]
def slashV (v : Val) (e n : Int) : Val := { v with st := refN v.st 7, sl := true, rq := if v.st = 2 then e else v.rq, wd := max v.wd (e + n), dl := -1 }
theorem mark_ok (h : v.sl = false) : markE v = (0, { v with sl := true, dl := -1 }) := if_neg (by rw [h]; decide)
theorem sl_yes (h : v.sl = true) : runE (slashL v e n) v = (9, val0) := by
  unfold slashL
  split <;> exact runE_end (y := v) (if_pos h) (by decide)
theorem sl_bad (h : v.sl = false) (h2 : refN v.st 7 = 0) : runE (slashL v e n) v = (8, val0) := by
  unfold slashL
  split <;> exact (runE_go (mark_ok h)).trans (runE_end (y := { v with sl := true, dl := -1 }) (if_pos h2) (by decide))
theorem sl_out (h : v.sl = false) (h2 : refN v.st 7 ≠ 0) (h3 : ¬ lOk e n) : runE (slashL v e n) v = (10, val0) := by
  unfold slashL
  split <;> exact (runE_go (mark_ok h)).trans ((runE_go (y := { v with sl := true, dl := -1, st := refN v.st 7 }) (if_neg h2)).trans (runE_end (y := { v with sl := true, dl := -1, st := refN v.st 7 }) (if_neg h3) (by decide)))
theorem sl_ok (h : v.sl = false) (h2 : refN v.st 7 ≠ 0) (h3 : lOk e n) : runE (slashL v e n) v = (0, slashV v e n) := by
  have k : runE [holdE e n] { v with sl := true, dl := -1, st := refN v.st 7 } = (0, { v with sl := true, dl := -1, st := refN v.st 7, wd := max v.wd (e + n) }) := runE_go (if_pos h3)
  unfold slashL slashV
  by_cases h4 : v.st = 2
  · rw [if_pos h4, if_pos h4]
    exact (runE_go (mark_ok h)).trans ((runE_go (y := { v with sl := true, dl := -1, st := refN v.st 7 }) (if_neg h2)).trans ((runE_go (y := { v with sl := true, dl := -1, st := refN v.st 7, wd := max v.wd (e + n) }) (if_pos h3)).trans (runE_go (y := { v with sl := true, dl := -1, st := refN v.st 7, wd := max v.wd (e + n), rq := e }) (if_pos h3.1))))
  · rw [if_neg h4, if_neg h4]
    exact (runE_go (mark_ok h)).trans ((runE_go (y := { v with sl := true, dl := -1, st := refN v.st 7 }) (if_neg h2)).trans k)
end
end Go.Proofs.Ytfcjgllljejfcaa
