/- The five changes of a validator, as plain functions; each closure does what its function says. -/
import Derived.Test.YtfcjgllljejfcaaVal
import Derived.Test.YtfcjgllljejfcaaEpoch
import Derived.Test.YtfcjgllljejfcaaNext
import Derived.Test.YtfcjgllljejfcaaFirst
import Derived.Deep.QuietTactic
import Derived.BigQuiet
namespace Go.Proofs.Ytfcjgllljejfcaa
open Go Go.RowKit
set_option linter.unusedVariables false
set_option linter.unusedSimpArgs false
set_option maxRecDepth 100000

/-- What a change makes of a validator: a code, and the validator after it. -/
abbrev Eff := Val → Int × Val
def inE (e : Int) : Prop := 0 ≤ e ∧ e ≤ 1099511627776
instance (e : Int) : Decidable (inE e) := by unfold inE; infer_instance
def passE (ev : Int) : Eff := fun x => if refN x.st ev = 0 then (8, x) else (0, { x with st := refN x.st ev })
def requestE (e : Int) : Eff := fun x => if inE e then (0, { x with rq := e }) else (10, x)
def scheduleE (e : Int) : Eff := fun x => if x.st = 3 ∧ x.ex = -1 then (0, { x with ex := e }) else (8, x)
def holdE (e n : Int) : Eff := fun x => if inE e ∧ n ≤ 1099511627776 - e then (0, { x with wd := max x.wd (e + n) }) else (10, x)
def ripeE (e : Int) : Eff := fun x => if e < x.wd then (8, x) else (0, x)
def markE : Eff := fun x => if x.sl = true then (9, x) else (0, { x with sl := true, dl := -1 })

/-- Block b is a validator. -/
def VB (w : World) (b : Nat) (x : Val) : Prop := Blk w b 28 (cellsV x)
section
variable {w w' : World} {b g : Nat} {x y : Val}
theorem VB.set (h : VB w b x) {i : Nat} {u : Value} (e : (cellsV x).setIfInBounds i u = cellsV y) : VB (w.setCell ⟨b, i, none⟩ u) b y := by
  have := Blk.set_ h i u
  rw [e] at this
  exact this
theorem VB.lt (h : VB w b x) : b < w.heap.size := Blk.lt h
theorem VB.fz (h : VB w b x) (i : Nat) : w.frozen? ⟨b, i, none⟩ = false := Blk.frozen h i
theorem refN_wf (s e : Int) : (Lit.int .i64 (refN s e)).wf = true := by
  have : refN s e = 0 ∨ refN s e = 2 ∨ refN s e = 3 ∨ refN s e = 4 ∨ refN s e = 5 ∨ refN s e = 6 ∨ refN s e = 7 := by
    unfold refN
    repeat' split
    all_goals omega
  rcases this with h | h | h | h | h | h | h <;> rw [h] <;> decide
theorem laterNil (e : Int) (w : World) : Calls Try.prog 42 #[.int .i64 e, .slice none 0 0] w fun o w' => o = .returned (.tuple #[.int .i64 (if inE e then e else 0), .bool (decide (inE e))]) ∧ w = w' := by
  by_cases h : inE e
  · refine (later_any e none 0 0 [] w h.1 h.2 (by omega) (fun i hi => absurd hi (by omega)) (fun h => absurd h (by omega))).mono ?_
    rintro o w' ⟨rfl, rfl⟩
    rw [if_pos h, decide_eq_true h]
    refine ⟨?_, rfl⟩
    unfold inE at h
    simp [laterTo, laterIs, h]
  · refine (later_out e none 0 0 w (by unfold inE at h; omega)).mono ?_
    rintro o w' ⟨rfl, rfl⟩
    rw [if_neg h, decide_eq_false h]
    exact ⟨rfl, rfl⟩
/-- Is the sum of an epoch and a number of epochs an epoch? -/
def lOk (e n : Int) : Prop := inE e ∧ n ≤ 1099511627776 - e
instance (e n : Int) : Decidable (lOk e n) := by unfold lOk; infer_instance
theorem laterOne (e n : Int) (g : Nat) (w : World) (hn : 0 ≤ n) (hn2 : n ≤ 9223372036854775807) (hg : w.cell? ⟨g, 0, none⟩ = some (.int .i64 n)) :
    Calls Try.prog 42 #[.int .i64 e, .slice (some ⟨g, 0, none⟩) 1 1] w fun o w' => o = .returned (.tuple #[.int .i64 (if lOk e n then e + n else 0), .bool (decide (lOk e n))]) ∧ w = w' := by
  by_cases h : inE e
  · refine (later_any e (some ⟨g, 0, none⟩) 1 1 [n] w h.1 h.2 (by omega) (fun i hi => ?_) (fun _ => ⟨g, 0, rfl, fun i hi => ?_⟩)).mono ?_
    · obtain rfl : i = 0 := by omega
      exact ⟨by simp; omega, by simpa using hn2⟩
    · obtain rfl : i = 0 := by omega
      exact hg
    · rintro o w' ⟨rfl, rfl⟩
      refine ⟨?_, rfl⟩
      have h' := h
      unfold inE at h'
      by_cases hs : n ≤ 1099511627776 - e
      · rw [if_pos ⟨h, hs⟩, decide_eq_true (show lOk e n from ⟨h, hs⟩)]
        simp [laterTo, laterIs, h', hn, hs]
      · rw [if_neg (fun x => hs x.2), decide_eq_false (fun x : lOk e n => hs x.2)]
        simp [laterTo, laterIs, h', hn, hs]
  · refine (later_out e (some ⟨g, 0, none⟩) 1 1 w (by unfold inE at h; omega)).mono ?_
    rintro o w' ⟨rfl, rfl⟩
    rw [if_neg (fun x => h x.1), decide_eq_false (fun x : lOk e n => h x.1)]
    exact ⟨rfl, rfl⟩
theorem maxTwo (a c : Int) (g : Nat) (w : World) (h : Blk w g 3 #[.int .i64 a, .int .i64 c]) :
    Calls Try.prog 47 #[.slice (some ⟨g, 0, none⟩) 2 2] w fun o w' => o = .returned (.int .i64 (max a c)) ∧ w = w' := by
  refine (max_row g 0 2 2 [a, c] w (by omega) (by omega) (fun i hi => ?_)).mono ?_
  · rw [Nat.zero_add, Blk.cell h i]
    obtain rfl | rfl : i = 0 ∨ i = 1 := by omega
    all_goals rfl
  · rintro o w' ⟨rfl, rfl⟩
    exact ⟨rfl, rfl⟩

theorem request1_any (e : Int) (x : Val) (w : World) (hb : VB w b x) (hg : w.cell? ⟨g, 0, none⟩ = some (.int .i64 e)) :
    Calls Try.prog 41 #[.pointer (some ⟨b, 0, none⟩), .pointer (some ⟨g, 0, none⟩)] w fun o w' => o = .returned (.int .i64 (requestE e x).1) ∧ VB w' b (requestE e x).2 ∧ w.grownBy w' (some b) := by
  have HL := Lib.hid (laterNil e w)
  have HB := Lib.hid hb
  have hf := hb.fz 3
  have hc : w.cell? ⟨b, 3, none⟩ = some (.int .i64 x.rq) := Blk.cell hb 3
  clear hb
  by_cases h : inE e
  · have HE := Lib.hid (show requestE e x = (0, { x with rq := e }) from if_pos h)
    rw [if_pos h, decide_eq_true h] at HL
    go_enter Try.func41, Try.ntmps41
    go_wp2_with fail
    refine HL.out.mono ?_
    rintro o w' ⟨rfl, rfl⟩
    go_wp2
    go_ret
    rw [HE.out]
    exact ⟨rfl, HB.out.set rfl, only_setCell (only_refl _ _) (.inl rfl) _⟩
  · have HE := Lib.hid (show requestE e x = (10, x) from if_neg h)
    rw [if_neg h, decide_eq_false h] at HL
    go_enter Try.func41, Try.ntmps41
    go_wp2_with fail
    refine HL.out.mono ?_
    rintro o w' ⟨rfl, rfl⟩
    go_wp2
    go_ret
    rw [HE.out]
    exact ⟨rfl, HB.out, only_refl _ _⟩
theorem schedule1_any (e : Int) (x : Val) (w : World) (hb : VB w b x) (hg : w.cell? ⟨g, 0, none⟩ = some (.int .i64 e)) :
    Calls Try.prog 45 #[.pointer (some ⟨b, 0, none⟩), .pointer (some ⟨g, 0, none⟩)] w fun o w' => o = .returned (.int .i64 (scheduleE e x).1) ∧ VB w' b (scheduleE e x).2 ∧ w.grownBy w' (some b) := by
  have HB := Lib.hid hb
  have hf := hb.fz 4
  have hc1 : w.cell? ⟨b, 1, none⟩ = some (.int .i64 x.st) := Blk.cell hb 1
  have hc4 : w.cell? ⟨b, 4, none⟩ = some (.int .i64 x.ex) := Blk.cell hb 4
  clear hb
  by_cases h : x.st = 3
  · have h3 : (x.st != 3) = false := by simpa using h
    by_cases h' : x.ex = -1
    · have h4 : (x.ex != -1) = false := by simpa using h'
      have HE := Lib.hid (show scheduleE e x = (0, { x with ex := e }) from if_pos ⟨h, h'⟩)
      clear h h'
      go_enter Try.func45, Try.ntmps45
      go_wp2
      go_ret
      rw [HE.out]
      exact ⟨rfl, HB.out.set rfl, only_setCell (only_refl _ _) (.inl rfl) _⟩
    · have h4 : (x.ex != -1) = true := by simpa using h'
      have HE := Lib.hid (show scheduleE e x = (8, x) from if_neg (fun hh => h' hh.2))
      clear h h'
      go_enter Try.func45, Try.ntmps45
      go_wp2
      go_ret
      rw [HE.out]
      exact ⟨rfl, HB.out, only_refl _ _⟩
  · have h3 : (x.st != 3) = true := by simpa using h
    have HE := Lib.hid (show scheduleE e x = (8, x) from if_neg (fun hh => h hh.1))
    clear h
    go_enter Try.func45, Try.ntmps45
    go_wp2
    go_ret
    rw [HE.out]
    exact ⟨rfl, HB.out, only_refl _ _⟩
theorem mark_any (x : Val) (w : World) (hb : VB w b x) :
    Calls Try.prog 33 #[.pointer (some ⟨b, 0, none⟩)] w fun o w' => o = .returned (.int .i64 (markE x).1) ∧ VB w' b (markE x).2 ∧ w.grownBy w' (some b) := by
  have HB := Lib.hid hb
  have hf2 := hb.fz 2
  have hf6 := hb.fz 6
  have hc2 : w.cell? ⟨b, 2, none⟩ = some (.bool x.sl) := Blk.cell hb 2
  have hc6 : w.cell? ⟨b, 6, none⟩ = some (.int .i64 x.dl) := Blk.cell hb 6
  clear hb
  cases h : x.sl with
  | true =>
    have HE := Lib.hid (show markE x = (9, x) from if_pos h)
    rw [h] at hc2
    go_enter Try.func33, Try.ntmps33
    go_wp2
    go_ret
    rw [HE.out]
    exact ⟨rfl, HB.out, only_refl _ _⟩
  | false =>
    have HE := Lib.hid (show markE x = (0, { x with sl := true, dl := -1 }) from if_neg (by rw [h]; simp))
    rw [h] at hc2
    go_enter Try.func33, Try.ntmps33
    go_wp2
    go_ret
    rw [HE.out]
    have k1 := VB.set (y := { x with sl := true }) HB.out (i := 2) (u := .bool true) rfl
    have k2 := VB.set (y := { x with sl := true, dl := -1 }) k1 (i := 6) (u := .int .i64 (-1)) rfl
    have g1 : w.grownBy (w.setCell ⟨b, 2, none⟩ (.bool true)) (some b) := only_setCell (only_refl _ _) (.inl rfl) _
    have g2 := only_setCell g1 (p := ⟨b, 6, none⟩) (.inl rfl) (.int .i64 (-1))
    exact ⟨rfl, k2, g2⟩
end
end Go.Proofs.Ytfcjgllljejfcaa
