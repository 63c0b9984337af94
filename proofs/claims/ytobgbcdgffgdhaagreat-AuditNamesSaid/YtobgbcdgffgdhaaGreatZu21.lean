/- Part 21 of 29: Sg Vok Phase Inv Tick Rg RgT RgO Code. -/
import Derived.Test.YtobgbcdgffgdhaaGreatZu19
import Derived.Test.YtobgbcdgffgdhaaGreatZu20
namespace Go.Proofs.YtobgbcdgffgdhaaGreat
set_option linter.unusedVariables false
set_option linter.unusedSimpArgs false
section
open Go Go.RowKit
structure Sg where
 bk : Int
 ep : Int
 V : List Val
 D : Int
 P : Int
 B : Int
 pd : List Int
 F : List Int
 W : List Int
 mg : List (Int × Int)
 pt : List Rq
 cu : Nat
 cy : Int
structure Rp where
 kd : Int
 cd : Int
 ix : Int
 bl : Int
 ep : Int
 dl : Int
 la : List As
 lp : List Pm
 vs : Int
def sg0 : Sg := ⟨0, 0, [], 0, 0, 0, [], [], [], [], [], 0, 0⟩
def rejS (s : Sg) (k c : Int) : Rp := ⟨k, c, -1, s.bk, s.ep, -1, [], [], 0⟩
def accS (s : Sg) (k i d : Int) : Rp := ⟨k, 0, i, s.bk, s.ep, d, [], [], 0⟩
def wV (V : List Val) : Int → Int := wOf (bals V)
def atV (V : List Val) (i : Int) : Val := V.getD i.toNat val0
def outB (V : List Val) (i : Int) : Bool := decide (i < 0 ∨ (V.length : Int) ≤ i)
def newV (x : Int) : Val := ⟨x, 1, false, -1, -1, -1, -1⟩
def depC (c : Nat → Int) (s : Sg) (x : Int) : Int :=
 if x < c 2 ∨ c 3 < x then 3 else if c 0 ≤ s.V.length then 5 else if c 1 ≤ s.pd.length then 6
 else if c 4 - (s.D - s.P - s.B) < x then 4 else if 18446744073709551615 < s.D + x then 10 else 0
def depS (s : Sg) (x : Int) : Sg := { s with V := s.V ++ [newV x], D := s.D + x, pd := s.pd ++ [(s.V.length : Int)] }
def depO (c : Nat → Int) (s : Sg) (o : Oq) : Rp × Sg :=
 if depC c s o.am = 0 then (accS s o.kd s.V.length (-1), depS s o.am) else (rejS s o.kd (depC c s o.am), s)
def accV (s : Sg) (v : Val) : Int × Val := runE [requestE s.ep, passE 2] v
def dueE (c : Nat → Int) (s : Sg) (cl : Int) (v : Val) : Option Int :=
 if addOk ((aheadL s.F s.W cl).map (wV s.V)) (aheadL s.F s.W cl).length = true then
  lastE (addQ ((aheadL s.F s.W cl).map (wV s.V)) (aheadL s.F s.W cl).length) v.bal c (c 10 + sweepN c) s.ep
 else none
def exC (c : Nat → Int) (s : Sg) (i cl : Int) : Int :=
 if outB s.V i = true then 7 else if (accV s (atV s.V i)).1 ≠ 0 then (accV s (atV s.V i)).1
 else if c 1 ≤ (laneL s.F s.W cl).length then 6 else if dueE c s cl (atV s.V i) = none then 10 else 0
def exD (c : Nat → Int) (s : Sg) (i cl : Int) : Int := (dueE c s cl (atV s.V i)).getD 0
def exS (c : Nat → Int) (s : Sg) (i cl : Int) : Sg :=
 { s with V := s.V.set i.toNat { (accV s (atV s.V i)).2 with dl := exD c s i cl }, F := pushF (c 1).toNat s.F cl i, W := pushV (c 1).toNat s.W cl i }
def exO (c : Nat → Int) (s : Sg) (o : Oq) (cl : Int) : Rp × Sg :=
 if exC c s o.ix cl = 0 then (accS s o.kd o.ix (exD c s o.ix cl), exS c s o.ix cl) else (rejS s o.kd (exC c s o.ix cl), s)
def slC (c : Nat → Int) (s : Sg) (i : Int) : Int :=
 if outB s.V i = true then 7 else if (slR (atV s.V i) s.ep c).1 ≠ 0 then (slR (atV s.V i) s.ep c).1
 else if (atV s.V i).st = 2 ∧ c 1 ≤ s.F.length then 6 else 0
def slS (c : Nat → Int) (s : Sg) (i : Int) : Sg :=
 { s with V := s.V.set i.toNat (slR (atV s.V i) s.ep c).2, B := s.B + slN (atV s.V i) s.ep c, F := if (atV s.V i).st = 2 then s.F ++ [i] else s.F }
def slO (c : Nat → Int) (s : Sg) (o : Oq) : Rp × Sg :=
 if slC c s o.ix = 0 then (accS s o.kd o.ix (-1), slS c s o.ix) else (rejS s o.kd (slC c s o.ix), s)
def cnC (c : Nat → Int) (s : Sg) (p : Int × Int) : Int := if reqM s.V p (c 6) ≠ 0 then reqM s.V p (c 6) else if c 1 ≤ s.mg.length then 6 else 0
def cnO (c : Nat → Int) (s : Sg) (o : Oq) : Rp × Sg :=
 if cnC c s (o.ix, o.tg) = 0 then (accS s o.kd o.ix (-1), { s with mg := s.mg ++ [(o.ix, o.tg)] }) else (rejS s o.kd (cnC c s (o.ix, o.tg)), s)
def paC (c : Nat → Int) (s : Sg) (r : Rq) : Int := if chkP s.V r ≠ 0 then chkP s.V r else if c 1 ≤ s.pt.length then 6 else 0
def paO (c : Nat → Int) (s : Sg) (o : Oq) : Rp × Sg :=
 if paC c s ⟨o.ix, o.am⟩ = 0 then (accS s o.kd o.ix (-1), { s with pt := s.pt ++ [⟨o.ix, o.am⟩] }) else (rejS s o.kd (paC c s ⟨o.ix, o.am⟩), s)
def leaveV (e : Int) (v : Val) : Val := if v.st = 3 ∧ v.ex = e then { v with st := 4 } else v
def ripenV (e : Int) (v : Val) : Val := if v.st = 4 ∧ v.wd ≤ e then { v with st := 5 } else v
def evV (ev : Int) (v : Val) : Val := { v with st := refN v.st ev }
def evL (ev : Int) : List Val → List Int → List Val
 | V, [] => V
 | V, i :: q => evL ev (V.set i.toNat (evV ev (atV V i))) q
def asgV (c : Nat → Int) (e : Int) : List Val → List (Int × Int) → List Val
 | V, [] => V
 | V, p :: q => asgV c e (V.set p.1.toNat (runE [scheduleE e, holdE e (c 10)] (atV V p.1)).2) q
def bdV (s : Sg) : List Val := (s.V.map (leaveV s.ep)).map (ripenV s.ep)
def bdX (c : Nat → Int) (s : Sg) : Int := churnQ (activeOf (bdV s)) (c 7) (c 8)
def bdR (c : Nat → Int) (s : Sg) : List (Int × Int) × List Int × List Int × Int := stp (wV (bdV s)) s.F s.W s.cy (bdX c s)
def bdA (c : Nat → Int) (s : Sg) : List Val := asgV c (s.ep + 1) (bdV s) (bdR c s).1
def bdN (c : Nat → Int) (s : Sg) : Nat := bat (bdX c s) (s.pd.map (wV (bdA c s)))
def bdE (c : Nat → Int) (s : Sg) : List Val := evL 1 (bdA c s) (s.pd.take (bdN c s))
def bdO (c : Nat → Int) (s : Sg) : List As := (bdR c s).1.map fun p => ⟨p.1, p.2, s.ep + 1⟩
def bdS (c : Nat → Int) (s : Sg) : Sg :=
 { s with V := stepL (c 6) (bdE c s) (s.mg.take (stepN c s.mg)), F := (bdR c s).2.1, W := (bdR c s).2.2.1, cy := balOf (bdR c s), pd := s.pd.drop (bdN c s), mg := s.mg.drop (stepN c s.mg) }
def nxS (c : Nat → Int) (s : Sg) : Sg :=
 if (s.bk + 1) % c 13 = 0 then bdS c { s with bk := s.bk + 1, ep := s.ep + 1 } else { s with bk := s.bk + 1 }
def nxO (c : Nat → Int) (s : Sg) : List As := if (s.bk + 1) % c 13 = 0 then bdO c { s with bk := s.bk + 1, ep := s.ep + 1 } else []
def goN (L : List Bool) (s : Nat) (v p : Int) : Nat → Nat → Nat
 | 0, k => k
 | f + 1, k => if v ≤ (k : Int) ∨ L.length ≤ k ∨ p ≤ ((paidN L s k).length : Int) then k else goN L s v p f (k + 1)
def stopN (L : List Bool) (s : Nat) (v p : Int) : Nat := goN L s v p L.length 0
def fullV (e : Int) (v : Val) : Int × Val := runE [ripeE e, passE 5] { v with bal := v.bal - v.bal }
def fullX (e : Int) (v : Val) : Int := if (fullV e v).1 = 0 then v.bal else 0
def fullL (e : Int) : List Val → List Nat → List Val
 | V, [] => V
 | V, i :: q => fullL e (V.set i (fullV e (V.getD i val0)).2) q
def fullP (e : Int) : List Val → List Nat → List Pm
 | _, [] => []
 | V, i :: q => ⟨i, fullX e (V.getD i val0), true⟩ :: fullP e (V.set i (fullV e (V.getD i val0)).2) q
def rdL (V : List Val) : List Bool := V.map fun v => decide (v.st = 5)
def sumP : List Pm → Int
 | [] => 0
 | p :: q => p.am + sumP q
def tkN (c : Nat → Int) (s : Sg) : Nat := stepN_17 c s.pt
def tkV (c : Nat → Int) (s : Sg) : List Val := stepL_17 (c 5) s.V (s.pt.take (tkN c s))
def pmOf (l : List Py) : List Pm := l.map fun p => ⟨p.ix, p.am, p.fu⟩
def tkP (c : Nat → Int) (s : Sg) : List Pm := pmOf (stepP (c 5) s.V (s.pt.take (tkN c s)))
def tkM (c : Nat → Int) (s : Sg) : Nat := stopN (rdL (tkV c s)) s.cu (c 14 - (tkN c s : Nat)) (c 15 - ((tkP c s).length : Nat))
def tkI (c : Nat → Int) (s : Sg) : List Nat := paidN (rdL (tkV c s)) s.cu (tkM c s)
def tkF (c : Nat → Int) (s : Sg) : List Pm := tkP c s ++ fullP s.ep (tkV c s) (tkI c s)
def tkS (c : Nat → Int) (s : Sg) : Sg :=
 { s with V := fullL s.ep (tkV c s) (tkI c s), P := s.P + sumP (tkF c s), pt := s.pt.drop (tkN c s), cu := posN (tkV c s).length s.cu (tkM c s) }
def tkO (c : Nat → Int) (s : Sg) : Rp × Sg :=
 (⟨7, 0, -1, (nxS c s).bk, (nxS c s).ep, -1, nxO c s, tkF c (nxS c s), (tkN c (nxS c s) : Nat) + (tkM c (nxS c s) : Nat)⟩, tkS c (nxS c s))
def opO (c : Nat → Int) (s : Sg) (o : Oq) : Rp × Sg :=
 if o.kd = 1 then depO c s o else if o.kd = 2 then exO c s o 1 else if o.kd = 3 then exO c s o 0 else if o.kd = 4 then slO c s o
 else if o.kd = 5 then cnO c s o else if o.kd = 6 then paO c s o else if o.kd = 7 then tkO c s else (rejS s o.kd 11, s)
end
section
open Go Go.RowKit
structure Vok (e : Int) (v : Val) : Prop where
 fit : FitsV v
 lo : v.st = 1 ∨ v.st = 2 → v.ex = -1 ∧ v.sl = false
 s3 : v.st = 3 → v.ex = -1 ∨ (v.ex = e + 1 ∧ e + 1 < v.wd)
 s4 : v.st = 4 → e < v.wd
 s5 : v.st = 5 → v.wd ≤ e
 w : v.wd ≤ 1099511627776
def Has (V : List Val) (p : Val → Prop) (i : Int) : Prop := ∃ (m : Nat) (u : Val), i = (m : Int) ∧ V[m]? = some u ∧ p u
def isPd (u : Val) : Prop := u.st = 1
def isQd (u : Val) : Prop := u.st = 3 ∧ u.ex = -1
theorem Has.set {V : List Val} {n : Nat} {v v' : Val} {p : Val → Prop} {i : Int} (hv : V[n]? = some v) (h : p v → p v') (hx : Has V p i) : Has (V.set n v') p i := by
 obtain ⟨m, u, e, hu, hp⟩ := hx
 have hm := (List.getElem?_eq_some_iff.1 hv).1
 by_cases hmn : n = m
 ·subst hmn
  rw [hv] at hu
  obtain rfl := Option.some.inj hu
  exact ⟨n, v', e, by rw [List.getElem?_set_self hm], h hp⟩
 ·exact ⟨m, u, e, by rw [List.getElem?_set_ne hmn]; exact hu, hp⟩
theorem Has.set_ne {V : List Val} {n : Nat} {v' : Val} {p : Val → Prop} {i : Int} (hi : i ≠ (n : Int)) (hx : Has V p i) : Has (V.set n v') p i := by
 obtain ⟨m, u, e, hu, hp⟩ := hx
 exact ⟨m, u, e, by rw [List.getElem?_set_ne (by omega)]; exact hu, hp⟩
theorem Has.append {V W : List Val} {p : Val → Prop} {i : Int} (hx : Has V p i) : Has (V ++ W) p i := by
 obtain ⟨m, u, e, hu, hp⟩ := hx
 exact ⟨m, u, e, by rw [List.getElem?_append_left (List.getElem?_eq_some_iff.1 hu).1]; exact hu, hp⟩
theorem Has.lt {V : List Val} {p : Val → Prop} {i : Int} (hx : Has V p i) : 0 ≤ i ∧ i < (V.length : Int) := by
 obtain ⟨m, u, e, hu, hp⟩ := hx
 have := (List.getElem?_eq_some_iff.1 hu).1
 omega
theorem Has.map {V : List Val} {f : Val → Val} {p : Val → Prop} {i : Int} (h : ∀ v, p v → p (f v)) (hx : Has V p i) : Has (V.map f) p i := by
 obtain ⟨m, u, e, hu, hp⟩ := hx
 exact ⟨m, f u, e, by rw [List.getElem?_map, hu]; rfl, h u hp⟩
theorem atV_some {V : List Val} {i : Int} (h : outB V i = false) : ∃ n : Nat, i = (n : Int) ∧ V[n]? = some (atV V i) := by
 unfold outB at h
 simp at h
 refine ⟨i.toNat, by omega, ?_⟩
 unfold atV
 rw [List.getD_eq_getElem?_getD, List.getElem?_eq_getElem (by omega)]
 rfl
theorem atV_of {V : List Val} {n : Nat} {v : Val} (h : V[n]? = some v) : atV V (n : Int) = v := by unfold atV; rw [List.getD_eq_getElem?_getD, Int.toNat_natCast, h]; rfl
theorem all_set {V : List Val} {n : Nat} {v : Val} {p : Val → Prop} (h : ∀ x ∈ V, p x) (hv : p v) : ∀ x ∈ V.set n v, p x := fun x hx => by
 rcases List.mem_or_eq_of_mem_set hx with hx | rfl
 ·exact h x hx
 ·exact hv
theorem mem_at {V : List Val} {n : Nat} {v : Val} (h : V[n]? = some v) : v ∈ V := List.mem_of_getElem? h
theorem wf_u64 {x : Int} (h0 : 0 ≤ x) (h1 : x ≤ 18446744073709551615) : (Lit.int .u64 x).wf = true := by
 simp [Lit.wf, IntKind.min, IntKind.max, IntKind.signed, IntKind.bits]; omega
theorem wf_i64e {x : Int} (h0 : -9223372036854775808 ≤ x) (h1 : x ≤ 9223372036854775807) : (Lit.int .i64 x).wf = true := by
 simp [Lit.wf, IntKind.min, IntKind.max, IntKind.signed, IntKind.bits]; omega
variable {e : Int} {v : Val} {c : Nat → Int}
theorem new_ok {x : Int} (h0 : 0 ≤ x) (h1 : x ≤ 18446744073709551615) : Vok e (newV x) :=
 ⟨⟨wf_u64 h0 h1, rfl⟩, fun _ => ⟨rfl, rfl⟩, fun h => absurd h (by simp [newV]), fun h => absurd h (by simp [newV]), fun h => absurd h (by simp [newV]), by show (-1 : Int) ≤ _; omega⟩
theorem refN_two {s : Int} (h : refN s 2 ≠ 0) : s = 2 ∧ refN s 2 = 3 := by
 unfold refN at h ⊢
 repeat' split at h
 all_goals first | omega | (exact absurd rfl h)
theorem refN_seven {s : Int} (h : refN s 7 ≠ 0) : (s = 2 ∨ s = 3) ∧ refN s 7 = 3 ∨ (s = 4 ∨ s = 5) ∧ refN s 7 = 4 := by
 unfold refN at h ⊢
 rw [if_pos rfl] at h ⊢
 by_cases h1 : s = 2 ∨ s = 3
 ·exact .inl ⟨h1, if_pos h1⟩
 ·by_cases h2 : s = 4 ∨ s = 5
  ·exact .inr ⟨h2, by rw [if_neg h1, if_pos h2]⟩
  ·rw [if_neg h1, if_neg h2] at h; exact absurd rfl h
theorem acc_is (h : (runE [requestE e, passE 2] v).1 = 0) : v.st = 2 ∧ (runE [requestE e, passE 2] v).2 = { v with rq := e, st := 3 } := by
 by_cases h1 : inE e
 ·by_cases h2 : refN v.st 2 = 0
  ·rw [acc_bad h1 h2] at h; simp at h
  ·rw [acc_ok h1 h2]
   obtain ⟨h3, h4⟩ := refN_two h2
   exact ⟨h3, by rw [h4]⟩
 ·rw [acc_out h1] at h; simp at h
theorem acc_vok (h : Vok e v) (h0 : (runE [requestE e, passE 2] v).1 = 0) (d : Int) : Vok e { (runE [requestE e, passE 2] v).2 with dl := d } := by
 obtain ⟨h1, h2⟩ := acc_is h0
 rw [h2]
 exact ⟨⟨h.fit.1, rfl⟩, fun h => absurd h (by simp), fun _ => .inl (h.lo (.inr h1)).1, fun h => absurd h (by simp), fun h => absurd h (by simp), h.w⟩
theorem slash_is (h : (slR v e c).1 = 0) : v.sl = false ∧ ((v.st = 2 ∨ v.st = 3) ∧ (slR v e c).2.st = 3 ∨ (v.st = 4 ∨ v.st = 5) ∧ (slR v e c).2.st = 4) ∧
  (slR v e c).2.ex = v.ex ∧ (slR v e c).2.wd = max v.wd (e + c 11) ∧ (slR v e c).2.bal = v.bal - penQ v c := by
 unfold slR at h ⊢
 rw [show slashL v e (c 11) = slashL { v with bal := v.bal - penQ v c } e (c 11) from rfl] at h ⊢
 by_cases h1 : v.sl = true
 ·rw [sl_yes (v := { v with bal := v.bal - penQ v c }) h1] at h; simp at h
 ·have h1 : v.sl = false := by simpa using h1
  by_cases h2 : refN v.st 7 = 0
  ·rw [sl_bad (v := { v with bal := v.bal - penQ v c }) h1 h2] at h; simp at h
  ·by_cases h3 : lOk e (c 11)
   ·rw [sl_ok (v := { v with bal := v.bal - penQ v c }) h1 h2 h3]
    exact ⟨h1, refN_seven h2, rfl, rfl, rfl⟩
   ·rw [sl_out (v := { v with bal := v.bal - penQ v c }) h1 h2 h3] at h; simp at h
theorem slash_lok (h : (slR v e c).1 = 0) : lOk e (c 11) := by
 unfold slR at h
 rw [show slashL v e (c 11) = slashL { v with bal := v.bal - penQ v c } e (c 11) from rfl] at h
 by_cases h1 : v.sl = true
 ·rw [sl_yes (v := { v with bal := v.bal - penQ v c }) h1] at h; simp at h
 ·have h1 : v.sl = false := by simpa using h1
  by_cases h2 : refN v.st 7 = 0
  ·rw [sl_bad (v := { v with bal := v.bal - penQ v c }) h1 h2] at h; simp at h
  ·by_cases h3 : lOk e (c 11)
   ·exact h3
   ·rw [sl_out (v := { v with bal := v.bal - penQ v c }) h1 h2 h3] at h; simp at h
theorem slash_vok (h : Vok e v) (h0 : (slR v e c).1 = 0) (hc : 0 < c 11) : Vok e (slR v e c).2 := by
 obtain ⟨h1, h2, h3, h4, h5⟩ := slash_is h0
 refine ⟨slash_fits h.fit h0, fun h => by rcases h2 with h2 | h2 <;> omega, fun h6 => ?_, fun h6 => by rw [h4]; omega, fun h6 => by rcases h2 with h2 | h2 <;> omega, by have := (slash_lok h0).2; have := h.w; rw [h4]; omega⟩
 rcases h2 with ⟨h2 | h2, h7⟩ | h2
 ·exact .inl (h3.trans (h.lo (.inr h2)).1)
 ·rw [h3, h4]
  rcases h.s3 h2 with h8 | h8
  ·exact .inl h8
  ·exact .inr ⟨h8.1, by omega⟩
 ·omega
theorem leave_vok (h : Vok e v) (he : 0 ≤ e) : Vok (e + 1) (ripenV (e + 1) (leaveV (e + 1) v)) ∧ ((ripenV (e + 1) (leaveV (e + 1) v)).st = 3 → (ripenV (e + 1) (leaveV (e + 1) v)).ex = -1) ∧ (ripenV (e + 1) (leaveV (e + 1) v)).bal = v.bal := by
 obtain ⟨hf, h2, h3, h4, h5, h6⟩ := h
 unfold leaveV
 by_cases c1 : v.st = 3 ∧ v.ex = e + 1
 ·rw [if_pos c1]
  unfold ripenV
  have hw : e + 1 < v.wd := by
   rcases h3 c1.1 with h | h
   ·omega
   ·exact h.2
  rw [if_neg (by simp only; omega)]
  exact ⟨⟨⟨hf.1, rfl⟩, fun h => absurd h (by simp), fun h => absurd h (by simp), fun _ => hw, fun h => absurd h (by simp), h6⟩, fun h => absurd h (by simp), rfl⟩
 ·rw [if_neg c1]
  unfold ripenV
  by_cases c2 : v.st = 4 ∧ v.wd ≤ e + 1
  ·rw [if_pos c2]
   exact ⟨⟨⟨hf.1, rfl⟩, fun h => absurd h (by simp), fun h => absurd h (by simp), fun h => absurd h (by simp), fun _ => c2.2, h6⟩, fun h => absurd h (by simp), rfl⟩
  ·rw [if_neg c2]
   refine ⟨⟨hf, h2, fun h => .inl ?_, fun h => by omega, fun h => by have := h5 h; omega, h6⟩, fun h => ?_, rfl⟩
   all_goals
    rcases h3 h with k | k
    ·exact k
    ·exact absurd ⟨h, k.1⟩ c1
theorem leave_keep {p : Int} : (isPd v → isPd (ripenV p (leaveV p v))) ∧ (0 ≤ p → isQd v → isQd (ripenV p (leaveV p v))) := by
 refine ⟨fun h => ?_, fun h0 h => ?_⟩
 ·unfold isPd at *
  unfold leaveV
  rw [if_neg (by omega)]
  unfold ripenV
  rw [if_neg (by omega)]
  exact h
 ·unfold isQd at *
  unfold leaveV
  rw [if_neg (by omega)]
  unfold ripenV
  rw [if_neg (by omega)]
  exact h
theorem asg_vok (h : Vok e v) (hq : isQd v) (hl : lOk (e + 1) (c 10)) (hc : 0 < c 10) : (runE [scheduleE (e + 1), holdE (e + 1) (c 10)] v).1 = 0 ∧ Vok e (runE [scheduleE (e + 1), holdE (e + 1) (c 10)] v).2 ∧
  (runE [scheduleE (e + 1), holdE (e + 1) (c 10)] v).2 = { v with ex := e + 1, wd := max v.wd (e + 1 + c 10) } := by
 rw [asg_ok hq hl]
 exact ⟨rfl, ⟨h.fit, fun k => by have := hq.1; simp only at k; omega, fun _ => .inr ⟨rfl, by simp only; omega⟩, fun k => by have := hq.1; simp only at k; omega, fun k => by have := hq.1; simp only at k; omega, by have := hl.2; have := h.w; simp only; omega⟩, rfl⟩
theorem ev_one (h : Vok e v) (hp : isPd v) : evV 1 v = { v with st := 2 } ∧ Vok e (evV 1 v) := by
 have e1 : evV 1 v = { v with st := 2 } := by unfold evV; rw [show v.st = 1 from hp]; rfl
 rw [e1]
 exact ⟨rfl, ⟨h.fit.1, rfl⟩, fun _ => h.lo (.inl hp), fun k => absurd k (by simp), fun k => absurd k (by simp), fun k => absurd k (by simp), h.w⟩
theorem full_is (h5 : v.st = 5) (hw : v.wd ≤ e) : fullV e v = (0, { v with bal := 0, st := 6 }) ∧ fullX e v = v.bal := by
 have h1 : fullV e v = (0, { v with bal := 0, st := 6 }) := by
  unfold fullV
  rw [pay_ok (v := { v with bal := v.bal - v.bal }) h5 hw, Int.sub_self]
 exact ⟨h1, by unfold fullX; rw [h1]; rfl⟩
theorem full_vok (hw : v.wd ≤ 1099511627776) : Vok e { v with bal := 0, st := 6 } :=
 ⟨⟨wf_u64 (by simp) (by simp), rfl⟩, fun k => absurd k (by simp), fun k => absurd k (by simp), fun k => absurd k (by simp), fun k => absurd k (by simp), hw⟩
end
section
open Go Go.RowKit
structure VGo (e : Int) (V W : List Val) : Prop where
 len : W.length = V.length
 vok : ∀ v ∈ W, Vok e v
 pd : ∀ i, Has V isPd i → Has W isPd i
 qd : ∀ i, Has V isQd i → Has W isQd i
theorem VGo.refl {e : Int} {V : List Val} (h : ∀ v ∈ V, Vok e v) : VGo e V V := ⟨rfl, h, fun _ h => h, fun _ h => h⟩
theorem VGo.trans {e : Int} {U V W : List Val} (h : VGo e U V) (k : VGo e V W) : VGo e U W :=
 ⟨k.len.trans h.len, k.vok, fun i hi => k.pd i (h.pd i hi), fun i hi => k.qd i (h.qd i hi)⟩
theorem mem_get {V : List Val} {v : Val} (h : v ∈ V) : ∃ n : Nat, V[n]? = some v := List.getElem?_of_mem h
theorem total_map {V : List Val} {f : Val → Val} (h : ∀ v ∈ V, (f v).bal = v.bal) : totalOf (V.map f) = totalOf V := by
 induction V with
 | nil => rfl
 | cons v V ih =>
  simp only [List.map_cons, totalOf]
  rw [h v (by simp), ih (fun x hx => h x (by simp [hx]))]
section
variable {e : Int} {V : List Val} {c : Nat → Int}
theorem bdV_eq (e : Int) (V : List Val) : (V.map (leaveV e)).map (ripenV e) = V.map fun v => ripenV e (leaveV e v) := by rw [List.map_map]; rfl
theorem bd_goes (h : ∀ v ∈ V, Vok e v) (he : 0 ≤ e) : VGo (e + 1) V ((V.map (leaveV (e + 1))).map (ripenV (e + 1))) ∧ totalOf ((V.map (leaveV (e + 1))).map (ripenV (e + 1))) = totalOf V ∧
  ∀ v ∈ (V.map (leaveV (e + 1))).map (ripenV (e + 1)), v.st = 3 → v.ex = -1 := by
 rw [bdV_eq]
 refine ⟨⟨by simp, fun v hv => ?_, fun i hi => hi.map fun v => leave_keep.1, fun i hi => hi.map fun v => leave_keep.2 (by omega)⟩, total_map fun v hv => (leave_vok (h v hv) he).2.2, fun v hv => ?_⟩
 ·obtain ⟨u, hu, rfl⟩ := List.mem_map.1 hv
  exact (leave_vok (h u hu) he).1
 ·obtain ⟨u, hu, rfl⟩ := List.mem_map.1 hv
  exact (leave_vok (h u hu) he).2.1
theorem total_bals (V : List Val) : totalOf V = (bals V).sum := by
 induction V with
 | nil => rfl
 | cons v V ih => simp only [totalOf, ih, bals, List.map_cons, List.sum_cons]
theorem bals_set {V : List Val} {n : Nat} {v v' : Val} (hv : V[n]? = some v) (h : v'.bal = v.bal) : bals (V.set n v') = bals V := by
 apply List.ext_getElem?
 intro i
 unfold bals
 rw [List.getElem?_map, List.getElem?_map]
 by_cases hi : n = i
 ·subst hi
  rw [List.getElem?_set_self (List.getElem?_eq_some_iff.1 hv).1, hv]
  simp [h]
 ·rw [List.getElem?_set_ne hi]
theorem asg_goes (hl : lOk (e + 1) (c 10)) (hc : 0 < c 10) : ∀ (q : List (Int × Int)) (V : List Val), (∀ v ∈ V, Vok e v) → (q.map (·.1)).Nodup → (∀ p ∈ q, Has V isQd p.1) →
  (asgV c (e + 1) V q).length = V.length ∧ (∀ v ∈ asgV c (e + 1) V q, Vok e v) ∧ bals (asgV c (e + 1) V q) = bals V ∧ (∀ i, Has V isPd i → Has (asgV c (e + 1) V q) isPd i) ∧
  (∀ i, i ∉ q.map (·.1) → Has V isQd i → Has (asgV c (e + 1) V q) isQd i)
 | [], V, h, _, _ => ⟨rfl, h, rfl, fun _ h => h, fun _ _ h => h⟩
 | p :: q, V, h, hn, hq => by
  obtain ⟨n, v, hpn, hv, hqd⟩ := hq p (by simp)
  have ha : atV V p.1 = v := by rw [hpn]; exact atV_of hv
  rw [List.map_cons, List.nodup_cons] at hn
  obtain ⟨k0, k1, k2⟩ := asg_vok (h v (mem_at hv)) hqd hl hc
  have e1 : p.1.toNat = n := by omega
  unfold asgV
  rw [ha, e1]
  have hb : bals (V.set n (runE [scheduleE (e + 1), holdE (e + 1) (c 10)] v).2) = bals V := bals_set hv (by rw [k2])
  have hnp : ¬ isPd v := fun h => by have := hqd.1; unfold isPd at h; omega
  obtain ⟨i1, i2, i3, i4, i5⟩ := asg_goes hl hc q (V.set n (runE [scheduleE (e + 1), holdE (e + 1) (c 10)] v).2) (all_set h k1) hn.2 (fun p' hp' => (hq p' (by simp [hp'])).set_ne (fun he => hn.1 (by
   rw [hpn, ← he]
   exact List.mem_map_of_mem hp')))
  refine ⟨i1.trans (by simp), i2, i3.trans hb, fun i hi => i4 i (hi.set hv fun h => absurd h hnp), fun i hni hi => ?_⟩
  rw [List.map_cons, List.mem_cons] at hni
  exact i5 i (fun h => hni (.inr h)) (hi.set_ne (fun h => hni (.inl (h.trans hpn.symm))))
theorem ev_goes : ∀ (q : List Int) (V : List Val), (∀ v ∈ V, Vok e v) → q.Nodup → (∀ i ∈ q, Has V isPd i) →
  (evL 1 V q).length = V.length ∧ (∀ v ∈ evL 1 V q, Vok e v) ∧ bals (evL 1 V q) = bals V ∧ (∀ i, Has V isQd i → Has (evL 1 V q) isQd i) ∧ (∀ i, i ∉ q → Has V isPd i → Has (evL 1 V q) isPd i)
 | [], V, h, _, _ => ⟨rfl, h, rfl, fun _ h => h, fun _ _ h => h⟩
 | x :: q, V, h, hn, hq => by
  obtain ⟨n, v, hpn, hv, hpd⟩ := hq x (by simp)
  have ha : atV V x = v := by rw [hpn]; exact atV_of hv
  rw [List.nodup_cons] at hn
  obtain ⟨k1, k2⟩ := ev_one (h v (mem_at hv)) hpd
  have e1 : x.toNat = n := by omega
  unfold evL
  rw [ha, e1]
  have hb : bals (V.set n (evV 1 v)) = bals V := bals_set hv (by rw [k1])
  have hnq : ¬ isQd v := fun h => by have := h.1; unfold isPd at hpd; omega
  obtain ⟨i1, i2, i3, i4, i5⟩ := ev_goes q (V.set n (evV 1 v)) (all_set h k2) hn.2 (fun i hi => (hq i (by simp [hi])).set_ne (fun he => hn.1 (by rw [hpn, ← he]; exact hi)))
  refine ⟨i1.trans (by simp), i2, i3.trans hb, fun i hi => i4 i (hi.set hv fun h => absurd h hnq), fun i hni hi => ?_⟩
  rw [List.mem_cons] at hni
  exact i5 i (fun h => hni (.inr h)) (hi.set_ne (fun h => hni (.inl (h.trans hpn.symm))))
theorem mg_goes (mb : Int) (q : List (Int × Int)) (h : ∀ v ∈ V, Vok e v) : VGo e V (stepL mb V q) ∧ totalOf (stepL mb V q) = totalOf V := by
 refine ⟨?_, (stepL_sums mb q V).1⟩
 refine stepL_ind mb (I := fun W => VGo e V W) ?_ q V (VGo.refl h)
 intro l i j s d hl hne hi hj hc
 obtain ⟨hs2, hd2, _, _, _, _⟩ := chk_ok hc
 obtain ⟨f1, f2⟩ := fits_mv (hl.vok s (mem_at hi)).fit (hl.vok d (mem_at hj)).fit hc
 have kd := hl.vok d (mem_at hj)
 have hj' : (l.set i (mvS s))[j]? = some d := by rw [List.getElem?_set_ne hne]; exact hj
 refine hl.trans ⟨by simp, all_set (all_set hl.vok ⟨f1, ?_, ?_, ?_, ?_, ?_⟩) ⟨f2, kd.lo, kd.s3, kd.s4, kd.s5, kd.w⟩, fun x hx => ?_, fun x hx => ?_⟩
 ·simp only [mvS]; omega
 ·simp only [mvS]; omega
 ·simp only [mvS]; omega
 ·simp only [mvS]; omega
 ·exact (hl.vok s (mem_at hi)).w
 ·exact (hx.set hi (fun h => by unfold isPd at h; omega)).set hj' (fun h => by unfold isPd at h; omega)
 ·exact (hx.set hi (fun h => by have := h.1; omega)).set hj' (fun h => by have := h.1; omega)
end
section
variable {e : Int} {V : List Val} {mb : Int}
def sumY : List Py → Int
 | [] => 0
 | p :: q => p.am + sumY q
theorem sumY_append (a b : List Py) : sumY (a ++ b) = sumY a + sumY b := by
 induction a with
 | nil => simp [sumY]
 | cons p a ih => simp only [List.cons_append, sumY, ih]; omega
theorem sumY_rec (i x : Int) : sumY (recP i x) = x := by
 unfold recP
 split
 ·rename_i h; simp [sumY, h]
 ·simp [sumY]
theorem pay_total {l : List Val} (r : Rq) (mb : Int) : totalOf (payL l r mb) = totalOf l - payX l r mb := by
 by_cases h : inB_17 r l.length = true
 ·obtain ⟨i, v, hi, hv⟩ := in_at h
  obtain ⟨_, h2, h3⟩ := pay_at mb hi hv
  rw [h2, h3, total_set hv]
  simp only [appV]
  omega
 ·unfold payL payX
  rw [if_neg h, if_neg h]
  omega
theorem step_total (mb : Int) : ∀ (q : List Rq) (l : List Val), totalOf (stepL_17 mb l q) = totalOf l - sumY (stepP mb l q)
 | [], l => by simp [stepL_17, stepP, sumY]
 | r :: q, l => by
  unfold stepL_17 stepP
  rw [step_total mb q, pay_total, sumY_append, sumY_rec]
  omega
theorem pt_goes (hm : 0 ≤ mb) (q : List Rq) (hq : ∀ r ∈ q, FitsRq r) (h : ∀ v ∈ V, Vok e v) : VGo e V (stepL_17 mb V q) := by
 have hf : ∀ v ∈ V, FitsV v := fun v hv => (h v hv).fit
 obtain ⟨h1, _⟩ := step_all mb hm q V hq hf
 have hlen := stepL_len_17 mb q V
 have back : ∀ (n : Nat) (v' : Val), (stepL_17 mb V q)[n]? = some v' → ∃ (v : Val) (x : Int), V[n]? = some v ∧ v' = { v with bal := v.bal - x } := fun n v' hv' => by
  have hn := (List.getElem?_eq_some_iff.1 hv').1
  obtain ⟨u, hu, hp, _⟩ := h1 n V[n] (List.getElem?_eq_getElem (by omega))
  rw [hv'] at hu
  obtain rfl := Option.some.inj hu
  exact ⟨_, _, List.getElem?_eq_getElem (by omega), hp⟩
 have forth : ∀ (p : Val → Prop), (∀ v x, p v → p { v with bal := v.bal - x }) → ∀ i, Has V p i → Has (stepL_17 mb V q) p i := fun p hp i ⟨n, v, hi, hv, hpv⟩ => by
  obtain ⟨u, hu, hp2, _⟩ := h1 n v hv
  exact ⟨n, u, hi, hu, by rw [hp2]; exact hp v _ hpv⟩
 refine ⟨hlen, fun v' hv' => ?_, forth isPd fun v x h => h, forth isQd fun v x h => h⟩
 obtain ⟨n, hn⟩ := mem_get hv'
 obtain ⟨v, x, hv, rfl⟩ := back n v' hn
 have k := h v (mem_at hv)
 exact ⟨stepL_fits_17 mb hm q V hq hf _ hv', k.lo, k.s3, k.s4, k.s5, k.w⟩
def isRipe (e : Int) (v : Val) : Prop := v.st = 5 ∧ v.wd ≤ e
theorem full_goes : ∀ (q : List Nat) (V : List Val), (∀ v ∈ V, Vok e v) → q.Nodup → (∀ i ∈ q, Has V (isRipe e) (i : Nat)) →
  VGo e V (fullL e V q) ∧ totalOf (fullL e V q) = totalOf V - sumP (fullP e V q) ∧ (∀ p ∈ fullP e V q, 0 ≤ p.am ∧ p.fl = true)
 | [], V, h, _, _ => ⟨VGo.refl h, by simp [fullL, fullP, sumP], fun p hp => by simp [fullP] at hp⟩
 | x :: q, V, h, hn, hq => by
  obtain ⟨n, v, hpn, hv, hr⟩ := hq x (by simp)
  obtain rfl : x = n := by omega
  rw [List.nodup_cons] at hn
  have ha : V.getD x val0 = v := getD_of hv
  obtain ⟨f1, f2⟩ := full_is hr.1 hr.2
  unfold fullL fullP
  rw [ha, f1, f2]
  have hb := (h v (mem_at hv)).fit.bal
  obtain ⟨i1, i2, i3⟩ := full_goes q (V.set x { v with bal := 0, st := 6 }) (all_set h (full_vok (h v (mem_at hv)).w)) hn.2 (fun i hi => (hq i (by simp [hi])).set_ne (fun he => hn.1 (by
   obtain rfl : i = x := by omega
   exact hi)))
  refine ⟨VGo.trans ⟨by simp, all_set h (full_vok (h v (mem_at hv)).w), fun i hi => hi.set hv fun k => ?_, fun i hi => hi.set hv fun k => ?_⟩ i1, ?_, fun p hp => ?_⟩
  ·have := hr.1; unfold isPd at k; omega
  ·have := hr.1; have := k.1; omega
  ·rw [i2, total_set hv]
   simp only [sumP]
   omega
  ·rcases List.mem_cons.1 hp with rfl | hp
   ·exact ⟨hb.1, rfl⟩
   ·exact i3 p hp
end
end
section
open Go Go.RowKit
structure GE (c : Nat → Int) : Prop where
 g : Good c
 gc : GoodC c
 q0 : 1 ≤ c 1
 q1 : c 1 ≤ 4096
 a2 : 1 ≤ c 2
 a23 : c 2 ≤ c 3
 a3 : c 3 ≤ c 4
 a4 : c 4 ≤ 1152921504606846976
 m5 : 1 ≤ c 5
 q8 : 1 ≤ c 8
 m17 : 0 ≤ c 17
 r0 : 1 ≤ c 12
 r1 : c 12 ≤ 4096
theorem ge_of_chk {c : Nat → Int} (hf : Fits c) (h : chk c = 0) : GE c := by
 have g := good_of_chk hf h
 have gc := goodC_of_chk hf h
 rcases chk_cases c with ⟨_, hb⟩ | ⟨k, _, _, _, e⟩
 ·have h1 := btw_spec (hb 1 (by omega))
  have h2 : decide (1 ≤ c 2) = true := hb 2 (by omega)
  have h3 : decide (c 2 ≤ c 3) = true := hb 3 (by omega)
  have h4 := btw_spec (hb 4 (by omega))
  have h5 := btw_spec (hb 5 (by omega))
  have h8 : decide (1 ≤ c 8) = true := hb 8 (by omega)
  have h12 := btw_spec (hb 12 (by omega))
  have h17 := btw_spec (hb 17 (by omega))
  simp at h2 h3 h8
  unfold most at h4
  exact ⟨g, gc, h1.1, h1.2, h2, h3, h4.1, h4.2, h5.1, h8, h17.1, h12.1, h12.2⟩
 ·omega
structure Inv (c : Nat → Int) (k : Nat) (s : Sg) : Prop where
 len : (s.V.length : Int) ≤ c 0
 vok : ∀ v ∈ s.V, Vok s.ep v
 sum : totalOf s.V + s.P + s.B = s.D
 p0 : 0 ≤ s.P
 b0 : 0 ≤ s.B
 d1 : s.D ≤ 18446744073709551615
 cap : s.D - s.P - s.B ≤ c 4
 pdl : (s.pd.length : Int) ≤ c 1
 fl : (s.F.length : Int) ≤ c 1
 wl : (s.W.length : Int) ≤ c 1
 mgl : (s.mg.length : Int) ≤ c 1
 ptl : (s.pt.length : Int) ≤ c 1
 pdx : ∀ i ∈ s.pd, Has s.V isPd i
 pdn : s.pd.Nodup
 lnx : ∀ i ∈ s.F ++ s.W, Has s.V isQd i
 lnn : (s.F ++ s.W).Nodup
 ptf : ∀ r ∈ s.pt, FitsRq r
 cu : s.cu ≤ s.V.length
 cy0 : 0 ≤ s.cy
 cy1 : s.cy ≤ 18446744073709551615
 bk0 : 0 ≤ s.bk
 bk1 : s.bk ≤ k
 ep0 : 0 ≤ s.ep
 ep1 : s.ep ≤ s.bk
 epq : s.ep = s.bk / c 13
theorem inv0 {c : Nat → Int} (hc : GE c) : Inv c 0 sg0 := by
 have := hc.g.cap0
 have := hc.q0
 have := hc.a2
 have := hc.a23
 have := hc.a3
 refine ⟨?_, ?_, rfl, ?_, ?_, ?_, ?_, ?_, ?_, ?_, ?_, ?_, ?_, ?_, ?_, ?_, ?_, ?_, ?_, ?_, ?_, ?_, ?_, ?_, ?_⟩
 all_goals first | (simp [sg0]; done) | (simp [sg0]; omega)
section
variable {c : Nat → Int} {k : Nat} {s : Sg}
theorem Inv.fits (h : Inv c k s) : ∀ v ∈ s.V, FitsV v := fun v hv => (h.vok v hv).fit
theorem Inv.total (h : Inv c k s) (hc : GE c) : 0 ≤ totalOf s.V ∧ totalOf s.V ≤ c 4 ∧ totalOf s.V ≤ 1152921504606846976 := by
 have := total_nonneg h.fits
 have := h.sum
 have := h.cap
 have := hc.a4
 omega
theorem Inv.next (h : Inv c k s) : Inv c (k + 1) s := { h with bk1 := by have := h.bk1; omega }
theorem nodup_snoc {l : List Int} {x : Int} (h : l.Nodup) (hx : x ∉ l) : (l ++ [x]).Nodup := by
 rw [List.nodup_append]
 exact ⟨h, by simp, fun a ha b hb => by rw [List.mem_singleton] at hb; subst hb; exact fun e => hx (e ▸ ha)⟩
theorem dep_inv (hc : GE c) (h : Inv c k s) {x : Int} (h0 : depC c s x = 0) : Inv c (k + 1) (depS s x) := by
 unfold depC at h0
 by_cases c1 : x < c 2 ∨ c 3 < x
 ·rw [if_pos c1] at h0; simp at h0
 rw [if_neg c1] at h0
 by_cases c2 : c 0 ≤ (s.V.length : Int)
 ·rw [if_pos c2] at h0; simp at h0
 rw [if_neg c2] at h0
 by_cases c3 : c 1 ≤ (s.pd.length : Int)
 ·rw [if_pos c3] at h0; simp at h0
 rw [if_neg c3] at h0
 by_cases c4 : c 4 - (s.D - s.P - s.B) < x
 ·rw [if_pos c4] at h0; simp at h0
 rw [if_neg c4] at h0
 by_cases c5 : 18446744073709551615 < s.D + x
 ·rw [if_pos c5] at h0; simp at h0
 have a2 := hc.a2
 have a3 := hc.a3
 have a4 := hc.a4
 have hlast : Has (s.V ++ [newV x]) isPd (s.V.length : Int) := ⟨s.V.length, newV x, rfl, by simp, rfl⟩
 refine { h with len := ?_, vok := ?_, sum := ?_, d1 := ?_, cap := ?_, pdl := ?_, pdx := ?_, pdn := ?_, lnx := ?_, cu := ?_, bk1 := ?_ }
 ·simp only [depS, List.length_append, List.length_singleton]; omega
 ·intro v hv
  simp only [depS, List.mem_append, List.mem_singleton] at hv
  rcases hv with hv | rfl
  ·exact h.vok v hv
  ·exact new_ok (by omega) (by omega)
 ·simp only [depS]
  rw [total_append]
  have := h.sum
  simp only [totalOf, newV]
  omega
 ·simp only [depS]; omega
 ·simp only [depS]; omega
 ·simp only [depS, List.length_append, List.length_singleton]; omega
 ·intro i hi
  simp only [depS, List.mem_append, List.mem_singleton] at hi ⊢
  rcases hi with hi | rfl
  ·exact (h.pdx i hi).append
  ·exact hlast
 ·exact nodup_snoc h.pdn fun hm => by have := (h.pdx _ hm).lt; omega
 ·exact fun i hi => (h.lnx i hi).append
 ·simp only [depS, List.length_append, List.length_singleton]; have := h.cu; omega
 ·have := h.bk1; simp only [depS]; omega
theorem ex_code {i cl : Int} (h0 : exC c s i cl = 0) : outB s.V i = false ∧ (accV s (atV s.V i)).1 = 0 ∧ ((laneL s.F s.W cl).length : Int) < c 1 ∧ ∃ d, dueE c s cl (atV s.V i) = some d := by
 unfold exC at h0
 by_cases c1 : outB s.V i = true
 ·rw [if_pos c1] at h0; simp at h0
 rw [if_neg c1] at h0
 by_cases c2 : (accV s (atV s.V i)).1 ≠ 0
 ·rw [if_pos c2] at h0; exact absurd h0 c2
 rw [if_neg c2] at h0
 by_cases c3 : c 1 ≤ ((laneL s.F s.W cl).length : Int)
 ·rw [if_pos c3] at h0; simp at h0
 rw [if_neg c3] at h0
 by_cases c4 : dueE c s cl (atV s.V i) = none
 ·rw [if_pos c4] at h0; simp at h0
 exact ⟨by simpa using c1, by simpa using c2, by omega, Option.ne_none_iff_exists'.1 c4⟩
theorem nodup_mid {F W : List Int} {x : Int} (h : (F ++ W).Nodup) (hx : x ∉ F ++ W) : (F ++ [x] ++ W).Nodup := by
 rw [List.append_assoc, List.singleton_append]
 exact List.perm_middle.nodup_iff.2 (List.nodup_cons.2 ⟨hx, h⟩)
theorem ex_inv (hc : GE c) (h : Inv c k s) {i cl : Int} (hcl : cl = 0 ∨ cl = 1) (h0 : exC c s i cl = 0) : Inv c (k + 1) (exS c s i cl) := by
 obtain ⟨c1, c2, c3, _⟩ := ex_code h0
 obtain ⟨n, hin, hv⟩ := atV_some c1
 have q0 := hc.q0
 generalize hy : atV s.V i = v at *
 obtain ⟨hst, hac⟩ := acc_is (e := s.ep) (v := v) c2
 have hok := acc_vok (h.vok v (mem_at hv)) c2 (exD c s i cl)
 have e1 : i.toNat = n := by omega
 have hni : i ∉ s.F ++ s.W := fun hm => by
  obtain ⟨m, u, e, hu, hq⟩ := h.lnx i hm
  obtain rfl : n = m := by omega
  rw [hv] at hu
  obtain rfl := Option.some.inj hu
  have := hq.1
  omega
 have hV : (exS c s i cl).V = s.V.set n { (runE [requestE s.ep, passE 2] v).2 with dl := exD c s i cl } := by
  simp only [exS, e1, hy]
  rfl
 have hme : Has (exS c s i cl).V isQd i := ⟨n, _, hin, by rw [hV, List.getElem?_set_self (List.getElem?_eq_some_iff.1 hv).1], by rw [hac]; exact ⟨rfl, ((h.vok v (mem_at hv)).lo (.inr hst)).1⟩⟩
 have hold : ∀ j ∈ s.F ++ s.W, Has (exS c s i cl).V isQd j := fun j hj => by
  rw [hV]
  exact (h.lnx j hj).set hv fun hq => by have := hq.1; omega
 have hFW : ((exS c s i cl).F = s.F ++ [i] ∧ (exS c s i cl).W = s.W ∧ (s.F.length : Int) < c 1) ∨ ((exS c s i cl).F = s.F ∧ (exS c s i cl).W = s.W ++ [i] ∧ (s.W.length : Int) < c 1) := by
  rcases hcl with rfl | rfl
  ·have : s.F.length < (c 1).toNat := by simp only [laneL, if_true] at c3; omega
   exact .inl ⟨by simp [exS, pushF, this], by simp [exS, pushV], by omega⟩
  ·have : s.W.length < (c 1).toNat := by simp [laneL] at c3; omega
   exact .inr ⟨by simp [exS, pushF], by simp [exS, pushV, this], by omega⟩
 refine ⟨?_, ?_, ?_, h.p0, h.b0, h.d1, h.cap, h.pdl, ?_, ?_, h.mgl, h.ptl, ?_, h.pdn, ?_, ?_, h.ptf, ?_, h.cy0, h.cy1, h.bk0, ?_, h.ep0, h.ep1, h.epq⟩
 ·rw [hV, List.length_set]; exact h.len
 ·rw [hV]; exact all_set h.vok hok
 ·rw [hV, total_set hv, hac]
  have := h.sum
  simp only [exS]
  omega
 ·rcases hFW with ⟨e2, e3, h4⟩ | ⟨e2, e3, h4⟩
  ·rw [e2, List.length_append, List.length_singleton]; omega
  ·rw [e2]; exact h.fl
 ·rcases hFW with ⟨e2, e3, h4⟩ | ⟨e2, e3, h4⟩
  ·rw [e3]; exact h.wl
  ·rw [e3, List.length_append, List.length_singleton]; omega
 ·intro j hj
  rw [hV]
  exact (h.pdx j hj).set hv fun hq => by unfold isPd at hq; omega
 ·intro j hj
  by_cases hji : j = i
  ·subst hji; exact hme
  ·refine hold j ?_
   rcases hFW with ⟨e2, e3, h4⟩ | ⟨e2, e3, h4⟩
   ·rw [e2, e3] at hj
    simp only [List.mem_append, List.mem_singleton] at hj ⊢
    rcases hj with (hj | hj) | hj
    ·exact .inl hj
    ·exact absurd hj hji
    ·exact .inr hj
   ·rw [e2, e3] at hj
    simp only [List.mem_append, List.mem_singleton] at hj ⊢
    rcases hj with hj | hj | hj
    ·exact .inl hj
    ·exact .inr hj
    ·exact absurd hj hji
 ·rcases hFW with ⟨e2, e3, h4⟩ | ⟨e2, e3, h4⟩
  ·rw [e2, e3]; exact nodup_mid h.lnn hni
  ·rw [e2, e3, ← List.append_assoc]; exact nodup_snoc h.lnn hni
 ·rw [hV, List.length_set]; exact h.cu
 ·have := h.bk1; simp only [exS]; omega
theorem sl_code {i : Int} (h0 : slC c s i = 0) : outB s.V i = false ∧ (slR (atV s.V i) s.ep c).1 = 0 ∧ ((atV s.V i).st = 2 → (s.F.length : Int) < c 1) := by
 unfold slC at h0
 by_cases c1 : outB s.V i = true
 ·rw [if_pos c1] at h0; simp at h0
 rw [if_neg c1] at h0
 by_cases c2 : (slR (atV s.V i) s.ep c).1 ≠ 0
 ·rw [if_pos c2] at h0; exact absurd h0 c2
 rw [if_neg c2] at h0
 by_cases c3 : (atV s.V i).st = 2 ∧ c 1 ≤ (s.F.length : Int)
 ·rw [if_pos c3] at h0; simp at h0
 exact ⟨by simpa using c1, by simpa using c2, fun h => by omega⟩
theorem sl_inv (hc : GE c) (h : Inv c k s) {i : Int} (h0 : slC c s i = 0) : Inv c (k + 1) (slS c s i) := by
 obtain ⟨c1, c2, c3⟩ := sl_code h0
 obtain ⟨n, hin, hv⟩ := atV_some c1
 generalize hy : atV s.V i = v at *
 have s11 := hc.g.sla0
 have s10 := hc.g.unb0
 obtain ⟨hsl, hst, hex, hwd, hba⟩ := slash_is c2
 have hok := slash_vok (h.vok v (mem_at hv)) c2 (by omega)
 have e1 : i.toNat = n := by omega
 obtain ⟨p0, p1⟩ := pen_bound c (h.vok v (mem_at hv)).fit
 have hN : slN v s.ep c = penQ v c := by unfold slN; rw [if_pos c2]
 have hV : (slS c s i).V = s.V.set n (slR v s.ep c).2 := by simp only [slS, e1, hy]
 have hB : (slS c s i).B = s.B + penQ v c := by simp only [slS, hy, hN]
 have hF : (slS c s i).F = if v.st = 2 then s.F ++ [i] else s.F := by simp only [slS, hy]
 have hold : ∀ j ∈ s.F ++ s.W, Has (slS c s i).V isQd j := fun j hj => by
  rw [hV]
  refine (h.lnx j hj).set hv fun hq => ⟨?_, hex.trans hq.2⟩
  have := hq.1
  rcases hst with ⟨_, h1⟩ | ⟨h1, _⟩
  ·exact h1
  ·omega
 refine ⟨?_, ?_, ?_, h.p0, ?_, h.d1, ?_, h.pdl, ?_, h.wl, h.mgl, h.ptl, ?_, h.pdn, ?_, ?_, h.ptf, ?_, h.cy0, h.cy1, h.bk0, ?_, h.ep0, h.ep1, h.epq⟩
 ·rw [hV, List.length_set]; exact h.len
 ·rw [hV]; exact all_set h.vok hok
 ·rw [hV, total_set hv, hB, hba]
  have := h.sum
  simp only [slS]
  omega
 ·rw [hB]; have := h.b0; omega
 ·rw [hB]; have := h.cap; simp only [slS]; omega
 ·rw [hF]
  split
  ·rename_i h2; have := c3 h2; rw [List.length_append, List.length_singleton]; omega
  ·exact h.fl
 ·intro j hj
  rw [hV]
  exact (h.pdx j hj).set hv fun hq => by unfold isPd at hq; omega
 ·intro j hj
  by_cases h2 : v.st = 2
  ·rw [hF, if_pos h2] at hj
   by_cases hji : j = i
   ·subst hji
    refine ⟨n, _, hin, by rw [hV, List.getElem?_set_self (List.getElem?_eq_some_iff.1 hv).1], ?_, hex.trans ((h.vok v (mem_at hv)).lo (.inr h2)).1⟩
    rcases hst with ⟨_, h1⟩ | ⟨h1, _⟩
    ·exact h1
    ·omega
   ·refine hold j ?_
    simp only [slS, List.mem_append, List.mem_singleton] at hj ⊢
    rcases hj with (hj | hj) | hj
    ·exact .inl hj
    ·exact absurd hj hji
    ·exact .inr hj
  ·rw [hF, if_neg h2] at hj
   exact hold j hj
 ·by_cases h2 : v.st = 2
  ·rw [hF, if_pos h2]
   refine nodup_mid h.lnn fun hm => ?_
   obtain ⟨m, u, e, hu, hq⟩ := h.lnx i hm
   obtain rfl : n = m := by omega
   rw [hv] at hu
   obtain rfl := Option.some.inj hu
   have := hq.1
   omega
  ·rw [hF, if_neg h2]; exact h.lnn
 ·rw [hV, List.length_set]; exact h.cu
 ·have := h.bk1; simp only [slS]; omega
theorem cn_inv (h : Inv c k s) {p : Int × Int} (h0 : cnC c s p = 0) : Inv c (k + 1) { s with mg := s.mg ++ [p] } := by
 unfold cnC at h0
 by_cases c1 : reqM s.V p (c 6) ≠ 0
 ·rw [if_pos c1] at h0; exact absurd h0 c1
 rw [if_neg c1] at h0
 by_cases c2 : c 1 ≤ (s.mg.length : Int)
 ·rw [if_pos c2] at h0; simp at h0
 exact { h with mgl := by simp only [List.length_append, List.length_singleton]; omega, bk1 := by have := h.bk1; simp only; omega }
theorem pa_inv (h : Inv c k s) {r : Rq} (hr : FitsRq r) (h0 : paC c s r = 0) : Inv c (k + 1) { s with pt := s.pt ++ [r] } := by
 unfold paC at h0
 by_cases c1 : chkP s.V r ≠ 0
 ·rw [if_pos c1] at h0; exact absurd h0 c1
 rw [if_neg c1] at h0
 by_cases c2 : c 1 ≤ (s.pt.length : Int)
 ·rw [if_pos c2] at h0; simp at h0
 have hp : ∀ x ∈ s.pt ++ [r], FitsRq x := fun x hx => by
  simp only [List.mem_append, List.mem_singleton] at hx
  rcases hx with hx | rfl
  ·exact h.ptf x hx
  ·exact hr
 exact { h with ptl := by simp only [List.length_append, List.length_singleton]; omega, ptf := hp, bk1 := by have := h.bk1; simp only; omega }
end
end
section
open Go Go.RowKit
theorem asg_perm (om : Int → Int) (F W : List Int) (B : Int) : ((asg om F W B).1.map (·.1) ++ ((asg om F W B).2.1 ++ (asg om F W B).2.2.1)).Perm (F ++ W) := by
 refine asg_ind (P := fun F W B r => (r.1.map (·.1) ++ (r.2.1 ++ r.2.2.1)).Perm (F ++ W)) (fun B => .refl _) (fun F W B _ _ => .refl _) (fun F W B r hb hx ih => ?_) _ F W B rfl
 rw [List.map_cons, List.cons_append]
 match F, W, hb with
 | x :: F, W, _ => exact ih.cons x
 | [], x :: W, _ => exact ih.cons x
theorem asg_pre (om : Int → Int) (F W : List Int) (B : Int) : (asg om F W B).2.1.length ≤ F.length ∧ (asg om F W B).2.2.1.length ≤ W.length :=
 asg_ind (P := fun F W B r => r.2.1.length ≤ F.length ∧ r.2.2.1.length ≤ W.length) (fun B => ⟨Nat.le_refl _, Nat.le_refl _⟩) (fun F W B _ _ => ⟨Nat.le_refl _, Nat.le_refl _⟩) (fun F W B r hb hx ih => ⟨Nat.le_trans ih.1 (pop_le F W).1, Nat.le_trans ih.2 (pop_le F W).2⟩) _ F W B rfl
theorem go_stop (L : List Bool) (s : Nat) (v p : Int) : ∀ (f k : Nat), L.length ≤ k + f → (∀ j, j < k → (j : Int) < v ∧ j < L.length ∧ ((paidN L s j).length : Int) < p) → Stop L s v p (goN L s v p f k)
 | 0, k, hf, h => ⟨.inr (.inl (show L.length ≤ k by omega)), h⟩
 | f + 1, k, hf, h => by
  unfold goN
  by_cases hc : v ≤ (k : Int) ∨ L.length ≤ k ∨ p ≤ ((paidN L s k).length : Int)
  ·rw [if_pos hc]; exact ⟨hc, h⟩
  ·rw [if_neg hc]
   refine go_stop L s v p f (k + 1) (by omega) fun j hj => ?_
   rcases Nat.lt_or_ge j k with hjk | hjk
   ·exact h j hjk
   ·obtain rfl : j = k := by omega
    omega
theorem stop_is (L : List Bool) (s : Nat) (v p : Int) : Stop L s v p (stopN L s v p) := go_stop L s v p L.length 0 (by omega) (fun j hj => by omega)
section
variable {c : Nat → Int} {k : Nat} {s : Sg}
theorem has_get {V : List Val} {p : Val → Prop} {n : Nat} {v : Val} (hv : V[n]? = some v) (h : p v) : Has V p (n : Int) := ⟨n, v, rfl, hv, h⟩
def upS (s : Sg) : Sg := { s with bk := s.bk + 1, ep := s.ep + 1 }
theorem bd_sum (hc : GE c) (h : Inv c k s) : 0 ≤ activeOf (bdV (upS s)) ∧ activeOf (bdV (upS s)) ≤ 18446744073709551615 ∧ totalOf (bdV (upS s)) = totalOf s.V ∧ (bdV (upS s)).length = s.V.length ∧ (∀ v ∈ bdV (upS s), FitsV v) := by
 obtain ⟨g1, g2, _⟩ := bd_goes h.vok h.ep0
 have e : bdV (upS s) = (s.V.map (leaveV (s.ep + 1))).map (ripenV (s.ep + 1)) := rfl
 rw [e]
 have hf : ∀ v ∈ (s.V.map (leaveV (s.ep + 1))).map (ripenV (s.ep + 1)), FitsV v := fun v hv => (g1.vok v hv).fit
 obtain ⟨a1, a2⟩ := active_le hf
 have := h.total hc
 exact ⟨a1, by omega, g2, g1.len, hf⟩
theorem wV_nonneg {V : List Val} (h : ∀ v ∈ V, FitsV v) (i : Int) : 0 ≤ wV V i := by
 unfold wV wOf
 split
 ·rw [List.getD_eq_getElem?_getD]
  cases hx : (bals V)[i.toNat]? with
  | none => simp
  | some x =>
   have hm := List.mem_of_getElem? hx
   unfold bals at hm
   obtain ⟨v, hv, rfl⟩ := List.mem_map.1 hm
   exact (h v hv).bal.1
 ·exact Int.le_refl _
theorem bdX_nonneg (hc : GE c) : 1 ≤ bdX c s := by
 have := hc.g.chu0
 unfold bdX churnQ
 split
 ·exact this
 ·split <;> omega
theorem gr_le {B x : Int} (h0 : 0 ≤ B) (h1 : B ≤ 18446744073709551615) (hx : 0 ≤ x) : 0 ≤ gr B x ∧ gr B x ≤ 18446744073709551615 := by
 unfold gr
 split <;> omega
theorem epq_up {b L : Int} (h : 1 ≤ L) : (b + 1) / L = b / L + if (b + 1) % L = 0 then 1 else 0 := by
 have h1 := Int.emod_add_mul_ediv b L
 have h2 := Int.emod_add_mul_ediv (b + 1) L
 have h3 := Int.emod_nonneg b (show L ≠ 0 by omega)
 have h4 := Int.emod_lt_of_pos b (show 0 < L by omega)
 have h5 := Int.emod_nonneg (b + 1) (show L ≠ 0 by omega)
 have h6 := Int.emod_lt_of_pos (b + 1) (show 0 < L by omega)
 have hd : L * ((b + 1) / L - b / L) = b % L + 1 - (b + 1) % L := by rw [Int.mul_sub]; omega
 have e : (b + 1) / L = b / L + ((b + 1) / L - b / L) := by omega
 rw [e]
 congr 1
 generalize (b + 1) / L - b / L = d at hd
 have lo : ∀ x, d ≤ x → L * d ≤ L * x := fun x hx => Int.mul_le_mul_of_nonneg_left hx (by omega)
 have hi : ∀ x, x ≤ d → L * x ≤ L * d := fun x hx => Int.mul_le_mul_of_nonneg_left hx (by omega)
 split
 ·have a1 : ¬ d ≤ 0 := fun h => by have := lo 0 h; rw [Int.mul_zero] at this; omega
  have a2 : ¬ 2 ≤ d := fun h => by have := hi 2 h; omega
  omega
 ·have a1 : ¬ d ≤ -1 := fun h => by have := lo (-1) h; omega
  have a2 : ¬ 1 ≤ d := fun h => by have := hi 1 h; omega
  omega
theorem bd_inv (hc : GE c) (h : Inv c k s) (hk : k ≤ 1000000) (hb0 : (s.bk + 1) % c 13 = 0) : Inv c (k + 1) (bdS c (upS s)) := by
 obtain ⟨a0, a1, a2, a3, a4⟩ := bd_sum hc h
 obtain ⟨g1, g2, g3⟩ := bd_goes h.vok h.ep0
 have bk1 := h.bk1
 have ep1 := h.ep1
 have ep0 := h.ep0
 have bk0 := h.bk0
 have u0 := hc.g.unb0
 have u1 := hc.g.unb1
 have hl : lOk (s.ep + 1 + 1) (c 10) := by unfold lOk inE; omega
 have hX : 1 ≤ bdX c (upS s) := bdX_nonneg hc
 obtain ⟨b0, b1⟩ := gr_le h.cy0 h.cy1 (show 0 ≤ bdX c (upS s) by omega)
 have hper : ((bdR c (upS s)).1.map (·.1) ++ ((bdR c (upS s)).2.1 ++ (bdR c (upS s)).2.2.1)).Perm (s.F ++ s.W) := asg_perm _ _ _ _
 have hnd := hper.nodup_iff.2 h.lnn
 rw [List.nodup_append] at hnd
 obtain ⟨n1, n2, n3⟩ := hnd
 have hmem : ∀ i, i ∈ (bdR c (upS s)).1.map (·.1) ∨ i ∈ (bdR c (upS s)).2.1 ++ (bdR c (upS s)).2.2.1 → Has (bdV (upS s)) isQd i := fun i hi =>
  g1.qd i (h.lnx i (hper.mem_iff.1 (List.mem_append.2 hi)))
 obtain ⟨r1, r2, r3, r4, r5⟩ := asg_goes hl (by omega) (bdR c (upS s)).1 (bdV (upS s)) g1.vok n1 (fun p hp => hmem p.1 (.inl (List.mem_map_of_mem hp)))
 have hpt : (s.pd.take (bdN c (upS s))).Nodup := h.pdn.sublist (List.take_sublist _ _)
 have hpd2 : ∀ i ∈ s.pd, Has (bdA c (upS s)) isPd i := fun i hi => r4 i (g1.pd i (h.pdx i hi))
 obtain ⟨t1, t2, t3, t4, t5⟩ := ev_goes (s.pd.take (bdN c (upS s))) (bdA c (upS s)) r2 hpt (fun i hi => hpd2 i (List.mem_of_mem_take hi))
 obtain ⟨m1, m2⟩ := mg_goes (c 6) (s.mg.take (stepN c s.mg)) t2
 have hbal : totalOf (bdE c (upS s)) = totalOf s.V := by
  rw [total_bals, show bdE c (upS s) = evL 1 (bdA c (upS s)) (s.pd.take (bdN c (upS s))) from rfl, t3, show bdA c (upS s) = asgV c (s.ep + 1 + 1) (bdV (upS s)) (bdR c (upS s)).1 from rfl, r3, ← total_bals, a2]
 have hlen : (bdS c (upS s)).V.length = s.V.length := (m1.len.trans t1).trans (r1.trans a3)
 have hlens := asg_len (wV (bdV (upS s))) s.F s.W (gr s.cy (bdX c (upS s)))
 refine ⟨?_, m1.vok, ?_, h.p0, h.b0, h.d1, h.cap, ?_, ?_, ?_, ?_, h.ptl, ?_, ?_, ?_, n2, h.ptf, ?_, ?_, ?_, ?_, ?_, ?_, ?_, ?_⟩
 ·rw [hlen]; exact h.len
 ·have e : totalOf (bdS c (upS s)).V = totalOf s.V := m2.trans hbal
  rw [e]; exact h.sum
 ·have := h.pdl
  show ((s.pd.drop (bdN c (upS s))).length : Int) ≤ c 1
  rw [List.length_drop]; omega
 ·have hp := asg_pre (wV (bdV (upS s))) s.F s.W (gr s.cy (bdX c (upS s)))
  have := h.fl
  show ((asg (wV (bdV (upS s))) s.F s.W (gr s.cy (bdX c (upS s)))).2.1.length : Int) ≤ c 1
  omega
 ·have hp := asg_pre (wV (bdV (upS s))) s.F s.W (gr s.cy (bdX c (upS s)))
  have := h.wl
  show ((asg (wV (bdV (upS s))) s.F s.W (gr s.cy (bdX c (upS s)))).2.2.1.length : Int) ≤ c 1
  omega
 ·have := h.mgl
  show ((s.mg.drop (stepN c s.mg)).length : Int) ≤ c 1
  rw [List.length_drop]; omega
 ·intro i hi
  have hi : i ∈ s.pd.drop (bdN c (upS s)) := hi
  refine m1.pd i (t5 i (fun hm => ?_) (hpd2 i (List.mem_of_mem_drop hi)))
  have hn := h.pdn
  rw [← List.take_append_drop (bdN c (upS s)) s.pd, List.nodup_append] at hn
  exact hn.2.2 i hm i hi rfl
 ·exact h.pdn.sublist (List.drop_sublist _ _)
 ·intro i hi
  exact m1.qd i (t4 i (r5 i (fun hm => n3 i hm i hi rfl) (hmem i (.inr hi))))
 ·rw [hlen]; exact h.cu
 ·show 0 ≤ balOf (bdR c (upS s))
  unfold balOf
  split
  ·exact asg_fits _ _ _ _ b0
  ·exact Int.le_refl _
 ·show balOf (bdR c (upS s)) ≤ 18446744073709551615
  unfold balOf
  split
  ·have e1 := asg_sum (wV (bdV (upS s))) s.F s.W (gr s.cy (bdX c (upS s)))
   have e2 := sumW_nonneg (wV_nonneg a4) (asg (wV (bdV (upS s))) s.F s.W (gr s.cy (bdX c (upS s)))).1
   show (asg (wV (bdV (upS s))) s.F s.W (gr s.cy (bdX c (upS s)))).2.2.2 ≤ _
   omega
  ·decide
 ·show 0 ≤ s.bk + 1
  omega
 ·show s.bk + 1 ≤ ((k + 1 : Nat) : Int)
  omega
 ·show 0 ≤ s.ep + 1
  omega
 ·show s.ep + 1 ≤ s.bk + 1
  omega
 ·show s.ep + 1 = (s.bk + 1) / c 13
  rw [epq_up hc.g.len0, if_pos hb0, h.epq]
theorem nx_inv (hc : GE c) (h : Inv c k s) (hk : k ≤ 1000000) : Inv c (k + 1) (nxS c s) := by
 unfold nxS
 split
 ·rename_i hb; exact bd_inv hc h hk hb
 ·rename_i hb
  have := h.bk0
  have := h.bk1
  have := h.ep1
  exact { h with bk0 := by simp only; omega, bk1 := by simp only; omega, ep1 := by simp only; omega, epq := by simp only; rw [epq_up hc.g.len0, if_neg hb, h.epq]; omega }
theorem sumP_append (a b : List Pm) : sumP (a ++ b) = sumP a + sumP b := by
 induction a with
 | nil => simp [sumP]
 | cons p a ih => simp only [List.cons_append, sumP, ih]; omega
theorem sumP_of (l : List Py) : sumP (pmOf l) = sumY l := by
 induction l with
 | nil => rfl
 | cons p l ih => simp only [pmOf, List.map_cons, sumP, sumY] at *; rw [ih]
theorem rd_at {V : List Val} {i : Nat} (h : (rdL V).getD i false = true) : ∃ v, V[i]? = some v ∧ v.st = 5 := by
 unfold rdL at h
 rw [List.getD_eq_getElem?_getD, List.getElem?_map] at h
 cases hx : V[i]? with
 | none => rw [hx] at h; simp at h
 | some v => rw [hx] at h; exact ⟨v, rfl, by simpa using h⟩
theorem tk_ripe (hc : GE c) (h : Inv c k s) : VGo s.ep s.V (tkV c s) ∧ (tkI c s).Nodup ∧ ∀ i ∈ tkI c s, Has (tkV c s) (isRipe s.ep) ((i : Nat) : Int) := by
 have hm : 0 ≤ c 5 := by have := hc.m5; omega
 have g := pt_goes (V := s.V) hm (s.pt.take (tkN c s)) (fun r hr => h.ptf r (List.mem_of_mem_take hr)) h.vok
 have hst := stop_is (rdL (tkV c s)) s.cu (c 14 - (tkN c s : Nat)) (c 15 - ((tkP c s).length : Nat))
 refine ⟨g, paidN_nodup hst.le, fun i hi => ?_⟩
 obtain ⟨v, hv, h5⟩ := rd_at (paidN_mem hi).2
 exact has_get hv ⟨h5, (g.vok v (mem_at hv)).s5 h5⟩
theorem tk_inv (hc : GE c) (h : Inv c k s) : Inv c k (tkS c s) ∧ sumP (tkF c s) = totalOf s.V - totalOf (tkS c s).V ∧ ∀ p ∈ tkF c s, 0 ≤ p.am := by
 obtain ⟨g, hn, hr⟩ := tk_ripe hc h
 obtain ⟨f1, f2, f3⟩ := full_goes (tkI c s) (tkV c s) g.vok hn hr
 have hm : 0 ≤ c 5 := by have := hc.m5; omega
 have g2 := g.trans f1
 have hs := step_total (c 5) (s.pt.take (tkN c s)) s.V
 have hF : sumP (tkF c s) = totalOf s.V - totalOf (tkS c s).V := by
  unfold tkF tkP
  rw [sumP_append, sumP_of]
  show _ = totalOf s.V - totalOf (fullL s.ep (tkV c s) (tkI c s))
  rw [f2]
  have : totalOf (tkV c s) = totalOf s.V - sumY (stepP (c 5) s.V (s.pt.take (tkN c s))) := hs
  omega
 have hpos : ∀ p ∈ tkF c s, 0 ≤ p.am := fun p hp => by
  unfold tkF at hp
  rcases List.mem_append.1 hp with hp | hp
  ·obtain ⟨_, h2⟩ := step_all (c 5) hm (s.pt.take (tkN c s)) s.V (fun r hr => h.ptf r (List.mem_of_mem_take hr)) h.fits
   unfold tkP pmOf at hp
   obtain ⟨y, hy, rfl⟩ := List.mem_map.1 hp
   have := (h2 y hy).1
   simp only
   omega
  ·exact (f3 p hp).1
 have hsum0 : 0 ≤ sumP (tkF c s) := by
  generalize tkF c s = l at hpos
  clear hF
  induction l with
  | nil => simp [sumP]
  | cons p l ih =>
   have := ih (fun q hq => hpos q (by simp [hq]))
   have := hpos p (by simp)
   simp only [sumP]
   omega
 have hst := stop_is (rdL (tkV c s)) s.cu (c 14 - (tkN c s : Nat)) (c 15 - ((tkP c s).length : Nat))
 refine ⟨⟨?_, g2.vok, ?_, ?_, h.b0, h.d1, ?_, h.pdl, h.fl, h.wl, h.mgl, ?_, fun i hi => g2.pd i (h.pdx i hi), h.pdn, fun i hi => g2.qd i (h.lnx i hi), h.lnn, fun r hr => h.ptf r (List.mem_of_mem_drop hr), ?_, h.cy0, h.cy1, h.bk0, h.bk1, h.ep0, h.ep1, h.epq⟩, hF, hpos⟩
 ·have e : (tkS c s).V.length = s.V.length := g2.len
  rw [e]; exact h.len
 ·have := h.sum
  show totalOf (tkS c s).V + (s.P + sumP (tkF c s)) + s.B = s.D
  omega
 ·have := h.p0
  show 0 ≤ s.P + sumP (tkF c s)
  omega
 ·have := h.cap
  show s.D - (s.P + sumP (tkF c s)) - s.B ≤ c 4
  omega
 ·have := h.ptl
  show ((s.pt.drop (tkN c s)).length : Int) ≤ c 1
  rw [List.length_drop]; omega
 ·have e : (tkS c s).V.length = (tkV c s).length := f1.len
  rw [e]
  show posN (tkV c s).length s.cu (tkM c s) ≤ (tkV c s).length
  have := h.cu
  have := g.len
  unfold posN
  split
  ·omega
  ·have hle : tkM c s ≤ (rdL (tkV c s)).length := hst.le
   have : (rdL (tkV c s)).length = (tkV c s).length := by simp [rdL]
   exact Nat.le_of_lt (Nat.mod_lt _ (by omega))
theorem tick_inv (hc : GE c) (h : Inv c k s) (hk : k ≤ 1000000) : Inv c (k + 1) (tkO c s).2 := (tk_inv hc (nx_inv hc h hk)).1
theorem op_inv (hc : GE c) (h : Inv c k s) (hk : k ≤ 1000000) (o : Oq) (ho : FitsOq o) : Inv c (k + 1) (opO c s o).2 := by
 unfold opO
 by_cases h1 : o.kd = 1
 ·rw [if_pos h1]; unfold depO; split
  ·rename_i h0; exact dep_inv hc h h0
  ·exact h.next
 rw [if_neg h1]
 by_cases h2 : o.kd = 2
 ·rw [if_pos h2]; unfold exO; split
  ·rename_i h0; exact ex_inv hc h (.inr rfl) h0
  ·exact h.next
 rw [if_neg h2]
 by_cases h3 : o.kd = 3
 ·rw [if_pos h3]; unfold exO; split
  ·rename_i h0; exact ex_inv hc h (.inl rfl) h0
  ·exact h.next
 rw [if_neg h3]
 by_cases h4 : o.kd = 4
 ·rw [if_pos h4]; unfold slO; split
  ·rename_i h0; exact sl_inv hc h h0
  ·exact h.next
 rw [if_neg h4]
 by_cases h5 : o.kd = 5
 ·rw [if_pos h5]; unfold cnO; split
  ·rename_i h0; exact cn_inv h h0
  ·exact h.next
 rw [if_neg h5]
 by_cases h6 : o.kd = 6
 ·rw [if_pos h6]; unfold paO; split
  ·rename_i h0; exact pa_inv h ⟨ho.2.1, ho.2.2.2⟩ h0
  ·exact h.next
 rw [if_neg h6]
 split
 ·exact tick_inv hc h hk
 ·exact h.next
end
end
section
open Go Go.RowKit
def isUb (v : Val) : Prop := v.st = 4 ∨ (v.st = 3 ∧ v.ex ≠ -1)
instance (v : Val) : Decidable (isUb v) := by unfold isUb; infer_instance
def unbN (V : List Val) : Nat := V.countP fun v => decide (isUb v)
structure RingOk (e : Int) (V : List Val) (L : List Ent) : Prop where
 nd : (L.map (·.2)).Nodup
 ub : ∀ i, i ∈ L.map (·.2) ↔ Has V isUb i
 key : ∀ p ∈ L, e < p.1
 wd : ∀ p ∈ L, ∀ (n : Nat) (v : Val), p.2 = (n : Int) → V[n]? = some v → p.1 ≤ v.wd
theorem ring0 : RingOk 0 [] [] := ⟨by simp, fun i => ⟨fun h => by simp at h, fun ⟨m, u, _, h, _⟩ => by simp at h⟩, fun p hp => by simp at hp, fun p hp => by simp at hp⟩
theorem count_take (V : List Val) : ∀ n, n ≤ V.length → ((List.range n).filter fun n => decide (isUb (V.getD n val0))).length = unbN (V.take n)
 | 0, _ => by simp [unbN]
 | n + 1, h => by
  have hv : V[n]? = some V[n] := List.getElem?_eq_getElem (by omega)
  have e1 : V.getD n val0 = V[n] := getD_of hv
  have e2 : V.take (n + 1) = V.take n ++ [V[n]] := by rw [List.take_add_one, hv]; rfl
  rw [List.range_succ, List.filter_append, List.length_append, count_take V n (by omega), e2]
  unfold unbN
  rw [List.countP_append]
  congr 1
  by_cases hb : isUb V[n]
  ·simp only [List.filter_cons, List.filter_nil, e1, hb, decide_true, if_true, List.length_singleton, List.countP_cons, List.countP_nil]
  ·simp only [List.filter_cons, List.filter_nil, e1, hb, decide_false, Bool.false_eq_true, if_false, List.length_nil, List.countP_cons, List.countP_nil]
theorem count_range (V : List Val) : ((List.range V.length).filter fun n => decide (isUb (V.getD n val0))).length = unbN V := by
 rw [count_take V V.length (Nat.le_refl _), List.take_length]
theorem RingOk.len {e : Int} {V : List Val} {L : List Ent} (h : RingOk e V L) : L.length = unbN V := by
 have hp : (L.map (·.2)).Perm (((List.range V.length).filter fun n => decide (isUb (V.getD n val0))).map fun n : Nat => (n : Int)) := by
  refine (List.perm_ext_iff_of_nodup h.nd ?_).2 fun i => ?_
  ·exact List.pairwise_map.2 ((List.nodup_range.sublist List.filter_sublist).imp fun h e => h (by omega))
  ·rw [h.ub]
   constructor
   ·rintro ⟨m, u, rfl, hu, hp⟩
    refine List.mem_map.2 ⟨m, List.mem_filter.2 ⟨List.mem_range.2 (List.getElem?_eq_some_iff.1 hu).1, ?_⟩, rfl⟩
    rw [List.getD_eq_getElem?_getD, hu]
    simpa using hp
   ·intro hi
    obtain ⟨m, hm, rfl⟩ := List.mem_map.1 hi
    obtain ⟨h1, h2⟩ := List.mem_filter.1 hm
    have h1 := List.mem_range.1 h1
    refine ⟨m, V.getD m val0, rfl, ?_, by simpa using h2⟩
    rw [List.getD_eq_getElem?_getD, List.getElem?_eq_getElem h1]
    rfl
 have := hp.length_eq
 rw [List.length_map, List.length_map, count_range] at this
 exact this
section
variable {c : Nat → Int} {k : Nat} {s : Sg} {e : Int} {V W : List Val} {L : List Ent}
theorem RingOk.keep (h : RingOk e V L) (hub : ∀ i, Has W isUb i ↔ Has V isUb i) (hwd : ∀ (n : Nat) (v : Val), W[n]? = some v → isUb v → ∃ u, V[n]? = some u ∧ u.wd ≤ v.wd) : RingOk e W L := by
 refine ⟨h.nd, fun i => (h.ub i).trans (hub i).symm, h.key, fun p hp n v hn hv => ?_⟩
 obtain ⟨m, u, hm, hu, hb⟩ := (hub p.2).2 ((h.ub p.2).1 (List.mem_map_of_mem hp))
 obtain rfl : n = m := by omega
 rw [hv] at hu
 obtain rfl := Option.some.inj hu
 obtain ⟨u, hu, hle⟩ := hwd n v hv hb
 exact Int.le_trans (h.wd p hp n u hn hu) hle
theorem ub_set {n : Nat} {v v' : Val} (hv : V[n]? = some v) (h : isUb v' ↔ isUb v) (i : Int) : Has (V.set n v') isUb i ↔ Has V isUb i := by
 constructor
 ·rintro ⟨m, u, hm, hu, hb⟩
  by_cases hmn : n = m
  ·subst hmn
   rw [List.getElem?_set_self (List.getElem?_eq_some_iff.1 hv).1] at hu
   obtain rfl := Option.some.inj hu
   exact ⟨n, v, hm, hv, h.1 hb⟩
  ·rw [List.getElem?_set_ne hmn] at hu
   exact ⟨m, u, hm, hu, hb⟩
 ·exact fun hx => hx.set hv h.2
theorem RingOk.set (h : RingOk e V L) {n : Nat} {v v' : Val} (hv : V[n]? = some v) (hb : isUb v' ↔ isUb v) (hw : isUb v → v.wd ≤ v'.wd) : RingOk e (V.set n v') L := by
 refine h.keep (ub_set hv hb) fun m x hx hxb => ?_
 by_cases hmn : n = m
 ·subst hmn
  rw [List.getElem?_set_self (List.getElem?_eq_some_iff.1 hv).1] at hx
  obtain rfl := Option.some.inj hx
  exact ⟨v, hv, hw (hb.1 hxb)⟩
 ·rw [List.getElem?_set_ne hmn] at hx
  exact ⟨x, hx, Int.le_refl _⟩
theorem RingOk.more (h : RingOk e V L) {n : Nat} {v v' : Val} (hv : V[n]? = some v) (h0 : ¬ isUb v) (h1 : isUb v') {t : Int} (ht : e < t) (hw : t ≤ v'.wd) : RingOk e (V.set n v') (L ++ [(t, (n : Int))]) := by
 have hn : (n : Int) ∉ L.map (·.2) := fun hm => by
  obtain ⟨m, u, hm, hu, hb⟩ := (h.ub _).1 hm
  obtain rfl : n = m := by omega
  rw [hv] at hu
  obtain rfl := Option.some.inj hu
  exact h0 hb
 have hlt := (List.getElem?_eq_some_iff.1 hv).1
 refine ⟨by rw [List.map_append]; exact nodup_snoc h.nd hn, fun i => ?_, fun p hp => ?_, fun p hp m x hm hx => ?_⟩
 ·rw [List.map_append, List.mem_append, h.ub]
  constructor
  ·rintro (hi | hi)
   ·exact hi.set hv fun hb => absurd hb h0
   ·obtain rfl : i = (n : Int) := by simpa using hi
    exact ⟨n, v', rfl, List.getElem?_set_self hlt, h1⟩
  ·rintro ⟨m, u, hm, hu, hb⟩
   by_cases hmn : n = m
   ·right; subst hmn; simp [hm]
   ·rw [List.getElem?_set_ne hmn] at hu
    exact .inl ⟨m, u, hm, hu, hb⟩
 ·rcases List.mem_append.1 hp with hp | hp
  ·exact h.key p hp
  ·obtain rfl : p = (t, (n : Int)) := by simpa using hp
   exact ht
 ·rcases List.mem_append.1 hp with hp | hp
  ·by_cases hmn : n = m
   ·subst hmn
    exact absurd (hm ▸ List.mem_map_of_mem hp) hn
   ·rw [List.getElem?_set_ne hmn] at hx
    exact h.wd p hp m x hm hx
  ·obtain rfl : p = (t, (n : Int)) := by simpa using hp
   obtain rfl : n = m := by have : (n : Int) = m := hm; omega
   rw [List.getElem?_set_self hlt] at hx
   obtain rfl := Option.some.inj hx
   exact hw
theorem ring_dep (h : RingOk e V L) (x : Int) : RingOk e (V ++ [newV x]) L := by
  have hnb : ¬ isUb (newV x) := by simp [isUb, newV]
  refine h.keep (fun i => ⟨fun ⟨m, u, hm, hu, hb⟩ => ?_, fun hx => hx.append⟩) fun n v hv hb => ?_
  all_goals
    first
    | (rcases Nat.lt_or_ge m V.length with hl | hl
       · rw [List.getElem?_append_left hl] at hu; exact ⟨m, u, hm, hu, hb⟩
       · rw [List.getElem?_append_right hl] at hu
         obtain ⟨_, hq⟩ := List.getElem?_eq_some_iff.1 hu
         simp at hq
         exact absurd (hq ▸ hb) hnb)
    | (rcases Nat.lt_or_ge n V.length with hl | hl
       · rw [List.getElem?_append_left hl] at hv; exact ⟨v, hv, Int.le_refl _⟩
       · rw [List.getElem?_append_right hl] at hv
         obtain ⟨_, hq⟩ := List.getElem?_eq_some_iff.1 hv
         simp at hq
         exact absurd (hq ▸ hb) hnb)
theorem ring_ex (hc : GE c) (h : Inv c k s) {i cl : Int} (h0 : exC c s i cl = 0) (hr : RingOk s.ep s.V L) : RingOk s.ep (exS c s i cl).V L := by
 obtain ⟨c1, c2, c3, _⟩ := ex_code h0
 obtain ⟨n, hin, hv⟩ := atV_some c1
 have e1 : i.toNat = n := by omega
 show RingOk s.ep (s.V.set i.toNat { (accV s (atV s.V i)).2 with dl := exD c s i cl }) L
 generalize hy : atV s.V i = v at *
 obtain ⟨hst, hac⟩ := acc_is (e := s.ep) (v := v) c2
 rw [e1, show (accV s v).2 = (runE [requestE s.ep, passE 2] v).2 from rfl, hac]
 have hx := ((h.vok v (mem_at hv)).lo (.inr hst)).1
 refine hr.set hv ?_ fun hb => Int.le_refl _
 simp only [isUb]
 omega
def slL (c : Nat → Int) (s : Sg) (i : Int) : List Ent := if (atV s.V i).st = 5 then [((slR (atV s.V i) s.ep c).2.wd, i)] else []
theorem ring_sl (hc : GE c) (h : Inv c k s) {i : Int} (h0 : slC c s i = 0) (hr : RingOk s.ep s.V L) : RingOk s.ep (slS c s i).V (L ++ slL c s i) := by
 obtain ⟨c1, c2, c3⟩ := sl_code h0
 obtain ⟨n, hin, hv⟩ := atV_some c1
 have e1 : i.toNat = n := by omega
 have s11 := hc.g.sla0
 have s10 := hc.g.unb0
 show RingOk s.ep (s.V.set i.toNat (slR (atV s.V i) s.ep c).2) (L ++ slL c s i)
 unfold slL
 generalize hy : atV s.V i = v at *
 obtain ⟨hsl, hst, hex, hwd, hba⟩ := slash_is c2
 have hlo := fun k => ((h.vok v (mem_at hv)).lo k).1
 rw [e1, hin]
 by_cases h5 : v.st = 5
 ·rw [if_pos h5]
  refine hr.more hv (by unfold isUb; omega) ?_ (by rw [hwd]; omega) (Int.le_refl _)
  unfold isUb
  omega
 ·rw [if_neg h5, List.append_nil]
  refine hr.set hv ?_ fun hb => by rw [hwd]; omega
  unfold isUb
  omega
end
end
section
open Go Go.RowKit
section
variable {c : Nat → Int} {k : Nat} {s : Sg} {e : Int} {V W : List Val} {L : List Ent}
def backL (e : Int) (V : List Val) (q : List Int) : List Ent := (q.filter fun i => decide (e < (atV V i).wd)).map fun i => ((atV V i).wd, i)
def ringB (e : Int) (V : List Val) (L : List Ent) : List Ent := stay e L ++ backL e V (goes e L)
theorem mem_goes {i : Int} : i ∈ goes e L ↔ (e, i) ∈ L := by
 unfold goes
 rw [List.mem_map]
 constructor
 ·rintro ⟨p, hp, rfl⟩
  obtain ⟨h1, h2⟩ := List.mem_filter.1 hp
  have : p.1 = e := by simpa using h2
  rw [← this]; exact h1
 ·exact fun h => ⟨(e, i), List.mem_filter.2 ⟨h, by simp⟩, rfl⟩
theorem mem_stay {p : Ent} : p ∈ stay e L ↔ p ∈ L ∧ p.1 ≠ e := by
 unfold stay
 rw [List.mem_filter]
 simp
theorem goes_nodup (h : (L.map (·.2)).Nodup) : (goes e L).Nodup := h.sublist (by unfold goes; exact List.filter_sublist.map _)
theorem one_entry (h : (L.map (·.2)).Nodup) {p q : Ent} (hp : p ∈ L) (hq : q ∈ L) (he : p.2 = q.2) : p = q := by
 induction L with
 | nil => simp at hp
 | cons x L ih =>
  rw [List.map_cons, List.nodup_cons] at h
  rcases List.mem_cons.1 hp with e1 | k1
  ·rcases List.mem_cons.1 hq with e2 | k2
   ·rw [e1, e2]
   ·have hm : x.2 ∈ L.map (·.2) := List.mem_map.2 ⟨q, k2, by rw [← he, e1]⟩
    exact absurd hm h.1
  ·rcases List.mem_cons.1 hq with e2 | k2
   ·have hm : x.2 ∈ L.map (·.2) := List.mem_map.2 ⟨p, k1, by rw [he, e2]⟩
    exact absurd hm h.1
   ·exact ih h.2 k1 k2
theorem leave_ub {v : Val} (h : Vok e v) (he : 0 ≤ e) : isUb (leaveV (e + 1) v) ↔ isUb v := by
 unfold leaveV
 by_cases c1 : v.st = 3 ∧ v.ex = e + 1
 ·rw [if_pos c1]
  exact ⟨fun _ => .inr ⟨c1.1, by omega⟩, fun _ => .inl rfl⟩
 ·rw [if_neg c1]
theorem leave_wd (e : Int) (v : Val) : (leaveV e v).wd = v.wd := by unfold leaveV; split <;> rfl
theorem leave_four {v : Val} (h : Vok e v) (hb : isUb v) (hw : v.wd ≤ e + 1) : (leaveV (e + 1) v).st = 4 := by
 have h3 := h.s3
 unfold isUb at hb
 unfold leaveV
 by_cases c1 : v.st = 3 ∧ v.ex = e + 1
 ·have := h3 c1.1; rw [if_pos c1]
 ·rw [if_neg c1]
  rcases hb with hb | hb
  ·exact hb
  ·rcases h3 hb.1 with h | h
   ·exact absurd h hb.2
   ·exact absurd ⟨hb.1, h.1⟩ c1
theorem ring_bd (h : ∀ v ∈ V, Vok e v) (he : 0 ≤ e) (hr : RingOk e V L) : RingOk (e + 1) ((V.map (leaveV (e + 1))).map (ripenV (e + 1))) (ringB (e + 1) (V.map (leaveV (e + 1))) L) := by
 have hat : ∀ (n : Nat) (v : Val), V[n]? = some v → (atV (V.map (leaveV (e + 1))) (n : Int)).wd = v.wd := fun n v hv => by
  rw [atV_of (v := leaveV (e + 1) v) (by rw [List.getElem?_map, hv]; rfl), leave_wd]
 have hend : ∀ (n : Nat) (v : Val), V[n]? = some v → ((V.map (leaveV (e + 1))).map (ripenV (e + 1)))[n]? = some (ripenV (e + 1) (leaveV (e + 1) v)) := fun n v hv => by
  rw [List.getElem?_map, List.getElem?_map, hv]; rfl
 have hub : ∀ v, Vok e v → (isUb (ripenV (e + 1) (leaveV (e + 1) v)) ↔ isUb v ∧ e + 1 < v.wd) := fun v hok => by
  have h4 := leave_four hok
  have hl := leave_ub hok he
  have hwd := leave_wd (e + 1) v
  generalize hy : leaveV (e + 1) v = y at *
  unfold ripenV
  by_cases c1 : y.st = 4 ∧ y.wd ≤ e + 1
  ·rw [if_pos c1]
   constructor
   ·intro hb; unfold isUb at hb; simp only at hb; omega
   ·intro hb; omega
  ·rw [if_neg c1, hl]
   constructor
   ·intro hb
    refine ⟨hb, ?_⟩
    rcases Int.lt_or_le (e + 1) v.wd with hlt | hge
    ·exact hlt
    ·exact absurd ⟨h4 hb hge, by rw [hwd]; exact hge⟩ c1
   ·exact fun hb => hb.1
 have hwd2 : ∀ v, (ripenV (e + 1) (leaveV (e + 1) v)).wd = v.wd := fun v => by
  rw [← leave_wd (e + 1) v]
  unfold ripenV; split <;> rfl
 have hmem : ∀ p, p ∈ ringB (e + 1) (V.map (leaveV (e + 1))) L ↔ (p ∈ L ∧ p.1 ≠ e + 1) ∨ ((e + 1, p.2) ∈ L ∧ e + 1 < (atV (V.map (leaveV (e + 1))) p.2).wd ∧ p.1 = (atV (V.map (leaveV (e + 1))) p.2).wd) := fun p => by
  unfold ringB backL
  rw [List.mem_append, mem_stay, List.mem_map]
  constructor
  ·rintro (hp | ⟨i, hi, rfl⟩)
   ·exact .inl hp
   ·obtain ⟨h1, h2⟩ := List.mem_filter.1 hi
    exact .inr ⟨mem_goes.1 h1, by simpa using h2, rfl⟩
  ·rintro (hp | ⟨h1, h2, h3⟩)
   ·exact .inl hp
   ·exact .inr ⟨p.2, List.mem_filter.2 ⟨mem_goes.2 h1, by simpa using h2⟩, Prod.ext h3.symm rfl⟩
 refine ⟨?_, fun i => ?_, fun p hp => ?_, fun p hp n y hn hy => ?_⟩
 ·unfold ringB backL
  rw [List.map_append, List.map_map, List.nodup_append]
  refine ⟨hr.nd.sublist (List.filter_sublist.map _), ?_, ?_⟩
  ·rw [show ((fun x : Ent => x.2) ∘ fun i => ((atV (V.map (leaveV (e + 1))) i).wd, i)) = id from rfl, List.map_id]
   exact (goes_nodup hr.nd).sublist List.filter_sublist
  ·intro a ha b hb hab
   subst hab
   rw [show ((fun x : Ent => x.2) ∘ fun i => ((atV (V.map (leaveV (e + 1))) i).wd, i)) = id from rfl, List.map_id] at hb
   obtain ⟨p, hp, rfl⟩ := List.mem_map.1 ha
   have h1 := mem_stay.1 hp
   have h2 := mem_goes.1 (List.mem_filter.1 hb).1
   exact h1.2 (congrArg (·.1) (one_entry hr.nd h1.1 h2 rfl))
 ·rw [List.mem_map]
  constructor
  ·rintro ⟨p, hp, rfl⟩
   have hin : p.2 ∈ L.map (·.2) := by
    rcases (hmem p).1 hp with h1 | h1
    ·exact List.mem_map_of_mem h1.1
    ·exact List.mem_map.2 ⟨_, h1.1, rfl⟩
   obtain ⟨m, u, hm, hu, hb⟩ := (hr.ub p.2).1 hin
   refine ⟨m, _, hm, hend m u hu, (hub u (h u (mem_at hu))).2 ⟨hb, ?_⟩⟩
   rcases (hmem p).1 hp with h1 | h1
   ·have := hr.key p h1.1
    have := hr.wd p h1.1 m u hm hu
    omega
   ·have := h1.2.1
    rw [hm, hat m u hu] at this
    exact this
  ·rintro ⟨m, y, rfl, hy, hb⟩
   cases hv : V[m]? with
   | none => rw [List.getElem?_map, List.getElem?_map, hv] at hy; simp at hy
   | some v =>
    rw [hend m v hv] at hy
    obtain rfl := Option.some.inj hy
    obtain ⟨b1, b2⟩ := (hub v (h v (mem_at hv))).1 hb
    obtain ⟨p, hp, hp2⟩ := List.mem_map.1 ((hr.ub (m : Int)).2 ⟨m, v, rfl, hv, b1⟩)
    by_cases hpe : p.1 = e + 1
    ·refine ⟨(v.wd, (m : Int)), (hmem _).2 (.inr ⟨?_, ?_, ?_⟩), rfl⟩
     ·have : p = (e + 1, (m : Int)) := Prod.ext hpe hp2
      rw [← this]; exact hp
     ·rw [hat m v hv]; exact b2
     ·rw [hat m v hv]
    ·exact ⟨p, (hmem p).2 (.inl ⟨hp, hpe⟩), hp2⟩
 ·rcases (hmem p).1 hp with h1 | h1
  ·have := hr.key p h1.1
   omega
  ·omega
 ·cases hv : V[n]? with
  | none => rw [List.getElem?_map, List.getElem?_map, hv] at hy; simp at hy
  | some v =>
   rw [hend n v hv] at hy
   obtain rfl := Option.some.inj hy
   rw [hwd2]
   rcases (hmem p).1 hp with h1 | h1
   ·exact hr.wd p h1.1 n v hn hv
   ·have h3 := h1.2.2
    rw [hn, hat n v hv] at h3
    omega
def asgK (c : Nat → Int) (e : Int) : List Val → List (Int × Int) → List Ent
 | _, [] => []
 | V, p :: q => ((runE [scheduleE e, holdE e (c 10)] (atV V p.1)).2.wd, p.1) :: asgK c e (V.set p.1.toNat (runE [scheduleE e, holdE e (c 10)] (atV V p.1)).2) q
theorem ring_asg (he : 0 ≤ e) (hl : lOk (e + 1) (c 10)) (hc : 0 < c 10) : ∀ (q : List (Int × Int)) (V : List Val) (L : List Ent), (∀ v ∈ V, Vok e v) → (q.map (·.1)).Nodup → (∀ p ∈ q, Has V isQd p.1) → RingOk e V L →
  RingOk e (asgV c (e + 1) V q) (L ++ asgK c (e + 1) V q)
 | [], V, L, _, _, _, hr => by simpa [asgV, asgK] using hr
 | p :: q, V, L, h, hn, hq, hr => by
  obtain ⟨n, v, hpn, hv, hqd⟩ := hq p (by simp)
  have ha : atV V p.1 = v := by rw [hpn]; exact atV_of hv
  rw [List.map_cons, List.nodup_cons] at hn
  obtain ⟨k0, k1, k2⟩ := asg_vok (h v (mem_at hv)) hqd hl hc
  have e1 : p.1.toNat = n := by omega
  unfold asgV asgK
  rw [ha, e1]
  have hm := hr.more (t := (runE [scheduleE (e + 1), holdE (e + 1) (c 10)] v).2.wd) hv (v' := (runE [scheduleE (e + 1), holdE (e + 1) (c 10)] v).2) (fun hb => by have := hqd.1; have := hqd.2; unfold isUb at hb; omega) (by
   rw [k2]; have := hqd.1; unfold isUb; simp only; omega) (by rw [k2]; simp only; omega) (Int.le_refl _)
  have ih := ring_asg he hl hc q (V.set n (runE [scheduleE (e + 1), holdE (e + 1) (c 10)] v).2) (L ++ [((runE [scheduleE (e + 1), holdE (e + 1) (c 10)] v).2.wd, (n : Int))]) (all_set h k1) hn.2 (fun p' hp' => (hq p' (by simp [hp'])).set_ne (fun he => hn.1 (by
   rw [hpn, ← he]
   exact List.mem_map_of_mem hp'))) hm
  rw [List.append_assoc, List.singleton_append] at ih
  rw [hpn]
  exact ih
theorem ring_ev : ∀ (q : List Int) (V : List Val), q.Nodup → (∀ i ∈ q, Has V isPd i) → RingOk e V L → RingOk e (evL 1 V q) L
 | [], V, _, _, hr => hr
 | x :: q, V, hn, hq, hr => by
  obtain ⟨n, v, hpn, hv, hpd⟩ := hq x (by simp)
  have ha : atV V x = v := by rw [hpn]; exact atV_of hv
  rw [List.nodup_cons] at hn
  have e1 : x.toNat = n := by omega
  unfold evL
  rw [ha, e1]
  refine ring_ev q (V.set n (evV 1 v)) hn.2 (fun i hi => (hq i (by simp [hi])).set_ne (fun he => hn.1 (by rw [hpn, ← he]; exact hi))) (hr.set hv ?_ fun _ => Int.le_refl _)
  unfold evV
  rw [show v.st = 1 from hpd]
  have : v.st = 1 := hpd
  unfold isUb
  show (refN 1 1 = 4 ∨ (refN 1 1 = 3 ∧ v.ex ≠ -1)) ↔ _
  rw [show refN 1 1 = 2 from rfl]
  omega
theorem ring_mg (mb : Int) (q : List (Int × Int)) (hr : RingOk e V L) : RingOk e (stepL mb V q) L := by
 refine stepL_ind mb (I := fun W => RingOk e W L) ?_ q V hr
 intro l i j s d hl hne hi hj hc
 obtain ⟨hs2, hd2, _, _, _, _⟩ := chk_ok hc
 have hj' : (l.set i (mvS s))[j]? = some d := by rw [List.getElem?_set_ne hne]; exact hj
 exact (hl.set (v' := mvS s) hi (by unfold isUb; simp only [mvS]; omega) fun _ => Int.le_refl _).set (v' := mvD s d) hj' Iff.rfl fun _ => Int.le_refl _
theorem ring_pt {mb : Int} (hm : 0 ≤ mb) (q : List Rq) (hq : ∀ r ∈ q, FitsRq r) (hf : ∀ v ∈ V, FitsV v) (hr : RingOk e V L) : RingOk e (stepL_17 mb V q) L := by
 obtain ⟨h1, _⟩ := step_all mb hm q V hq hf
 have hlen := stepL_len_17 mb q V
 have back : ∀ (n : Nat) (v' : Val), (stepL_17 mb V q)[n]? = some v' → ∃ (v : Val) (x : Int), V[n]? = some v ∧ v' = { v with bal := v.bal - x } := fun n v' hv' => by
  have hn := (List.getElem?_eq_some_iff.1 hv').1
  obtain ⟨u, hu, hp, _⟩ := h1 n V[n] (List.getElem?_eq_getElem (by omega))
  rw [hv'] at hu
  obtain rfl := Option.some.inj hu
  exact ⟨_, _, List.getElem?_eq_getElem (by omega), hp⟩
 refine hr.keep (fun i => ⟨fun ⟨m, u, hm, hu, hb⟩ => ?_, fun ⟨m, u, hm, hu, hb⟩ => ?_⟩) fun n v hv hb => ?_
 ·obtain ⟨v, x, hv, rfl⟩ := back m u hu
  exact ⟨m, v, hm, hv, hb⟩
 ·obtain ⟨u', hu', hp, _⟩ := h1 m u hu
  exact ⟨m, u', hm, hu', by rw [hp]; exact hb⟩
 ·obtain ⟨u, x, hu, rfl⟩ := back n v hv
  exact ⟨u, hu, Int.le_refl _⟩
theorem ring_fl : ∀ (q : List Nat) (V : List Val), q.Nodup → (∀ i ∈ q, Has V (isRipe e) (i : Nat)) → RingOk e V L → RingOk e (fullL e V q) L
 | [], V, _, _, hr => hr
 | x :: q, V, hn, hq, hr => by
  obtain ⟨n, v, hpn, hv, hp⟩ := hq x (by simp)
  obtain rfl : x = n := by omega
  rw [List.nodup_cons] at hn
  have ha : V.getD x val0 = v := getD_of hv
  obtain ⟨f1, f2⟩ := full_is hp.1 hp.2
  unfold fullL
  rw [ha, f1]
  refine ring_fl q (V.set x { v with bal := 0, st := 6 }) hn.2 (fun i hi => (hq i (by simp [hi])).set_ne (fun he => hn.1 (by
   obtain rfl : i = x := by omega
   exact hi))) (hr.set hv ?_ fun _ => Int.le_refl _)
  have := hp.1
  unfold isUb
  simp only
  omega
end
end
section
open Go Go.RowKit
section
variable {c : Nat → Int} {k : Nat} {s : Sg} {L : List Ent}
def bdL (c : Nat → Int) (s : Sg) (L : List Ent) : List Ent := ringB s.ep (s.V.map (leaveV s.ep)) L ++ asgK c (s.ep + 1) (bdV s) (bdR c s).1
def nxL (c : Nat → Int) (s : Sg) (L : List Ent) : List Ent := if (s.bk + 1) % c 13 = 0 then bdL c (upS s) L else L
def ringO (c : Nat → Int) (s : Sg) (L : List Ent) (o : Oq) : List Ent :=
 if o.kd = 7 then nxL c s L else if o.kd = 4 ∧ slC c s o.ix = 0 then L ++ slL c s o.ix else L
structure BdOk (c : Nat → Int) (s : Sg) : Prop where
 v1 : ∀ v ∈ bdV (upS s), Vok (s.ep + 1) v
 v2 : ∀ v ∈ bdA c (upS s), Vok (s.ep + 1) v
 v3 : ∀ v ∈ bdE c (upS s), Vok (s.ep + 1) v
 nd : ((bdR c (upS s)).1.map (·.1)).Nodup
 qd : ∀ p ∈ (bdR c (upS s)).1, Has (bdV (upS s)) isQd p.1
 pn : (s.pd.take (bdN c (upS s))).Nodup
 pd : ∀ i ∈ s.pd, Has (bdA c (upS s)) isPd i
 lo : lOk (s.ep + 1 + 1) (c 10)
 l1 : (bdV (upS s)).length = s.V.length
 l2 : (bdA c (upS s)).length = s.V.length
 l3 : (bdE c (upS s)).length = s.V.length
 b1 : bals (bdV (upS s)) = bals s.V
 b2 : bals (bdA c (upS s)) = bals s.V
 b3 : bals (bdE c (upS s)) = bals s.V
theorem bals_map {V : List Val} {f : Val → Val} (h : ∀ v ∈ V, (f v).bal = v.bal) : bals (V.map f) = bals V := by
 unfold bals
 rw [List.map_map]
 exact List.map_congr_left fun v hv => h v hv
theorem bd_ok (hc : GE c) (h : Inv c k s) (hk : k ≤ 1000000) : BdOk c s := by
 obtain ⟨g1, g2, g3⟩ := bd_goes h.vok h.ep0
 have bk1 := h.bk1
 have ep1 := h.ep1
 have ep0 := h.ep0
 have u0 := hc.g.unb0
 have u1 := hc.g.unb1
 have hl : lOk (s.ep + 1 + 1) (c 10) := by unfold lOk inE; omega
 have hper : ((bdR c (upS s)).1.map (·.1) ++ ((bdR c (upS s)).2.1 ++ (bdR c (upS s)).2.2.1)).Perm (s.F ++ s.W) := asg_perm _ _ _ _
 have hnd := hper.nodup_iff.2 h.lnn
 rw [List.nodup_append] at hnd
 obtain ⟨n1, n2, n3⟩ := hnd
 have hmem : ∀ p ∈ (bdR c (upS s)).1, Has (bdV (upS s)) isQd p.1 := fun p hp =>
  g1.qd p.1 (h.lnx p.1 (hper.mem_iff.1 (List.mem_append.2 (.inl (List.mem_map_of_mem hp)))))
 obtain ⟨r1, r2, r3, r4, r5⟩ := asg_goes hl (by omega) (bdR c (upS s)).1 (bdV (upS s)) g1.vok n1 hmem
 have hpt : (s.pd.take (bdN c (upS s))).Nodup := h.pdn.sublist (List.take_sublist _ _)
 have hpd2 : ∀ i ∈ s.pd, Has (bdA c (upS s)) isPd i := fun i hi => r4 i (g1.pd i (h.pdx i hi))
 obtain ⟨t1, t2, t3, t4, t5⟩ := ev_goes (s.pd.take (bdN c (upS s))) (bdA c (upS s)) r2 hpt (fun i hi => hpd2 i (List.mem_of_mem_take hi))
 have hb : bals (bdV (upS s)) = bals s.V := by
  show bals ((s.V.map (leaveV (s.ep + 1))).map (ripenV (s.ep + 1))) = _
  rw [bdV_eq]
  exact bals_map fun v hv => (leave_vok (h.vok v hv) h.ep0).2.2
 exact ⟨g1.vok, r2, t2, n1, hmem, hpt, hpd2, hl, g1.len, r1.trans g1.len, t1.trans (r1.trans g1.len), hb, r3.trans hb, t3.trans (r3.trans hb)⟩
theorem ring_bdS (hc : GE c) (h : Inv c k s) (hk : k ≤ 1000000) (hr : RingOk s.ep s.V L) : RingOk (s.ep + 1) (bdS c (upS s)).V (bdL c (upS s) L) := by
 have b := bd_ok hc h hk
 have u0 := hc.g.unb0
 have ep0 := h.ep0
 have r1 := ring_bd h.vok h.ep0 hr
 have r2 := ring_asg (by omega) b.lo (by omega) (bdR c (upS s)).1 (bdV (upS s)) _ b.v1 b.nd b.qd r1
 have r3 := ring_ev (s.pd.take (bdN c (upS s))) (bdA c (upS s)) b.pn (fun i hi => b.pd i (List.mem_of_mem_take hi)) r2
 exact ring_mg (c 6) (s.mg.take (stepN c s.mg)) r3
theorem ring_nx (hc : GE c) (h : Inv c k s) (hk : k ≤ 1000000) (hr : RingOk s.ep s.V L) : RingOk (nxS c s).ep (nxS c s).V (nxL c s L) := by
 unfold nxS nxL
 split
 ·exact ring_bdS hc h hk hr
 ·exact hr
theorem ring_tk (hc : GE c) (h : Inv c k s) (hr : RingOk s.ep s.V L) : RingOk (tkS c s).ep (tkS c s).V L := by
 obtain ⟨g, hn, hp⟩ := tk_ripe hc h
 have hm : 0 ≤ c 5 := by have := hc.m5; omega
 exact ring_fl (tkI c s) (tkV c s) hn hp (ring_pt hm (s.pt.take (tkN c s)) (fun r hr => h.ptf r (List.mem_of_mem_take hr)) h.fits hr)
theorem ring_op (hc : GE c) (h : Inv c k s) (hk : k ≤ 1000000) (hr : RingOk s.ep s.V L) (o : Oq) : RingOk (opO c s o).2.ep (opO c s o).2.V (ringO c s L o) := by
 by_cases h7 : o.kd = 7
 ·have e : opO c s o = tkO c s := by
   unfold opO
   rw [if_neg (by omega), if_neg (by omega), if_neg (by omega), if_neg (by omega), if_neg (by omega), if_neg (by omega), if_pos h7]
  rw [e]
  unfold ringO
  rw [if_pos h7]
  exact ring_tk hc (nx_inv hc h hk) (ring_nx hc h hk hr)
 ·unfold ringO
  rw [if_neg h7]
  by_cases h4 : o.kd = 4
  ·have e : opO c s o = slO c s o := by
    unfold opO
    rw [if_neg (by omega), if_neg (by omega), if_neg (by omega), if_pos h4]
   rw [e]
   unfold slO
   by_cases h0 : slC c s o.ix = 0
   ·rw [if_pos h0, if_pos ⟨h4, h0⟩]; exact ring_sl hc h h0 hr
   ·rw [if_neg h0, if_neg (fun h => h0 h.2)]; exact hr
  ·rw [if_neg (fun h => h4 h.1)]
   unfold opO
   by_cases h1 : o.kd = 1
   ·rw [if_pos h1]; unfold depO; split
    ·exact ring_dep hr _
    ·exact hr
   rw [if_neg h1]
   by_cases h2 : o.kd = 2
   ·rw [if_pos h2]; unfold exO; split
    ·rename_i h0; exact ring_ex hc h h0 hr
    ·exact hr
   rw [if_neg h2]
   by_cases h3 : o.kd = 3
   ·rw [if_pos h3]; unfold exO; split
    ·rename_i h0; exact ring_ex hc h h0 hr
    ·exact hr
   rw [if_neg h3, if_neg h4]
   by_cases h5 : o.kd = 5
   ·rw [if_pos h5]; unfold cnO; split <;> exact hr
   rw [if_neg h5]
   by_cases h6 : o.kd = 6
   ·rw [if_pos h6]; unfold paO; split <;> exact hr
   rw [if_neg h6, if_neg h7]
   exact hr
end
end
section
open Go Go.RowKit
section
variable {c : Nat → Int} {k : Nat} {s : Sg} {e : Int} {v : Val} {V : List Val}
theorem getD_set_ne {V : List Val} {i j : Nat} {x : Val} (h : i ≠ j) : (V.set i x).getD j val0 = V.getD j val0 := by
 rw [List.getD_eq_getElem?_getD, List.getElem?_set_ne h, ← List.getD_eq_getElem?_getD]
end
end
end Go.Proofs.YtobgbcdgffgdhaaGreat
