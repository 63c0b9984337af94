/- A history in plain lists and functions: what a log keeps, what it answers, and what the reference searches for. -/
import Derived.Test.YthnhpmeacboljaaOq
import Derived.Test.YthnhpmeacboljaaRc
import Derived.Test.YthnhpmeacboljaaXv
namespace Go.Proofs.Ythnhpmeacboljaa
open Go
set_option linter.unusedVariables false
set_option linter.unusedSimpArgs false

/-- An operation and its receipt, with the lists that it leads to. -/
structure Ev where
  o : Oq
  r : Rc
  la : List As
  lp : List Pm
deriving Inhabited
/-- An exit as it was accepted. -/
structure Ex0 where
  cl : Int
  rq : Int
  dl : Int
deriving Inhabited
/-- What a log keeps. -/
structure St where
  ex : Int → Option Ex0
  od : List Int
  ag : Int → Option Int
  sl : Int → Option Int
  pd : Int → Option (Int × Int)
  ep : Int
  py : Int → List Pm
  an : Int → List As

def keepF {β : Type} (f : Int → Option β) (i : Int) (v : β) : Int → Option β := fun x => if x = i ∧ (f x).isNone = true then some v else f x
def pushF {α : Type} (f : Int → List α) (i : Int) (v : α) : Int → List α := fun x => if x = i then f x ++ [v] else f x
def agS (ex : Int → Option Ex0) (g : Int → Option Int) (a : As) : Int → Option Int := if (ex a.ix).isSome = true then keepF g a.ix a.ep else g
def pdS (ep : Int) (g : Int → Option (Int × Int)) (p : Pm) : Int → Option (Int × Int) := if p.fl = true then keepF g p.ix (ep, p.am) else g
def agAll (ex : Int → Option Ex0) (g : Int → Option Int) (l : List As) : Int → Option Int := l.foldl (agS ex) g
def pdAll (ep : Int) (g : Int → Option (Int × Int)) (l : List Pm) : Int → Option (Int × Int) := l.foldl (pdS ep) g
def pyAll (g : Int → List Pm) (l : List Pm) : Int → List Pm := l.foldl (fun f p => pushF f p.ix p) g
def anAll (g : Int → List As) (l : List As) : Int → List As := l.foldl (fun f p => pushF f p.ep p) g
/-- The class of the exit that an operation of a kind makes. -/
def clsK (kd : Int) : Option Int := if kd = 2 then some 1 else if kd = 3 ∨ kd = 4 then some 0 else none
def accX (s : St) (c i ep dl : Int) : St := { s with ex := keepF s.ex i ⟨c, ep, dl⟩, od := if (s.ex i).isNone = true then s.od ++ [i] else s.od }
/-- .. behind the receipt's lists: the operation's kind. -/
def kindS (s : St) (kd i ep dl : Int) : St :=
  if kd = 2 then accX s 1 i ep dl else if kd = 3 then accX s 0 i ep dl else if kd = 4 then { accX s 0 i ep dl with sl := keepF s.sl i ep } else s
def recS (s : St) (e : Ev) : St := kindS { s with ag := agAll s.ex s.ag e.la, pd := pdAll e.r.ep s.pd e.lp } e.o.kd e.r.ix e.r.ep e.r.dl
def addS (s : St) (e : Ev) : St :=
  if e.r.cd = 0 then { recS { s with ep := e.r.ep } e with py := pyAll s.py e.lp, an := anAll s.an e.la } else s
def st0 : St := ⟨fun _ => none, [], fun _ => none, fun _ => none, fun _ => none, 0, fun _ => [], fun _ => []⟩
def stL (L : List Ev) : St := L.foldl addS st0
theorem stL_nil : stL [] = st0 := rfl
theorem stL_snoc (L : List Ev) (e : Ev) : stL (L ++ [e]) = addS (stL L) e := by simp [stL]
theorem stL_take {L : List Ev} {k : Nat} {e : Ev} (h : L[k]? = some e) : stL (L.take (k + 1)) = addS (stL (L.take k)) e := by
  rw [List.take_add_one, h, Option.toList_some, stL_snoc]
/-- Pairs whose receipt has an error do not matter. -/
theorem stL_acc (L : List Ev) : stL (L.filter fun e => decide (e.r.cd = 0)) = stL L := by
  unfold stL
  generalize st0 = s
  induction L generalizing s with
  | nil => rfl
  | cons e L ih =>
    rw [List.filter_cons]
    by_cases h : e.r.cd = 0
    · simp only [h, decide_true, if_true, List.foldl_cons]
      exact ih _
    · simp only [h, decide_false, Bool.false_eq_true, if_false, List.foldl_cons]
      rw [show addS s e = s from if_neg h]
      exact ih _

/-! ### one index -/
section
variable {β : Type} {α : Type}
theorem keepF_at (f : Int → Option β) (i : Int) (v : β) (x : Int) : keepF f i v x = if x = i ∧ (f x).isNone = true then some v else f x := rfl
theorem keepF_some (f : Int → Option β) (i : Int) (v : β) (x : Int) : (keepF f i v x).isSome = ((f x).isSome || decide (x = i)) := by
  unfold keepF
  by_cases h : x = i <;> cases hf : f x <;> simp [h, hf]
theorem keepF_old {f : Int → Option β} {x : Int} {u : β} (h : f x = some u) (i : Int) (v : β) : keepF f i v x = some u := by simp [keepF, h]
end
theorem agS_at (ex : Int → Option Ex0) (g : Int → Option Int) (a : As) (x : Int) : agS ex g a x = if x = a.ix ∧ (ex x).isSome = true ∧ (g x).isNone = true then some a.ep else g x := by
  unfold agS
  by_cases h : x = a.ix
  · subst h
    by_cases h2 : (ex a.ix).isSome = true <;> simp [h2, keepF]
  · by_cases h2 : (ex a.ix).isSome = true <;> simp [h2, h, keepF]
theorem pdS_at (ep : Int) (g : Int → Option (Int × Int)) (p : Pm) (x : Int) : pdS ep g p x = if p.fl = true ∧ x = p.ix ∧ (g x).isNone = true then some (ep, p.am) else g x := by
  unfold pdS
  by_cases h : p.fl = true <;> simp [h, keepF]
theorem agAll_take {ex : Int → Option Ex0} {g : Int → Option Int} {l : List As} {k : Nat} {a : As} (h : l[k]? = some a) : agAll ex g (l.take (k + 1)) = agS ex (agAll ex g (l.take k)) a := by
  unfold agAll
  rw [List.take_add_one, h, Option.toList_some, List.foldl_append]
  rfl
theorem pdAll_take {ep : Int} {g : Int → Option (Int × Int)} {l : List Pm} {k : Nat} {a : Pm} (h : l[k]? = some a) : pdAll ep g (l.take (k + 1)) = pdS ep (pdAll ep g (l.take k)) a := by
  unfold pdAll
  rw [List.take_add_one, h, Option.toList_some, List.foldl_append]
  rfl
theorem pyAll_take {g : Int → List Pm} {l : List Pm} {k : Nat} {a : Pm} (h : l[k]? = some a) : pyAll g (l.take (k + 1)) = pushF (pyAll g (l.take k)) a.ix a := by
  unfold pyAll
  rw [List.take_add_one, h, Option.toList_some, List.foldl_append]
  rfl
theorem anAll_take {g : Int → List As} {l : List As} {k : Nat} {a : As} (h : l[k]? = some a) : anAll g (l.take (k + 1)) = pushF (anAll g (l.take k)) a.ep a := by
  unfold anAll
  rw [List.take_add_one, h, Option.toList_some, List.foldl_append]
  rfl
theorem pyAll_at (g : Int → List Pm) (l : List Pm) (x : Int) : pyAll g l x = g x ++ l.filter fun p => decide (p.ix = x) := by
  unfold pyAll
  induction l generalizing g with
  | nil => simp
  | cons p l ih =>
    rw [List.foldl_cons, ih, List.filter_cons]
    by_cases h : p.ix = x
    · subst h
      simp [pushF]
    · have h' : ¬ x = p.ix := fun e => h e.symm
      simp [pushF, h, h']
theorem anAll_at (g : Int → List As) (l : List As) (x : Int) : anAll g l x = g x ++ l.filter fun p => decide (p.ep = x) := by
  unfold anAll
  induction l generalizing g with
  | nil => simp
  | cons p l ih =>
    rw [List.foldl_cons, ih, List.filter_cons]
    by_cases h : p.ep = x
    · subst h
      simp [pushF]
    · have h' : ¬ x = p.ep := fun e => h e.symm
      simp [pushF, h, h']

/-! ### which operation records an exit -/
def recB (i : Int) (e : Ev) : Bool := decide (e.r.cd = 0) && decide (e.r.ix = i) && (clsK e.o.kd).isSome
def ex0 (e : Ev) : Ex0 := ⟨(clsK e.o.kd).getD 0, e.r.ep, e.r.dl⟩
theorem kindS_ex (s : St) (kd i ep dl : Int) : (kindS s kd i ep dl).ex = match clsK kd with | some c => keepF s.ex i ⟨c, ep, dl⟩ | none => s.ex := by
  unfold kindS clsK accX
  by_cases h2 : kd = 2
  · simp [h2]
  · by_cases h3 : kd = 3
    · simp [h3]
    · by_cases h4 : kd = 4 <;> simp [h2, h3, h4]
theorem kindS_od (s : St) (kd i ep dl : Int) : (kindS s kd i ep dl).od = if (clsK kd).isSome = true ∧ (s.ex i).isNone = true then s.od ++ [i] else s.od := by
  unfold kindS clsK accX
  by_cases h2 : kd = 2
  · simp [h2]
  · by_cases h3 : kd = 3
    · simp [h3]
    · by_cases h4 : kd = 4 <;> simp [h2, h3, h4]
theorem kindS_sl (s : St) (kd i ep dl : Int) : (kindS s kd i ep dl).sl = if kd = 4 then keepF s.sl i ep else s.sl := by
  unfold kindS accX
  by_cases h2 : kd = 2
  · simp [h2]
  · by_cases h3 : kd = 3
    · simp [h3]
    · by_cases h4 : kd = 4 <;> simp [h2, h3, h4]
theorem kindS_rest (s : St) (kd i ep dl : Int) : (kindS s kd i ep dl).ag = s.ag ∧ (kindS s kd i ep dl).pd = s.pd ∧ (kindS s kd i ep dl).ep = s.ep := by
  unfold kindS accX
  by_cases h2 : kd = 2
  · simp [h2]
  · by_cases h3 : kd = 3
    · simp [h3]
    · by_cases h4 : kd = 4 <;> simp [h2, h3, h4]
theorem addS_ex (s : St) (e : Ev) (x : Int) : (addS s e).ex x = (s.ex x).or (if recB x e = true then some (ex0 e) else none) := by
  unfold addS
  by_cases h : e.r.cd = 0
  · simp only [h, if_true, recS, kindS_ex]
    unfold recB ex0
    cases hc : clsK e.o.kd with
    | none => simp
    | some c =>
      simp only [keepF, h, decide_true, Bool.true_and, Option.isSome_some, Bool.and_true, Option.getD_some]
      cases hx : s.ex x with
      | none =>
        by_cases hi : x = e.r.ix
        · simp [hi]
        · have hi' : ¬ e.r.ix = x := fun he => hi he.symm
          simp [hi, hi', hx]
      | some u => simp [hx]
  · simp [h, recB]
theorem addS_ag (s : St) (e : Ev) : (addS s e).ag = if e.r.cd = 0 then agAll s.ex s.ag e.la else s.ag := by
  unfold addS
  by_cases h : e.r.cd = 0
  · simp [h, recS, (kindS_rest _ _ _ _ _).1]
  · simp [h]
theorem addS_pd (s : St) (e : Ev) : (addS s e).pd = if e.r.cd = 0 then pdAll e.r.ep s.pd e.lp else s.pd := by
  unfold addS
  by_cases h : e.r.cd = 0
  · simp [h, recS, (kindS_rest _ _ _ _ _).2.1]
  · simp [h]
theorem addS_sl (s : St) (e : Ev) : (addS s e).sl = if e.r.cd = 0 ∧ e.o.kd = 4 then keepF s.sl e.r.ix e.r.ep else s.sl := by
  unfold addS
  by_cases h : e.r.cd = 0
  · simp [h, recS, kindS_sl]
  · simp [h]
theorem addS_od (s : St) (e : Ev) : (addS s e).od = if recB e.r.ix e = true ∧ (s.ex e.r.ix).isNone = true then s.od ++ [e.r.ix] else s.od := by
  unfold addS recB
  by_cases h : e.r.cd = 0
  · simp [h, recS, kindS_od]
  · simp [h]
theorem addS_py (s : St) (e : Ev) : (addS s e).py = if e.r.cd = 0 then pyAll s.py e.lp else s.py := by
  unfold addS
  by_cases h : e.r.cd = 0 <;> simp [h]
theorem addS_an (s : St) (e : Ev) : (addS s e).an = if e.r.cd = 0 then anAll s.an e.la else s.an := by
  unfold addS
  by_cases h : e.r.cd = 0 <;> simp [h]
theorem ex_find (L : List Ev) (x : Int) : (stL L).ex x = (L.find? (recB x)).map ex0 := by
  unfold stL
  have : ∀ (L : List Ev) (s : St), (L.foldl addS s).ex x = (s.ex x).or ((L.find? (recB x)).map ex0) := fun L => by
    induction L with
    | nil => simp
    | cons e L ih =>
      intro s
      rw [List.foldl_cons, ih, addS_ex, List.find?_cons]
      cases hx : s.ex x with
      | some u => simp
      | none => cases hr : recB x e <;> simp
  rw [this]
  simp [st0]
/-- The position of the operation that records an exit, or -1. -/
def firstZ (L : List Ev) (i : Int) : Int := match L.findIdx? (recB i) with | some k => (k : Int) | none => -1
theorem firstZ_none {L : List Ev} {i : Int} (h : ∀ (k : Nat) (e : Ev), L[k]? = some e → recB i e = false) : firstZ L i = -1 ∧ (stL L).ex i = none := by
  have h1 : ∀ e ∈ L, recB i e = false := fun e he => by
    obtain ⟨k, hk⟩ := List.mem_iff_getElem?.1 he
    exact h k e hk
  constructor
  · unfold firstZ
    rw [List.findIdx?_eq_none_iff.2 h1]
  · rw [ex_find, List.find?_eq_none.2 (fun e he => by simp [h1 e he])]
    rfl
theorem firstZ_some {L : List Ev} {i : Int} {k : Nat} {e : Ev} (hk : L[k]? = some e) (hr : recB i e = true) (h : ∀ (j : Nat) (e' : Ev), j < k → L[j]? = some e' → recB i e' = false) : firstZ L i = (k : Int) ∧ (stL L).ex i = some (ex0 e) := by
  obtain ⟨hlt, he⟩ := List.getElem?_eq_some_iff.1 hk
  constructor
  · unfold firstZ
    have : L.findIdx? (recB i) = some k := by
      rw [List.findIdx?_eq_some_iff_getElem]
      refine ⟨hlt, by rw [he]; exact hr, fun j hj => by rw [h j _ hj (List.getElem?_eq_getElem (by omega))]; simp⟩
    rw [this]
  · rw [ex_find]
    have : L.find? (recB i) = some e := by
      rw [List.find?_eq_some_iff_getElem]
      exact ⟨hr, k, hlt, he, fun j hj => by rw [h j _ hj (List.getElem?_eq_getElem (by omega))]; rfl⟩
    rw [this]
    rfl
theorem first_cases (L : List Ev) (i : Int) : (firstZ L i = -1 ∧ (stL L).ex i = none ∧ ∀ (k : Nat) (e : Ev), L[k]? = some e → recB i e = false) ∨
    ∃ (k : Nat) (e : Ev), L[k]? = some e ∧ recB i e = true ∧ (∀ (j : Nat) (e' : Ev), j < k → L[j]? = some e' → recB i e' = false) ∧ firstZ L i = (k : Int) ∧ (stL L).ex i = some (ex0 e) := by
  cases hf : L.findIdx? (recB i) with
  | none =>
    rw [List.findIdx?_eq_none_iff] at hf
    have h1 : ∀ (k : Nat) (e : Ev), L[k]? = some e → recB i e = false := fun k e hk => hf e (List.mem_of_getElem? hk)
    exact .inl ⟨(firstZ_none h1).1, (firstZ_none h1).2, h1⟩
  | some k =>
    rw [List.findIdx?_eq_some_iff_getElem] at hf
    obtain ⟨hlt, hr, hb⟩ := hf
    have hk : L[k]? = some L[k] := List.getElem?_eq_getElem hlt
    have h1 : ∀ (j : Nat) (e' : Ev), j < k → L[j]? = some e' → recB i e' = false := fun j e' hj he => by
      have := hb j hj
      rw [List.getElem?_eq_getElem (by omega)] at he
      injection he with he
      rw [he] at this
      simpa using this
    exact .inr ⟨k, L[k], hk, hr, h1, firstZ_some hk hr h1⟩

/-! ### what a log answers -/
def xvOf (e : Ex0) (g s : Option Int) (p : Option (Int × Int)) : Xv := ⟨e.cl, e.rq, e.dl, g.getD (-1), s.getD (-1), (p.map (·.1)).getD (-1), (p.map (·.2)).getD 0⟩
def exitV (s : St) (i : Int) : Option Xv := (s.ex i).map fun e => xvOf e (s.ag i) (s.sl i) (s.pd i)
def clsIs (s : St) (c i : Int) : Bool := decide (((s.ex i).map (·.cl)).getD 0 = c)
def ofCls (s : St) (c : Int) : List Int := s.od.filter (clsIs s c)
def isLateB (e : Xv) (ep : Int) : Bool := (decide (e.dl ≠ -1) && decide (e.sl = -1)) && (decide (e.dl < e.pd) || (decide (e.pd = -1) && decide (e.dl < ep)))
def lateB (s : St) (i : Int) : Bool := isLateB ((exitV s i).getD xvZ) s.ep
def lateL (s : St) : List Int := s.od.filter (lateB s)
theorem snoc_ind {α : Type} {P : List α → Prop} (h0 : P []) (h : ∀ l a, P l → P (l ++ [a])) (l : List α) : P l := by
  rw [← List.reverse_reverse l]
  induction l.reverse with
  | nil => exact h0
  | cons a l ih => rw [List.reverse_cons]; exact h _ _ ih
theorem recB_ix {x : Int} {e : Ev} (h : recB x e = true) : e.r.ix = x := by
  simp only [recB, Bool.and_eq_true, decide_eq_true_eq] at h
  exact h.1.2
theorem od_ind (L : List Ev) : (∀ i, i ∈ (stL L).od ↔ ((stL L).ex i).isSome = true) ∧ (stL L).od.Nodup ∧ (stL L).od.length ≤ L.length := by
  refine snoc_ind (P := fun L => (∀ i, i ∈ (stL L).od ↔ ((stL L).ex i).isSome = true) ∧ (stL L).od.Nodup ∧ (stL L).od.length ≤ L.length) ?_ (fun L e ih => ?_) L
  · exact ⟨fun i => by simp [stL, st0], by simp [stL, st0], by simp [stL, st0]⟩
  · obtain ⟨h1, h2, h3⟩ := ih
    rw [stL_snoc, addS_od]
    generalize stL L = s at *
    by_cases hc : recB e.r.ix e = true ∧ (s.ex e.r.ix).isNone = true
    · rw [if_pos hc]
      have hn : e.r.ix ∉ s.od := fun hm => by
        have := (h1 _).1 hm
        have h5 := hc.2
        cases hx : s.ex e.r.ix <;> simp [hx] at this h5
      refine ⟨fun i => ?_, ?_, by simp; omega⟩
      · rw [List.mem_append, List.mem_singleton, h1 i, addS_ex]
        by_cases hi : i = e.r.ix
        · subst hi
          simp [hc.1]
        · have hr : recB i e = false := by
            cases hr : recB i e with
            | false => rfl
            | true => exact absurd (recB_ix hr).symm hi
          simp [hi, hr]
      · refine List.nodup_append.2 ⟨h2, by simp, fun a ha b hb => ?_⟩
        rw [List.mem_singleton.1 hb]
        rintro rfl
        exact hn ha
    · rw [if_neg hc]
      refine ⟨fun i => ?_, h2, by simp; omega⟩
      rw [h1 i, addS_ex]
      by_cases hr : recB i e = true
      · obtain rfl := recB_ix hr
        cases hx : s.ex e.r.ix with
        | none => exact absurd ⟨hr, by rw [hx]; rfl⟩ hc
        | some u => simp
      · simp [hr]
theorem cls_two {e : Ev} : (ex0 e).cl = 0 ∨ (ex0 e).cl = 1 := by
  unfold ex0 clsK
  by_cases h2 : e.o.kd = 2
  · simp [h2]
  · by_cases h3 : e.o.kd = 3
    · simp [h3]
    · by_cases h4 : e.o.kd = 4 <;> simp [h2, h3, h4]
/-- Both classes together: each index once. -/
theorem two_nodup (L : List Ev) : (ofCls (stL L) 0 ++ ofCls (stL L) 1).Nodup ∧ (ofCls (stL L) 0 ++ ofCls (stL L) 1).length ≤ L.length := by
  obtain ⟨h1, h2, h3⟩ := od_ind L
  generalize stL L = s at *
  constructor
  · refine List.nodup_append.2 ⟨h2.sublist (List.filter_sublist), h2.sublist (List.filter_sublist), fun a ha b hb => ?_⟩
    simp only [ofCls, List.mem_filter, clsIs, decide_eq_true_eq] at ha hb
    rintro rfl
    rw [ha.2] at hb
    omega
  · have : ∀ l : List Int, (l.filter (clsIs s 0)).length + (l.filter (clsIs s 1)).length ≤ l.length := fun l => by
      induction l with
      | nil => simp
      | cons i l ih =>
        simp only [List.filter_cons]
        by_cases c0 : clsIs s 0 i = true
        · have c1 : clsIs s 1 i = false := by
            simp only [clsIs, decide_eq_true_eq, decide_eq_false_iff_not] at c0 ⊢
            omega
          simp only [c0, c1, if_true, Bool.false_eq_true, if_false, List.length_cons]
          omega
        · simp only [c0, if_false, Bool.false_eq_true]
          split <;> simp only [List.length_cons] <;> omega
    have := this s.od
    rw [List.length_append]
    unfold ofCls
    omega
end Go.Proofs.Ythnhpmeacboljaa
