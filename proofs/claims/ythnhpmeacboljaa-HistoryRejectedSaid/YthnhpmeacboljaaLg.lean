/- A log in memory: its block, its maps, its rows; what each change of one part leaves. -/
import Derived.Test.YthnhpmeacboljaaMapF
import Derived.Test.YthnhpmeacboljaaPln
import Derived.Test.YthnhpmeacboljaaFu
import Derived.Test.YthnhpmeacboljaaAppend
import Derived.Test.YthnhpmeacboljaaWhole
import Derived.Test.YthnhpmeacboljaaTail
import Derived.Deep.CutRange
namespace Go.Proofs.Ythnhpmeacboljaa
open Go Go.RowKit Go.Deep
set_option linter.unusedVariables false
set_option linter.unusedSimpArgs false
set_option maxRecDepth 100000

/-- Where a log's parts lie. -/
structure Lv where
  m1 : Nat
  oa : Option Addr
  oc : Nat
  m2 : Nat
  m3 : Nat
  m4 : Nat
  m5 : Nat
  m6 : Nat
def cellsLg (v : Lv) (k : Nat) (n ep : Int) : Array Value := #[.map (some v.m1), .slice v.oa k v.oc, .map (some v.m2), .map (some v.m3), .map (some v.m4), .int .i64 n, .int .i64 ep, .map (some v.m5), .map (some v.m6)]
def exV (e : Ex0) : Value := .agg (cellsXv ⟨e.cl, e.rq, e.dl, 0, 0, 0, 0⟩)
def fuV (p : Int × Int) : Value := .agg (cellsFu ⟨p.1, p.2⟩)
def nilS : Value := .slice none 0 0
/-- A map of rows. -/
structure RowsF {α : Type} (row : α → List Value) (k : Nat) (e : TypeId) (w : World) (T : Nat → Prop) (m : Nat) (g : Int → List α) (f : Int → Option Value) : Prop where
  map : MapF w m f
  row : ∀ i u, f i = some u → w.ownsRow 0 e k u (g i).length (flatR row (g i)) ∧ ∀ j, u.ownBlock = some j → T j
  none : ∀ i, f i = none → g i = []
  apart : ∀ i j u v q, i ≠ j → f i = some u → f j = some v → u.ownBlock = some q → v.ownBlock ≠ some q
section
variable {α : Type} {row : α → List Value} {k : Nat} {e : TypeId} {w w' w1 w2 : World} {T T' : Nat → Prop} {m x : Nat} {g : Int → List α} {f : Int → Option Value}
theorem map_ne {t : TypeId} {cs : Array Value} (h : MapF w m f) (hB : Blk w x t cs) : x ≠ m := by
  rintro rfl
  obtain ⟨es, clock, hb, _⟩ := h
  have := hb.symm.trans hB
  simp at this
theorem RowsF.blk (h : RowsF row k e w T m g f) {i : Int} {u : Value} (hu : f i = some u) {q : Nat} (hq : u.ownBlock = some q) : ∃ cur, Blk w q e cur := (ownsR_blk (h.row i u hu).1 hq).imp fun _ h => h.1
theorem RowsF.same (h : RowsF row k e w T m g f) (hm : w'.heap[m]? = w.heap[m]?) (hT : ∀ j cur, T j → Blk w j e cur → w'.heap[j]? = w.heap[j]?) (hTT : ∀ j, T j → T' j) : RowsF row k e w' T' m g f :=
  ⟨h.map.same hm, fun i u hu => ⟨ownsR_same (h.row i u hu).1 fun q hq => by
    obtain ⟨cur, hB⟩ := h.blk hu hq
    exact hT q cur ((h.row i u hu).2 q hq) hB, fun j hj => hTT j ((h.row i u hu).2 j hj)⟩, h.none, h.apart⟩
/-- What the map's entry for a key reads as. -/
theorem RowsF.get (h : RowsF row k e w T m g f) (i : Int) : w.ownsRow 0 e k (lookV false nilS (f i)) (g i).length (flatR row (g i)) ∧ ∀ j, (lookV false nilS (f i)).ownBlock = some j → T j := by
  cases hf : f i with
  | none =>
    rw [h.none i hf]
    exact ⟨⟨by simp [flatR], .inl ⟨rfl, rfl⟩⟩, fun j hj => by cases hj⟩
  | some u => exact h.row i u hf
/-- An element more for a key: an append, then the map's update. -/
theorem RowsF.push (hk : ∀ v, (row v).length = k) (h : RowsF row k e w T m g f) {i : Int} {p : α} {v : Value} (hg1 : w.grownBy w1 (lookV false nilS (f i)).ownBlock) (ho : w1.ownsRow 0 e k v ((g i).length + 1) (flatR row (g i) ++ row p)) (hv : v.ownBlock = (lookV false nilS (f i)).ownBlock ∨ v.ownBlock = some w.heap.size)
    (hM : MapF w2 m (updF f i v)) (hg2 : w1.grownBy w2 (some m)) (hTT : ∀ j, T j → T' j) (hTv : ∀ j, v.ownBlock = some j → T' j) : RowsF row k e w2 T' m (pushF g i p) (updF f i v) := by
  obtain ⟨o0, t0⟩ := h.get i
  have hm1 : MapF w1 m f := h.map.grown hg1 (fun hq => by
    obtain ⟨cur, hB⟩ := ownsR_blk o0 hq.symm
    exact map_ne h.map hB.1 rfl)
  have hne : ∀ j u q, j ≠ i → f j = some u → u.ownBlock = some q → v.ownBlock ≠ some q ∧ some q ≠ (lookV false nilS (f i)).ownBlock := fun j u q hj hu hq => by
    have hn2 : some q ≠ (lookV false nilS (f i)).ownBlock := fun he => by
      cases hf : f i with
      | none => rw [hf] at he; cases he
      | some u0 =>
        rw [hf] at he
        exact h.apart j i u u0 q hj hu hf hq he.symm
    refine ⟨fun hv' => ?_, hn2⟩
    rcases hv with hv | hv
    · rw [hv'] at hv; exact hn2 hv
    · rw [hv'] at hv
      injection hv with hv
      have := ((h.row j u hu).1.lt q hq).2
      omega
  refine ⟨hM, fun j u hu => ?_, fun j hj => ?_, fun j j' u u' q hjj hu hu' hq => ?_⟩
  · by_cases hj : j = i
    · subst hj
      simp only [updF, if_true, Option.some.injEq] at hu
      subst hu
      have e1 : pushF g j p j = g j ++ [p] := by simp [pushF]
      rw [e1, List.length_append, List.length_singleton, flatR_append, flatR_one]
      refine ⟨ownsR_same ho fun q hq => ?_, hTv⟩
      obtain ⟨cur, hB, _⟩ := ownsR_blk ho hq
      exact hg2.block q hB.lt (fun he => by injection he with he; exact map_ne hm1 hB he)
    · simp only [updF, hj, if_false] at hu
      have e1 : pushF g i p j = g j := by simp [pushF, hj]
      rw [e1]
      obtain ⟨o1, t1⟩ := h.row j u hu
      have o2 : w1.ownsRow 0 e k u (g j).length (flatR row (g j)) := ownsR_same o1 fun q hq => hg1.block q (o1.lt q hq).2 (hne j u q hj hu hq).2
      refine ⟨ownsR_same o2 fun q hq => ?_, fun q hq => hTT q (t1 q hq)⟩
      obtain ⟨cur, hB, _⟩ := ownsR_blk o2 hq
      exact hg2.block q hB.lt (fun he => by injection he with he; exact map_ne hm1 hB he)
  · by_cases hji : j = i
    · subst hji; simp [updF] at hj
    · simp only [updF, hji, if_false] at hj
      rw [show pushF g i p j = g j by simp [pushF, hji]]
      exact h.none j hj
  · by_cases hj : j = i
    · subst hj
      have hj' : ¬ j' = j := fun e => hjj e.symm
      simp only [updF, if_true, Option.some.injEq] at hu
      simp only [updF, hj', if_false] at hu'
      subst hu
      exact fun he => (hne j' u' q hj' hu' he).1 hq
    · simp only [updF, hj, if_false] at hu
      by_cases hj' : j' = i
      · subst hj'
        simp only [updF, if_true, Option.some.injEq] at hu'
        subst hu'
        exact (hne j u q hj hu hq).1
      · simp only [updF, hj', if_false] at hu'
        exact h.apart j j' u u' q hjj hu hu' hq
end

/-- The log at block b: T holds all its blocks. -/
structure LgM (w : World) (b : Nat) (T : Nat → Prop) (v : Lv) (s : St) (n : Int) : Prop where
  blk : Blk w b 80 (cellsLg v s.od.length n s.ep)
  ex : MapF w v.m1 (fun i => (s.ex i).map exV)
  od : w.ownsRow 0 3 1 (.slice v.oa s.od.length v.oc) s.od.length (s.od.map (Value.int .i64))
  ag : MapF w v.m2 (fun i => (s.ag i).map (Value.int .i64))
  sl : MapF w v.m3 (fun i => (s.sl i).map (Value.int .i64))
  pd : MapF w v.m4 (fun i => (s.pd i).map fuV)
  py : ∃ f, RowsF Pm.row 3 41 w T v.m5 s.py f
  an : ∃ f, RowsF As.row 3 47 w T v.m6 s.an f
  nd : [v.m1, v.m2, v.m3, v.m4, v.m5, v.m6].Nodup
  tb : T b
  tm : ∀ m ∈ [v.m1, v.m2, v.m3, v.m4, v.m5, v.m6], T m
  tw : ∀ j, (Value.slice v.oa s.od.length v.oc).ownBlock = some j → T j
  lt : ∀ i, T i → i < w.heap.size
  wf : ∀ i ∈ s.od, (Lit.int .i64 i).wf = true
def LgAt (w : World) (b : Nat) (T : Nat → Prop) (s : St) (n : Int) : Prop := ∃ v, LgM w b T v s n
/-- A log that has gone from w to w': its blocks are those that it had, and new ones; nothing else has turned. -/
def LgGo (w : World) (T : Nat → Prop) (w' : World) (b : Nat) (s : St) (n : Int) : Prop := ∃ T', LgAt w' b T' s n ∧ (∀ i, T i → T' i) ∧ (∀ i, T' i → T i ∨ w.heap.size ≤ i) ∧ Kept T w w'
section
variable {w w' w1 w2 : World} {T T' : Nat → Prop} {b : Nat} {v : Lv} {s s' : St} {n n' : Int}
theorem LgM.frame (h : LgM w b T v s n) (hs : w.heap.size ≤ w'.heap.size) (hb : ∀ i, T i → w'.heap[i]? = w.heap[i]?) : LgM w' b T v s n :=
  { blk := (hb b h.tb).trans h.blk
    ex := h.ex.same (hb _ (h.tm _ (by simp)))
    od := ownsR_same h.od fun i hi => hb i (h.tw i hi)
    ag := h.ag.same (hb _ (h.tm _ (by simp)))
    sl := h.sl.same (hb _ (h.tm _ (by simp)))
    pd := h.pd.same (hb _ (h.tm _ (by simp)))
    py := h.py.imp fun f hf => hf.same (hb _ (h.tm _ (by simp))) (fun j cur ht _ => hb j ht) (fun _ h => h)
    an := h.an.imp fun f hf => hf.same (hb _ (h.tm _ (by simp))) (fun j cur ht _ => hb j ht) (fun _ h => h)
    nd := h.nd, tb := h.tb, tm := h.tm, tw := h.tw, wf := h.wf
    lt := fun i hi => Nat.lt_of_lt_of_le (h.lt i hi) hs }
theorem LgM.below (h : LgM w b T v s n) (hb : Below w.heap.size w w') : LgM w' b T v s n := h.frame hb.size fun i hi => hb.block i (h.lt i hi)
theorem LgM.kept {R : Nat → Prop} (h : LgM w b T v s n) (hb : Kept R w w') (hR : ∀ i, T i → ¬ R i) : LgM w' b T v s n := h.frame hb.size fun i hi => hb.block i (h.lt i hi) (hR i hi)
theorem LgAt.below (h : LgAt w b T s n) (hb : Below w.heap.size w w') : LgAt w' b T s n := h.imp fun _ h => h.below hb
theorem LgAt.kept {R : Nat → Prop} (h : LgAt w b T s n) (hb : Kept R w w') (hR : ∀ i, T i → ¬ R i) : LgAt w' b T s n := h.imp fun _ h => h.kept hb hR
theorem LgAt.lt (h : LgAt w b T s n) : ∀ i, T i → i < w.heap.size := h.choose_spec.lt
theorem LgAt.tb (h : LgAt w b T s n) : T b := h.choose_spec.tb
theorem LgAt.go (h : LgAt w b T s n) : LgGo w T w b s n := ⟨T, h, fun _ h => h, fun _ h => .inl h, Kept.refl _ _⟩
theorem LgGo.trans (h : LgGo w T w1 b s n) (k : ∀ T1, LgAt w1 b T1 s n → LgGo w1 T1 w2 b s' n') : LgGo w T w2 b s' n' := by
  obtain ⟨T1, h1, h2, h3, h4⟩ := h
  obtain ⟨T2, k1, k2, k3, k4⟩ := k T1 h1
  refine ⟨T2, k1, fun i hi => k2 i (h2 i hi), fun i hi => ?_, h4.trans k4 (fun i hlt hi => ?_)⟩
  · rcases k3 i hi with k | k
    · exact h3 i k
    · exact .inr (Nat.le_trans h4.size k)
  · rcases h3 i hi with k | k
    · exact k
    · omega
theorem LgGo.after (hk : Kept T w w1) (h : LgGo w1 T w2 b s n) : LgGo w T w2 b s n := by
  obtain ⟨T2, k1, k2, k3, k4⟩ := h
  refine ⟨T2, k1, k2, fun i hi => ?_, hk.trans k4 (fun _ _ h => h)⟩
  rcases k3 i hi with k | k
  · exact .inl k
  · exact .inr (Nat.le_trans hk.size k)
/-- A world in which only one map has turned. -/
theorem LgM.mapped (h : LgM w b T v s n) {x : Nat} (hk : Kept (fun i => i = x) w w') (hx : ∃ f, MapF w x f) :
    Blk w' b 80 (cellsLg v s.od.length n s.ep) ∧ (w'.ownsRow 0 3 1 (.slice v.oa s.od.length v.oc) s.od.length (s.od.map (Value.int .i64))) ∧
      (∀ m f, m ≠ x → MapF w m f → MapF w' m f) ∧ (v.m5 ≠ x → ∃ f, RowsF Pm.row 3 41 w' T v.m5 s.py f) ∧ (v.m6 ≠ x → ∃ f, RowsF As.row 3 47 w' T v.m6 s.an f) ∧ (∀ i, T i → i < w'.heap.size) := by
  obtain ⟨f0, hx⟩ := hx
  have hB : ∀ i t cs, Blk w i t cs → w'.heap[i]? = w.heap[i]? := fun i t cs hB => hk.block i hB.lt (map_ne hx hB)
  have hM : ∀ m f, m ≠ x → MapF w m f → w'.heap[m]? = w.heap[m]? := fun m f hm hf => hk.block m hf.lt hm
  refine ⟨(hB _ _ _ h.blk).trans h.blk, ownsR_same h.od fun i hi => ?_, fun m f hm hf => hf.same (hM m f hm hf), fun h5 => h.py.imp fun f hf => hf.same (hM _ _ h5 hf.map) (fun j cur _ hb => hB _ _ _ hb) (fun _ h => h), fun h6 => h.an.imp fun f hf => hf.same (hM _ _ h6 hf.map) (fun j cur _ hb => hB _ _ _ hb) (fun _ h => h), fun i hi => Nat.lt_of_lt_of_le (h.lt i hi) hk.size⟩
  obtain ⟨cur, hb, _⟩ := ownsR_blk h.od hi
  exact hB _ _ _ hb
theorem LgM.ne (h : LgM w b T v s n) : (v.m1 ≠ v.m2 ∧ v.m1 ≠ v.m3 ∧ v.m1 ≠ v.m4 ∧ v.m1 ≠ v.m5 ∧ v.m1 ≠ v.m6) ∧ (v.m2 ≠ v.m3 ∧ v.m2 ≠ v.m4 ∧ v.m2 ≠ v.m5 ∧ v.m2 ≠ v.m6) ∧ (v.m3 ≠ v.m4 ∧ v.m3 ≠ v.m5 ∧ v.m3 ≠ v.m6) ∧ (v.m4 ≠ v.m5 ∧ v.m4 ≠ v.m6) ∧ v.m5 ≠ v.m6 := by
  have := h.nd
  simp only [List.nodup_cons, List.mem_cons, List.not_mem_nil, or_false, not_or, List.nodup_nil, and_true, not_false_eq_true] at this
  obtain ⟨⟨a1, a2, a3, a4, a5⟩, ⟨b2, b3, b4, b5⟩, ⟨c3, c4, c5⟩, ⟨d4, d5⟩, e5⟩ := this
  exact ⟨⟨a1, a2, a3, a4, a5⟩, ⟨b2, b3, b4, b5⟩, ⟨c3, c4, c5⟩, ⟨d4, d5⟩, e5⟩
theorem LgM.set_ex (h : LgM w b T v s n) (hk : Kept (fun i => i = v.m1) w w') {g : Int → Option Ex0} (hm : MapF w' v.m1 (fun i => (g i).map exV)) : LgM w' b T v { s with ex := g } n := by
  obtain ⟨k1, k2, k3, k4, k5, k6⟩ := h.mapped hk ⟨_, h.ex⟩
  obtain ⟨⟨a1, a2, a3, a4, a5⟩, -, -, -, -⟩ := h.ne
  exact { blk := k1, od := k2, ex := hm, ag := k3 _ _ a1.symm h.ag, sl := k3 _ _ a2.symm h.sl, pd := k3 _ _ a3.symm h.pd, py := k4 a4.symm, an := k5 a5.symm, nd := h.nd, tb := h.tb, tm := h.tm, tw := h.tw, lt := k6, wf := h.wf }
theorem LgM.set_ag (h : LgM w b T v s n) (hk : Kept (fun i => i = v.m2) w w') {g : Int → Option Int} (hm : MapF w' v.m2 (fun i => (g i).map (Value.int .i64))) : LgM w' b T v { s with ag := g } n := by
  obtain ⟨k1, k2, k3, k4, k5, k6⟩ := h.mapped hk ⟨_, h.ag⟩
  obtain ⟨⟨a1, a2, a3, a4, a5⟩, ⟨b2, b3, b4, b5⟩, -, -, -⟩ := h.ne
  exact { blk := k1, od := k2, ag := hm, ex := k3 _ _ a1 h.ex, sl := k3 _ _ b2.symm h.sl, pd := k3 _ _ b3.symm h.pd, py := k4 b4.symm, an := k5 b5.symm, nd := h.nd, tb := h.tb, tm := h.tm, tw := h.tw, lt := k6, wf := h.wf }
theorem LgM.set_sl (h : LgM w b T v s n) (hk : Kept (fun i => i = v.m3) w w') {g : Int → Option Int} (hm : MapF w' v.m3 (fun i => (g i).map (Value.int .i64))) : LgM w' b T v { s with sl := g } n := by
  obtain ⟨k1, k2, k3, k4, k5, k6⟩ := h.mapped hk ⟨_, h.sl⟩
  obtain ⟨⟨a1, a2, a3, a4, a5⟩, ⟨b2, b3, b4, b5⟩, ⟨c3, c4, c5⟩, -, -⟩ := h.ne
  exact { blk := k1, od := k2, sl := hm, ex := k3 _ _ a2 h.ex, ag := k3 _ _ b2 h.ag, pd := k3 _ _ c3.symm h.pd, py := k4 c4.symm, an := k5 c5.symm, nd := h.nd, tb := h.tb, tm := h.tm, tw := h.tw, lt := k6, wf := h.wf }
theorem LgM.set_pd (h : LgM w b T v s n) (hk : Kept (fun i => i = v.m4) w w') {g : Int → Option (Int × Int)} (hm : MapF w' v.m4 (fun i => (g i).map fuV)) : LgM w' b T v { s with pd := g } n := by
  obtain ⟨k1, k2, k3, k4, k5, k6⟩ := h.mapped hk ⟨_, h.pd⟩
  obtain ⟨⟨a1, a2, a3, a4, a5⟩, ⟨b2, b3, b4, b5⟩, ⟨c3, c4, c5⟩, ⟨d4, d5⟩, -⟩ := h.ne
  exact { blk := k1, od := k2, pd := hm, ex := k3 _ _ a3 h.ex, ag := k3 _ _ b3 h.ag, sl := k3 _ _ c3 h.sl, py := k4 d4.symm, an := k5 d5.symm, nd := h.nd, tb := h.tb, tm := h.tm, tw := h.tw, lt := k6, wf := h.wf }
/-- A world in which only blocks of cells of other types have turned. -/
theorem LgM.celled (h : LgM w b T v s n) {R : Nat → Prop} (hk : Kept R w w') (hR : ∀ i, R i → ∃ t cs, Blk w i t cs ∧ t ≠ 41 ∧ t ≠ 47) (hTT : ∀ j, T j → T' j) :
    (∀ m f, MapF w m f → MapF w' m f) ∧ (∃ f, RowsF Pm.row 3 41 w' T' v.m5 s.py f) ∧ (∃ f, RowsF As.row 3 47 w' T' v.m6 s.an f) := by
  have hM : ∀ m f, MapF w m f → w'.heap[m]? = w.heap[m]? := fun m f hf => hk.block m hf.lt fun hr => by
    obtain ⟨t, cs, hB, _⟩ := hR m hr
    exact map_ne hf hB rfl
  refine ⟨fun m f hf => hf.same (hM m f hf), h.py.imp fun f hf => hf.same (hM _ _ hf.map) (fun j cur _ hb => hk.block j hb.lt fun hr => ?_) hTT, h.an.imp fun f hf => hf.same (hM _ _ hf.map) (fun j cur _ hb => hk.block j hb.lt fun hr => ?_) hTT⟩
  · obtain ⟨t, cs, hB, h1, h2⟩ := hR j hr
    exact Blk.ne_ hB hb h1 rfl
  · obtain ⟨t, cs, hB, h1, h2⟩ := hR j hr
    exact Blk.ne_ hB hb h2 rfl
/-- A number of the log's own is stored. -/
theorem LgM.set_num (h : LgM w b T v s n) (i : Nat) (u : Value) (n' ep : Int) (hc : (cellsLg v s.od.length n s.ep).setIfInBounds i u = cellsLg v s.od.length n' ep) : LgM (w.setCell ⟨b, i, none⟩ u) b T v { s with ep := ep } n' := by
  have hk : Kept (fun j => j = b) w (w.setCell ⟨b, i, none⟩ u) := Kept.setCell (S := fun j => j = b) (Kept.refl _ w) (p := ⟨b, i, none⟩) (.inl rfl) u
  obtain ⟨k1, k2, k3⟩ := h.celled (T' := T) hk (fun i hi => ⟨_, _, hi ▸ h.blk, by decide, by decide⟩) (fun _ h => h)
  refine { blk := ?_, ex := k1 _ _ h.ex, od := ownsR_same h.od fun j hj => ?_, ag := k1 _ _ h.ag, sl := k1 _ _ h.sl, pd := k1 _ _ h.pd, py := k2, an := k3, nd := h.nd, tb := h.tb, tm := h.tm, tw := h.tw, lt := fun j hj => Nat.lt_of_lt_of_le (h.lt j hj) hk.size, wf := h.wf }
  · have := h.blk.set_ i u
    rwa [hc] at this
  · obtain ⟨cur, hB, _⟩ := ownsR_blk h.od hj
    exact hk.block j hB.lt (Blk.ne_ hB h.blk (by decide))
/-- An index more in the order: an append, then the store of what it leaves. -/
theorem LgM.push (h : LgM w b T v s n) {i : Int} {a : Option Addr} {cp : Nat} (hi : (Lit.int .i64 i).wf = true) (hg : w.grownBy w1 (Value.slice v.oa s.od.length v.oc).ownBlock) (ho : w1.ownsRow 0 3 1 (.slice a (s.od.length + 1) cp) (s.od.length + 1) (s.od.map (Value.int .i64) ++ [.int .i64 i])) (hv : (Value.slice a (s.od.length + 1) cp).ownBlock = (Value.slice v.oa s.od.length v.oc).ownBlock ∨ (Value.slice a (s.od.length + 1) cp).ownBlock = some w.heap.size) :
    LgGo w T (w1.setCell ⟨b, 1, none⟩ (.slice a (s.od.length + 1) cp)) b { s with od := s.od ++ [i] } n := by
  have hne : some b ≠ (Value.slice v.oa s.od.length v.oc).ownBlock := fun he => by
    obtain ⟨cur, hB, _⟩ := ownsR_blk h.od he.symm
    exact Blk.ne_ hB h.blk (by decide) rfl
  have hb1 : Blk w1 b _ _ := h.blk.grown hg hne
  have hk1 : Kept (fun j => (Value.slice v.oa s.od.length v.oc).ownBlock = some j) w w1 := Kept.of_grown hg fun j hj => hj.symm
  have hk : Kept (fun j => j = b ∨ (Value.slice v.oa s.od.length v.oc).ownBlock = some j) w (w1.setCell ⟨b, 1, none⟩ (.slice a (s.od.length + 1) cp)) := (hk1.more fun _ _ h => .inr h).setCell (.inl (.inl rfl)) _
  obtain ⟨k1, k2, k3⟩ := h.celled (T' := fun j => T j ∨ (Value.slice a (s.od.length + 1) cp).ownBlock = some j) hk (fun j hj => by
    rcases hj with rfl | hj
    · exact ⟨_, _, h.blk, by decide, by decide⟩
    · obtain ⟨cur, hB, _⟩ := ownsR_blk h.od hj
      exact ⟨_, _, hB, by decide, by decide⟩) (fun _ h => .inl h)
  refine ⟨fun j => T j ∨ (Value.slice a (s.od.length + 1) cp).ownBlock = some j, ⟨{ v with oa := a, oc := cp }, ?_⟩, fun _ h => .inl h, fun j hj => ?_, hk.more fun j _ hj => ?_⟩
  · refine { blk := ?_, ex := k1 _ _ h.ex, od := ?_, ag := k1 _ _ h.ag, sl := k1 _ _ h.sl, pd := k1 _ _ h.pd, py := k2, an := k3, nd := h.nd, tb := .inl h.tb, tm := fun m hm => .inl (h.tm m hm), tw := ?_, lt := fun j hj => ?_, wf := fun j hj => ?_ }
    · have := hb1.set_ 1 (.slice a (s.od.length + 1) cp)
      show Blk _ b _ (cellsLg _ (s.od ++ [i]).length n s.ep)
      rw [List.length_append, List.length_singleton]
      exact this
    · show World.ownsRow _ _ _ _ (.slice a (s.od ++ [i]).length cp) (s.od ++ [i]).length ((s.od ++ [i]).map (Value.int .i64))
      rw [List.length_append, List.length_singleton, List.map_append]
      refine ownsR_same ho fun q hq => Below.heap_setCell _ _ _ _ ?_
      obtain ⟨cur, hB, _⟩ := ownsR_blk ho hq
      exact Blk.ne_ hB hb1 (by decide)
    · intro j hj
      refine .inr ?_
      rw [show (s.od ++ [i]).length = s.od.length + 1 by simp] at hj
      exact hj
    · rcases hj with hj | hj
      · exact Nat.lt_of_lt_of_le (h.lt j hj) hk.size
      · simpa [World.setCell] using (ho.lt j hj).2
    · rcases List.mem_append.1 hj with hj | hj
      · exact h.wf j hj
      · rw [List.mem_singleton.1 hj]; exact hi
  · rcases hj with hj | hj
    · exact .inl hj
    · rcases hv with hv | hv
      · exact .inl (h.tw j (hv ▸ hj))
      · rw [hj] at hv
        injection hv with hv
        exact .inr (by omega)
  · rcases hj with rfl | hj
    · exact h.tb
    · exact h.tw j hj
end
end Go.Proofs.Ythnhpmeacboljaa
