/- Clones of one's own: what a clone leads to; a list of records of which one field is written. -/
import Derived.Test.YtjbbcnepeffiaaaDoorLaw
import Derived.Test.YtjbbcnepeffiaaaDoorClone
import Derived.Test.YtjbbcnepeffiaaaDoorWhole
namespace Go.Proofs.YtjbbcnepeffiaaaDoor
open Go Go.RowKit Go.Deep
set_option linter.unusedVariables false
set_option linter.unusedSimpArgs false
set_option maxRecDepth 100000

/-- r' is a clone of r: its lists are rows of one's own, from block B on. -/
structure Cln (w : World) (B : Nat) (r r' : Rc) (la : List As) (lp : List Pm) : Prop where
  eq : ∃ a2 c2 p2 d2, r' = { r with aa := a2, ac := c2, pa := p2, pc := d2 }
  oa : w.ownsRow B 32 3 (.slice r'.aa r'.an r'.ac) r'.an (flatR As.row la)
  ac : r'.an ≤ r'.ac ∧ r'.ac ≤ maxLen
  op : w.ownsRow B 35 3 (.slice r'.pa r'.pn r'.pc) r'.pn (flatR Pm.row lp)
  pc : r'.pn ≤ r'.pc ∧ r'.pc ≤ maxLen
section
variable {w w' : World} {B C : Nat} {r r' : Rc} {la : List As} {lp : List Pm}
theorem Cln.below (h : Cln w B r r' la lp) (hb : Below w.heap.size w w') : Cln w' B r r' la lp := { h with oa := ownsR_below h.oa hb, op := ownsR_below h.op hb }
theorem Cln.base (h : Cln w B r r' la lp) (hB : C ≤ B) : Cln w C r r' la lp := { h with oa := ownsR_base h.oa hB, op := ownsR_base h.op hB }
theorem Cln.at (h : Cln w B r r' la lp) (hr : RcAt w (fun _ => False) r la lp) : RcAt w (fun _ => False) r' la lp := by
  obtain ⟨a2, c2, p2, d2, rfl⟩ := h.eq
  obtain ⟨a, c, e1, _, _, h1⟩ := ownsR_lst (S := fun _ => False) (l := la) As.row_len h.oa hr.an (fun _ _ h => h)
  injection e1 with e1 _ _
  obtain ⟨a', c', e2, _, _, h2⟩ := ownsR_lst (S := fun _ => False) (l := lp) Pm.row_len h.op hr.pn (fun _ _ h => h)
  injection e2 with e2 _ _
  subst e1 e2
  exact ⟨⟨hr.nums.kd, hr.nums.cd, hr.nums.ix, hr.nums.bl, hr.nums.ep, hr.nums.dl, hr.nums.vs⟩, h1, hr.an, h.ac, hr.fa, h2, hr.pn, h.pc, hr.fp⟩
theorem Cln.same (h : Cln w B r r' la lp) : sameB r' r la la lp lp = true := by
  obtain ⟨a2, c2, p2, d2, rfl⟩ := h.eq
  simp [sameB]
theorem Cln.lens (h : Cln w B r r' la lp) : r'.an = r.an ∧ r'.pn = r.pn := by
  obtain ⟨a2, c2, p2, d2, rfl⟩ := h.eq
  exact ⟨rfl, rfl⟩
theorem clone_at (r : Rc) (la : List As) (lp : List Pm) (w : World) (hr : RcAt w (fun _ => False) r la lp) (hn : r.an ≤ 1000000 ∧ r.pn ≤ 1000000) :
    Calls Tryd.prog 13 #[.agg (cellsRc r)] w fun e w' => ∃ r', e = .returned (.agg (cellsRc r')) ∧ Cln w' w.heap.size r r' la lp ∧ Below w.heap.size w w' :=
  (clone_any r la lp w hr hn).mono fun e w' ⟨a2, c2, p2, d2, h1, h2, h3, h4⟩ => ⟨_, h1, ⟨⟨a2, c2, p2, d2, rfl⟩, ownsR_base h2.1 (by omega), h2.2, ownsR_base h3.1 (by omega), h3.2⟩, h4⟩
end
/-- The elements of a row from k on still hold their field f; the row lies between B and C. -/
def Rest {α : Type} (w : World) (t : TypeId) (f : Nat) (val : α → Value) (a : Option Addr) (n k : Nat) (l : List α) (B C : Nat) : Prop :=
  k < n → ∃ g cur, a = some ⟨g, 0, none⟩ ∧ B ≤ g ∧ g < C ∧ Blk w g t cur ∧ ∀ j x, k ≤ j → l[j]? = some x → cur[j * 3 + f]? = some (val x)
section
variable {α : Type} {w w' : World} {t : TypeId} {f : Nat} {val : α → Value} {a : Option Addr} {n k B C : Nat} {l : List α}
theorem Rest.same (h : Rest w t f val a n k l B C) (hb : ∀ g cur, a = some ⟨g, 0, none⟩ → Blk w g t cur → w'.heap[g]? = w.heap[g]?) : Rest w' t f val a n k l B C := fun hk => by
  obtain ⟨g, cur, h1, h2, h3, h4, h5⟩ := h hk
  exact ⟨g, cur, h1, h2, h3, (hb g cur h1 h4).trans h4, h5⟩
theorem Rest.below (h : Rest w t f val a n k l B C) (hb : Below w.heap.size w w') : Rest w' t f val a n k l B C := h.same fun g cur _ h4 => hb.block g h4.lt
theorem rest_of_own {row : α → List Value} {c : Nat} (hrow : ∀ v, (row v).length = 3) (hv : ∀ v, (row v)[f]? = some (val v)) (hf : f < 3) (h : w.ownsRow B t 3 (.slice a n c) n (flatR row l)) (hC : w.heap.size ≤ C) : Rest w t f val a n 0 l B C := fun hk => by
  have h0 : w.ownsRow B t 3 (.slice a n c) n (flatR row l) := h
  rcases h.2 with ⟨e, h1⟩ | ⟨g, cp, cur, e, h1, h2, h3, h4, h5⟩
  · injection e with _ e _
    omega
  · injection e with e1 e2 e3
    subst e1
    refine ⟨g, cur, rfl, h1, Nat.lt_of_lt_of_le (Array.getElem?_eq_some_iff.1 h2).1 hC, h2, fun j x _ hx => ?_⟩
    have e := flatR_at hrow hx hf
    rw [hv] at e
    have hc := h0.cells (g := g) rfl _ _ e
    rw [add_plain, Nat.zero_add, Blk.cell (show Blk w g t cur from h2)] at hc
    exact hc
/-- Element k is written. -/
theorem Rest.set_ {g : Nat} {cur : Array Value} {v : Value} (h4 : Blk w g t cur) (h2 : B ≤ g) (h3 : g < C) (hf : f < 3) (h5 : ∀ j x, k ≤ j → l[j]? = some x → cur[j * 3 + f]? = some (val x)) :
    Rest (w.setCell ⟨g, k * 3 + f, none⟩ v) t f val (some ⟨g, 0, none⟩) n (k + 1) l B C := fun _ =>
  ⟨g, _, rfl, h2, h3, h4.set_ _ v, fun j x hj hx => by
    rw [Array.getElem?_setIfInBounds_ne (by omega)]
    exact h5 j x (by omega) hx⟩
end
/-- Where ReceiptClones stands: the receipt's box, the clones' boxes, the second clone's rows (from C on). -/
structure CL (w0 w : World) (rb p q : Nat) (r r1 r2 : Rc) (la : List As) (lp : List Pm) (C : Nat) : Prop where
  box : Blk w rb 26 (cellsRc r)
  one : Blk w p 26 (cellsRc r1)
  two : Blk w q 26 (cellsRc r2)
  bel : Below w0.heap.size w0 w
  cln : Cln w C r r2 la lp
section
variable {w0 w w' : World} {rb p q C : Nat} {r r1 r2 : Rc} {la : List As} {lp : List Pm}
theorem CL.below (h : CL w0 w rb p q r r1 r2 la lp C) (hb : Below w.heap.size w w') : CL w0 w' rb p q r r1 r2 la lp C :=
  ⟨h.box.below hb h.box.lt, h.one.below hb h.one.lt, h.two.below hb h.two.lt, h.bel.trans (hb.mono h.bel.size), h.cln.below hb⟩
/-- A store into a row of another kind, below C. -/
theorem CL.set_ {g o : Nat} {t : TypeId} {cur : Array Value} {v : Value} (h : CL w0 w rb p q r r1 r2 la lp C) (hg : Blk w g t cur) (ht : t ≠ 26) (h1 : w0.heap.size ≤ g) (h2 : g < C) : CL w0 (w.setCell ⟨g, o, none⟩ v) rb p q r r1 r2 la lp C := by
  have far : ∀ {b : Nat} {cs : Array Value}, Blk w b 26 cs → Blk (w.setCell ⟨g, o, none⟩ v) b 26 cs := fun hb => hb.far (p := ⟨g, o, none⟩) (hb.ne_ hg (Ne.symm ht)) v
  exact ⟨far h.box, far h.one, far h.two, h.bel.setCell (p := ⟨g, o, none⟩) h1 v,
    { h.cln with oa := ownsR_same h.cln.oa (fun i hi => Below.heap_setCell _ _ _ _ (by have := (h.cln.oa.lt i hi).1; simp; omega)), op := ownsR_same h.cln.op (fun i hi => Below.heap_setCell _ _ _ _ (by have := (h.cln.op.lt i hi).1; simp; omega)) }⟩
end
theorem rest_far {α : Type} {w : World} {t t' : TypeId} {f : Nat} {val : α → Value} {a : Option Addr} {n k B C : Nat} {l : List α} {g o : Nat} {cur : Array Value} {v : Value} (h : Rest w t f val a n k l B C) (hg : Blk w g t' cur) (ht : t ≠ t') : Rest (w.setCell ⟨g, o, none⟩ v) t f val a n k l B C :=
  h.same fun b cur' _ hb => Below.heap_setCell _ _ _ _ (hb.ne_ hg ht)
theorem Cln.setRow {w : World} {B p : Nat} {r r' : Rc} {la : List As} {lp : List Pm} {cs : Array Value} (h : Cln w B r r' la lp) (hp : Blk w p 26 cs) (cs' : Array Value) : Cln (w.setRow p cs') B r r' la lp :=
  { h with
    oa := ownsR_same h.oa (fun i hi => by
      obtain ⟨cur, hb, _⟩ := ownsR_blk h.oa hi
      exact setRow_other _ _ _ _ (hb.ne_ hp (by decide)))
    op := ownsR_same h.op (fun i hi => by
      obtain ⟨cur, hb, _⟩ := ownsR_blk h.op hi
      exact setRow_other _ _ _ _ (hb.ne_ hp (by decide))) }
theorem Rest.setRow {α : Type} {w : World} {t t' : TypeId} {f : Nat} {val : α → Value} {a : Option Addr} {n k B C p : Nat} {l : List α} {cs : Array Value} (h : Rest w t f val a n k l B C) (hp : Blk w p t' cs) (ht : t ≠ t') (cs' : Array Value) : Rest (w.setRow p cs') t f val a n k l B C :=
  h.same fun b cur _ hb => setRow_other _ _ _ _ (hb.ne_ hp ht)
/-- What the region leaves in which both clones are made. -/
def CPost (w0 w : World) (rb p q : Nat) (r r1 r2 : Rc) (la : List As) (lp : List Pm) (C : Nat) : Prop :=
  CL w0 w rb p q r r1 r2 la lp C ∧ Rest w 32 0 (fun x : As => .int .i64 x.ix) r1.aa r1.an 0 la w0.heap.size C ∧ Rest w 35 1 (fun x : Pm => .int .u64 x.am) r1.pa r1.pn 0 lp w0.heap.size C ∧
    RcAt w (fun _ => False) r1 la lp ∧ sameB r1 r la la lp lp = true ∧ r1.an = r.an ∧ r1.pn = r.pn
theorem cl_leaf {w0 w : World} {rb p q : Nat} {r r1 r2 : Rc} {la : List As} {lp : List Pm} {C : Nat} {z1 z2 : Array Value} (hr : RcAt w0 (fun _ => False) r la lp) (hb : RF w0 w rb r) (hp : Blk w p 26 z1) (hq : Blk w q 26 z2) (hpq : p ≠ q) (gp : rb < p) (gq : rb < q) (h0 : w0.heap.size ≤ rb)
    (h1 : Cln w w0.heap.size r r1 la lp) (h2 : Cln w C r r2 la lp) (ra : Rest w 32 0 (fun x : As => .int .i64 x.ix) r1.aa r1.an 0 la w0.heap.size C) (rp : Rest w 35 1 (fun x : Pm => .int .u64 x.am) r1.pa r1.pn 0 lp w0.heap.size C) :
    CPost w0 ((w.setRow p (cellsRc r1)).setRow q (cellsRc r2)) rb p q r r1 r2 la lp C := by
  have hq1 : Blk (w.setRow p (cellsRc r1)) q 26 z2 := hq.setRow_far (Ne.symm hpq) _
  have B1 : Below w0.heap.size w0 ((w.setRow p (cellsRc r1)).setRow q (cellsRc r2)) := below_setRow (below_setRow hb.bel (by omega) _) (by omega) _
  have c1 := (h1.setRow hp (cellsRc r1)).setRow hq1 (cellsRc r2)
  refine ⟨⟨(hb.box.setRow_far (by omega) _).setRow_far (by omega) _, (hp.setRow _).setRow_far hpq _, hq1.setRow _, B1, (h2.setRow hp _).setRow hq1 _⟩, (ra.setRow hp (by decide) _).setRow hq1 (by decide) _, (rp.setRow hp (by decide) _).setRow hq1 (by decide) _, c1.at (hr.below B1), c1.same, c1.lens⟩
/-- The first clone's rows, where the second clone is made. -/
theorem rests_of {w : World} {B : Nat} {r r' : Rc} {la : List As} {lp : List Pm} (h : Cln w B r r' la lp) :
    Rest w 32 0 (fun x : As => .int .i64 x.ix) r'.aa r'.an 0 la B w.heap.size ∧ Rest w 35 1 (fun x : Pm => .int .u64 x.am) r'.pa r'.pn 0 lp B w.heap.size :=
  ⟨rest_of_own (row := As.row) As.row_len (fun v => rfl) (by decide) h.oa (Nat.le_refl _), rest_of_own (row := Pm.row) Pm.row_len (fun v => rfl) (by decide) h.op (Nat.le_refl _)⟩
theorem run_alloc_rc (w : World) : (Instr.alloc 26 true (.tuple #[])).run Tryd.prog w = .ok (.pointer (some ⟨w.heap.size, 0, none⟩)) (w.alloc (.cells (cellsRc rcZ) 26)) := by
  have h : (Tryd.prog.info? 26).map (fun i => (i.zero, i.size)) = some (some (.agg (cellsRc rcZ)), 9) := by kernel_rfl
  obtain ⟨i, hi, hz, hs⟩ := info_of h
  simp [Instr.alloc, sizeOf, zeroValue, typeInfo, hi, hz, hs, newRow, go_sem, Value.cells]
theorem wp_alloc_rc {o : Oper} {a : Act} {w : World} {K : Act → World → Prop} {Q : Exit → Act → World → Prop} (ho : o.op = .alloc 26)
    (h : K (a.put o.dst (.pointer (some ⟨w.heap.size, 0, none⟩))) (w.alloc (.cells (cellsRc rcZ) 26))) : o.wp Tryd.prog a w K Q := by
  unfold Oper.wp execOp
  simp only [ho, Sem.run_bind, run_alloc_rc w, Result.andThen_ok, Sem.run_pure]
  exact h
end Go.Proofs.YtjbbcnepeffiaaaDoor
