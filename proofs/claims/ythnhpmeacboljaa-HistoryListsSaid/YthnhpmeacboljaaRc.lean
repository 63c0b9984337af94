/- A receipt: its value, one in memory, the laws' arguments; the lists that it leads to. -/
import Derived.Test.YthnhpmeacboljaaAs
import Derived.Test.YthnhpmeacboljaaPm
import Derived.Deep.WholeRow
namespace Go.Proofs.Ythnhpmeacboljaa
open Go Go.ChangeShapes Go.WideShapes Go.RowKit Go.Deep
set_option linter.unusedVariables false
set_option linter.unusedSimpArgs false
set_option maxRecDepth 100000

structure Rc where
  kd : Int
  cd : Int
  ix : Int
  bl : Int
  ep : Int
  dl : Int
  aa : Option Addr
  an : Nat
  ac : Nat
  pa : Option Addr
  pn : Nat
  pc : Nat
  vs : Int
deriving Inhabited

def Rc.row (v : Rc) : List Value := [.int .i64 v.kd, .int .i64 v.cd, .int .i64 v.ix, .int .i64 v.bl, .int .i64 v.ep, .int .i64 v.dl, .slice v.aa v.an v.ac, .slice v.pa v.pn v.pc, .int .i64 v.vs]
def cellsRc (v : Rc) : Array Value := v.row.toArray
def I64 (x : Int) : Prop := -9223372036854775808 ≤ x ∧ x ≤ 9223372036854775807
/-- The numbers of a receipt. -/
structure RcNums (v : Rc) : Prop where
  kd : I64 v.kd
  cd : I64 v.cd
  ix : I64 v.ix
  bl : I64 v.bl
  ep : I64 v.ep
  dl : I64 v.dl
  vs : I64 v.vs
/-- A receipt that leads to these two lists, in blocks that are not of S. -/
structure RcAt (w : World) (S : Nat → Prop) (v : Rc) (la : List As) (lp : List Pm) : Prop where
  nums : RcNums v
  asg : LstR As.row 3 w S v.aa la
  an : la.length = v.an
  ac : v.an ≤ v.ac ∧ v.ac ≤ maxLen
  fa : ∀ x ∈ la, FitsAs x
  pay : LstR Pm.row 3 w S v.pa lp
  pn : lp.length = v.pn
  pc : v.pn ≤ v.pc ∧ v.pc ≤ maxLen
  fp : ∀ x ∈ lp, FitsPm x
def rcZ : Rc := ⟨0, 0, 0, 0, 0, 0, none, 0, 0, none, 0, 0, 0⟩
theorem Rc.row_len (v : Rc) : v.row.length = 9 := rfl
theorem Rc.row_one (v : Rc) : ∀ u ∈ v.row, u.oneCell' = true := by
  intro u hu
  simp only [Rc.row, List.mem_cons, List.not_mem_nil, or_false] at hu
  rcases hu with rfl | rfl | rfl | rfl | rfl | rfl | rfl | rfl | rfl <;> rfl
theorem cellsRc_one (v : Rc) : (cellsRc v).all (·.oneCell') = true := by
  refine Array.all_eq_true_iff_forall_mem.2 (fun u hu => Rc.row_one v u (by simpa [cellsRc] using hu))
theorem cellsRc_size (v : Rc) : (cellsRc v).size = 9 := rfl
theorem infoRc : (Try.prog.info? 60).map (·.size) = some 9 := by kernel_rfl
section
variable {w w' : World} {S T : Nat → Prop} {v : Rc} {la : List As} {lp : List Pm}
theorem RcAt.below (h : RcAt w S v la lp) (hb : Below w.heap.size w w') : RcAt w' S v la lp := { h with asg := h.asg.below hb, pay := h.pay.below hb }
theorem RcAt.kept (h : RcAt w S v la lp) (hb : Kept S w w') : RcAt w' S v la lp := { h with asg := h.asg.kept hb, pay := h.pay.kept hb }
theorem RcAt.more (h : RcAt w S v la lp) (hT : ∀ i, i < w.heap.size → T i → S i) : RcAt w T v la lp := { h with asg := h.asg.more hT, pay := h.pay.more hT }
theorem RcAt.alloc (h : RcAt w S v la lp) (o : Obj) : RcAt (w.alloc o) S v la lp := { h with asg := h.asg.alloc o, pay := h.pay.alloc o }
theorem i64_of {x : Int} (h : (Lit.int .i64 x).wf = true) : I64 x := by
  simp [Lit.wf, IntKind.min, IntKind.max, IntKind.signed, IntKind.bits] at h
  unfold I64
  omega
theorem u64_of {x : Int} (h : (Lit.int .u64 x).wf = true) : 0 ≤ x ∧ x ≤ 18446744073709551615 := by
  simp [Lit.wf, IntKind.min, IntKind.max, IntKind.signed, IntKind.bits] at h
  omega
theorem wf_i64 {x : Int} (h : I64 x) : (Lit.int .i64 x).wf = true := by
  unfold I64 at h
  simp [Lit.wf, IntKind.min, IntKind.max, IntKind.signed, IntKind.bits]
  omega
end
/-- What a law is told of a receipt that came in. -/
def FitsRc (w : World) (v : Rc) : Prop := ∃ la lp, RcAt w (fun _ => False) v la lp
theorem FitsRc.of {w : World} {v : Rc} (h : RcNums v) (h1 : IsAss w v.aa v.an v.ac) (h2 : IsLstR Pm.row 3 FitsPm w v.pa v.pn v.pc) : FitsRc w v := by
  obtain ⟨a1, a2, la, a3, a4, a5⟩ := h1
  obtain ⟨b1, b2, lp, b3, b4, b5⟩ := h2
  exact ⟨la, lp, h, a5, a3, ⟨a1, a2⟩, a4, b5, b3, ⟨b1, b2⟩, b4⟩
section
variable {P : Program} {ops : Array Oper} {rest : List Oper} {op : Oper} {a : Act} {w : World} {Q : Exit → Act → World → Prop}
theorem wpList_load_Rc (hgd : op.guard = none) (ty : TypeId) (x : Operand) (ho : op.op = .load ty x)
    (b o : Nat) (hx : a.eval x = .pointer (some ⟨b, o, none⟩)) (v : Rc) (d : TypeDesc) (hc : w.rangeAt b o v.row)
    (hu : P.underlying ty = some d) (hd : d.isRow = true) (hi : (P.info? ty).map (·.size) = some 9)
    (h : wpList P ops Q rest (a.put op.dst (.agg (cellsRc v))) w) : wpList P ops Q (op :: rest) a w :=
  wpList_load_mid hgd ty x ho b o hx v.row d hc hu hd hi h
theorem wpList_build_Rc (hg : op.guard = none) (t : TypeId) (parts : Array (Nat × Operand)) (ho : op.op = .build t parts) (v : Rc)
    (hf : P.built t (parts.map fun (i, x) => (i, a.eval x)).toList = some (cellsRc v)) (h : wpList P ops Q rest (a.put op.dst (.agg (cellsRc v))) w) : wpList P ops Q (op :: rest) a w :=
  wpList_build hg t parts ho (by rw [hf]; rfl) (by rw [hf]; exact h)
theorem wpList_build_RcG (hw : Region.wanted op (yielded ops a.tmps) = true) (t : TypeId) (parts : Array (Nat × Operand)) (ho : op.op = .build t parts) (v : Rc)
    (hf : P.built t (parts.map fun (i, x) => (i, a.eval x)).toList = some (cellsRc v)) (h : wpList P ops Q rest (a.put op.dst (.agg (cellsRc v))) w) : wpList P ops Q (op :: rest) a w := by
  refine wpList_valG (.agg (cellsRc v)) hw ?_ h
  have e := run_build (P := P) w t (parts.map fun (i, x) => (i, a.eval x)) _ hf
  unfold execOp
  rw [ho]
  show ((Instr.build t (parts.map fun (i, x) => (i, a.eval x))) >>= fun r => pure (Next.value r)).run P w = _
  rw [Sem.run_bind, e]
  rfl
end
section
variable {H : Type} {enc : TypeId × Value → H} {w : World} {base : Nat} {held : Bool}
theorem trodRc {n : Nat} {cs : List Value} {x : DataW H × List MemPlace} (h : DataW.trod enc Try.prog w base (fun _ => true) held n 60 cs = some x) : ∃ v : Rc, cs = v.row ∧ FitsRc w v := by
  obtain ⟨ys, n', hn', hy, hlen, hyl, hf⟩ := DataW.trod_struct Try.underlying60 h
  have hlen : cs.length = 9 := hlen.trans (by kernel_rfl)
  have hyl : ys.length = 9 := hyl
  have get : ∀ j (f : Field), j < 9 → f.offset = j → Try.prog.cellsOf f.type = 1 → DataW.trod enc Try.prog w base (fun _ => true) held n' f.type ((cs.drop f.offset).take (Try.prog.cellsOf f.type)) = ys[j]? → ∃ v y, cs[j]? = some v ∧ DataW.trod enc Try.prog w base (fun _ => true) held n' f.type [v] = some y := by
    intro j f hj ho hc ht
    rw [ho, hc, List.drop_eq_getElem_cons (by omega), List.getElem?_eq_getElem (by omega)] at ht
    exact ⟨_, _, List.getElem?_eq_getElem (by omega), ht⟩
  obtain ⟨v0, y0, c0, t0⟩ := get 0 _ (by omega) rfl (by kernel_rfl) (hf 0 _ rfl)
  obtain ⟨v1, y1, c1, t1⟩ := get 1 _ (by omega) rfl (by kernel_rfl) (hf 1 _ rfl)
  obtain ⟨v2, y2, c2, t2⟩ := get 2 _ (by omega) rfl (by kernel_rfl) (hf 2 _ rfl)
  obtain ⟨v3, y3, c3, t3⟩ := get 3 _ (by omega) rfl (by kernel_rfl) (hf 3 _ rfl)
  obtain ⟨v4, y4, c4, t4⟩ := get 4 _ (by omega) rfl (by kernel_rfl) (hf 4 _ rfl)
  obtain ⟨v5, y5, c5, t5⟩ := get 5 _ (by omega) rfl (by kernel_rfl) (hf 5 _ rfl)
  obtain ⟨v6, y6, c6, t6⟩ := get 6 _ (by omega) rfl (by kernel_rfl) (hf 6 _ rfl)
  obtain ⟨v7, y7, c7, t7⟩ := get 7 _ (by omega) rfl (by kernel_rfl) (hf 7 _ rfl)
  obtain ⟨v8, y8, c8, t8⟩ := get 8 _ (by omega) rfl (by kernel_rfl) (hf 8 _ rfl)
  obtain ⟨x0, e0, _, w0⟩ := DataW.trod_int Try.underlying3 t0
  obtain ⟨x1, e1, _, w1⟩ := DataW.trod_int Try.underlying58 t1
  obtain ⟨x2, e2, _, w2⟩ := DataW.trod_int Try.underlying3 t2
  obtain ⟨x3, e3, _, w3⟩ := DataW.trod_int Try.underlying3 t3
  obtain ⟨x4, e4, _, w4⟩ := DataW.trod_int Try.underlying3 t4
  obtain ⟨x5, e5, _, w5⟩ := DataW.trod_int Try.underlying3 t5
  obtain ⟨x8, e8, _, w8⟩ := DataW.trod_int Try.underlying3 t8
  obtain ⟨a6, n6, k6, rfl, s6⟩ := lstR_of_trod (k := 3) Try.underlying45 (by kernel_rfl) As.row_len (by decide) (fun n cs x h _ => trodAs h) t6
  obtain ⟨a7, n7, k7, rfl, s7⟩ := lstR_of_trod (k := 3) Try.underlying39 (by kernel_rfl) Pm.row_len (by decide) (fun n cs x h _ => trodPm h) t7
  injection e0 with e0; injection e1 with e1; injection e2 with e2; injection e3 with e3; injection e4 with e4; injection e5 with e5; injection e8 with e8
  subst e0 e1 e2 e3 e4 e5 e8
  refine ⟨⟨x0, x1, x2, x3, x4, x5, a6, n6, k6, a7, n7, k7, x8⟩, ?_, FitsRc.of ⟨i64_of w0, i64_of w1, i64_of w2, i64_of w3, i64_of w4, i64_of w5, i64_of w8⟩ s6 s7⟩
  match cs, hlen with
  | [b0, b1, b2, b3, b4, b5, b6, b7, b8], _ =>
    simp at c0 c1 c2 c3 c4 c5 c6 c7 c8
    subst c0 c1 c2 c3 c4 c5 c6 c7 c8
    rfl
theorem open_T60 {r : Reach} {b0 : Nat} {v : Value} {d : DataW H} {p : List MemPlace}
    (hv : Value.okWide Try.prog w r b0 60 v) (h : DataW.Trod enc Try.prog w base (fun _ => true) held 60 v d p) : ∃ c : Rc, v = .agg (cellsRc c) ∧ FitsRc w c := by
  obtain ⟨cs, rfl, hsz⟩ := okWide_struct Try.underlying60 hv
  obtain ⟨fuel, hf⟩ := h
  obtain ⟨c, hc, hfit⟩ := trodRc hf
  refine ⟨c, ?_, hfit⟩
  have : cs.toList = c.row := hc
  rw [cellsRc, ← this]
def IsRcs (w : World) (a : Option Addr) (len cap : Nat) : Prop := IsLstR Rc.row 9 (FitsRc w) w a len cap
theorem open_S66 {r : Reach} {b0 : Nat} {v : Value} {d : DataW H} {p : List MemPlace} (hv : Value.okWide Try.prog w r b0 66 v) (h : DataW.Trod enc Try.prog w base (fun _ => true) held 66 v d p) : ∃ (a : Option Addr) (len cap : Nat), v = .slice a len cap ∧ IsRcs w a len cap :=
  open_lstR Try.underlying66 (by kernel_rfl) Rc.row_len (by decide) (fun n cs x h _ => trodRc h) hv h
end
theorem Blk.rangeRc {w : World} {b t : Nat} {v : Rc} (h : Blk w b t (cellsRc v)) : w.rangeAt b 0 v.row := fun j u hu => by
  rw [Nat.zero_add, h.cell j]
  simpa [cellsRc] using hu
end Go.Proofs.Ythnhpmeacboljaa
