/- A payment: its value, '==' on two, one in memory, a literal, the laws' arguments (written by mkrow.py). -/
import Derived.Test.YthnhpmeacboljaaSeqs
import Derived.Test.YthnhpmeacboljaaClass
import Derived.Test.YthnhpmeacboljaaFirst
import Derived.Laws.Tables
import Derived.Laws.Build
namespace Go.Proofs.Ythnhpmeacboljaa
open Go Go.ChangeShapes Go.WideShapes Go.RowKit Go.Deep
set_option linter.unusedVariables false
set_option linter.unusedSimpArgs false
set_option maxRecDepth 100000

structure Pm where
  ix : Int
  am : Int
  fl : Bool
deriving DecidableEq, Inhabited

def Pm.row (v : Pm) : List Value := [.int .i64 v.ix, .int .u64 v.am, .bool v.fl]
def cellsPm (v : Pm) : Array Value := v.row.toArray
def FitsPm (v : Pm) : Prop := (Lit.int .i64 v.ix).wf = true ∧ (Lit.int .u64 v.am).wf = true
def pmZ : Pm := ⟨0, 0, false⟩
theorem Pm.row_len (v : Pm) : v.row.length = 3 := rfl
theorem Pm.row_one (v : Pm) : ∀ u ∈ v.row, u.oneCell' = true := by
  intro u hu
  simp only [Pm.row, List.mem_cons, List.not_mem_nil, or_false] at hu
  rcases hu with rfl | rfl | rfl <;> rfl
theorem cellsPm_one (v : Pm) : (cellsPm v).all (·.oneCell') = true := by
  refine Array.all_eq_true_iff_forall_mem.2 (fun u hu => Pm.row_one v u (by simpa [cellsPm] using hu))
theorem cellsPm_size (v : Pm) : (cellsPm v).size = 3 := rfl
theorem infoPm : (Try.prog.info? 41).map (·.size) = some 3 := by kernel_rfl
theorem appPm : ∃ i, Try.prog.info? 41 = some i ∧ i.zero = some (.agg (cellsPm pmZ)) ∧ i.size = 3 ∧ i.bytes = 24 := by
  have h : (Try.prog.info? 41).map (fun i => (i.zero, i.size, i.bytes)) = some (some (.agg (cellsPm pmZ)), 3, 24) := by kernel_rfl
  cases hi : Try.prog.info? 41 with
  | none => rw [hi] at h; cases h
  | some i =>
    rw [hi] at h
    simp at h
    exact ⟨i, rfl, h.1, h.2.1, h.2.2⟩
theorem eqPm (x y : Pm) (w : World) : (Op.equalIn 10000 41 (.agg (cellsPm x)) (.agg (cellsPm y))).run Try.prog w = .ok (decide (x = y)) w := by
  obtain ⟨r, hr, hr2⟩ := equal_struct_one (P := Try.prog) w (cellsPm x) (cellsPm y) Try.underlying41 (by kernel_rfl) (fun f hf => by
    simp only [List.mem_cons, List.not_mem_nil, or_false] at hf
    rcases hf with rfl | rfl | rfl
    · exact ⟨by decide, .inl ⟨.i64, x.ix, y.ix, Try.underlying3, rfl, rfl⟩⟩
    · exact ⟨by decide, .inl ⟨.u64, x.am, y.am, Try.underlying28, rfl, rfl⟩⟩
    · exact ⟨by decide, .inr (.inl ⟨x.fl, y.fl, Try.underlying4, rfl, rfl⟩)⟩)
  refine hr.trans ?_
  have : r = decide (x = y) := by
    rw [Bool.eq_iff_iff, hr2, decide_eq_true_eq]
    constructor
    · intro h
      simp only [List.mem_cons, List.not_mem_nil, or_false, forall_eq_or_imp, forall_eq] at h
      obtain ⟨h0, h1, h2⟩ := h
      obtain ⟨a0, a1, a2⟩ := x
      obtain ⟨b0, b1, b2⟩ := y
      simp [cellsPm, Pm.row] at h0 h1 h2
      simp [*]
    · rintro rfl
      simp
  rw [this]
theorem exec_eqPm {a : Act} {dst : Option Tmp} {yt ty : TypeId} {x y : Operand} {pos : String} {after : Array Edge} {guard : Option (Nat × Bool)} {w : World} {p q : Pm} {r : Bool} (hx : a.eval x = .agg (cellsPm p)) (hy : a.eval y = .agg (cellsPm q)) (hr : decide (p = q) = r) :
    (execOp a.eval { dst, op := .binOp .eql 41 x y yt, type := ty, pos, after, guard }).run Try.prog w = .ok (.value (.bool r)) w := by
  simp only [execOp, hx, hy, Sem.run_bind, run_eqGuard_agg w .eql _ x y _ _ (show Try.prog.eqGuardType Try.prog.depth 41 = false by kernel_rfl), Result.andThen_ok, run_eql_struct, eqPm p q w, Sem.run_pure, hr]
theorem exec_nePm {a : Act} {dst : Option Tmp} {yt ty : TypeId} {x y : Operand} {pos : String} {after : Array Edge} {guard : Option (Nat × Bool)} {w : World} {p q : Pm} {r : Bool} (hx : a.eval x = .agg (cellsPm p)) (hy : a.eval y = .agg (cellsPm q)) (hr : (!decide (p = q)) = r) :
    (execOp a.eval { dst, op := .binOp .neq 41 x y yt, type := ty, pos, after, guard }).run Try.prog w = .ok (.value (.bool r)) w := by
  simp only [execOp, hx, hy, Sem.run_bind, run_eqGuard_agg w .neq _ x y _ _ (show Try.prog.eqGuardType Try.prog.depth 41 = false by kernel_rfl), Result.andThen_ok, run_neq_struct, eqPm p q w, Sem.run_pure, hr]
theorem q_eqPm {C : World → Prop} {Qa : Act → Prop} {ops : Array Oper} {rest : List Oper} {a : Act} {dst : Option Tmp} {yt ty : TypeId} {x y : Operand} {pos : String} {after : Array Edge} {guard : Option (Nat × Bool)} (p q : Pm) (r : Bool) (hw : Region.wanted { dst, op := .binOp .eql 41 x y yt, type := ty, pos, after, guard } (yielded ops a.tmps) = true) (hx : a.eval x = .agg (cellsPm p)) (hy : a.eval y = .agg (cellsPm q)) (hr : decide (p = q) = r)
    (h : wpQuiet Try.prog ops C Qa rest (a.put dst (.bool r))) : wpQuiet Try.prog ops C Qa ({ dst, op := .binOp .eql 41 x y yt, type := ty, pos, after, guard } :: rest) a :=
  q_val (.bool r) hw (fun w => exec_eqPm hx hy hr) h
theorem q_nePm {C : World → Prop} {Qa : Act → Prop} {ops : Array Oper} {rest : List Oper} {a : Act} {dst : Option Tmp} {yt ty : TypeId} {x y : Operand} {pos : String} {after : Array Edge} {guard : Option (Nat × Bool)} (p q : Pm) (r : Bool) (hw : Region.wanted { dst, op := .binOp .neq 41 x y yt, type := ty, pos, after, guard } (yielded ops a.tmps) = true) (hx : a.eval x = .agg (cellsPm p)) (hy : a.eval y = .agg (cellsPm q)) (hr : (!decide (p = q)) = r)
    (h : wpQuiet Try.prog ops C Qa rest (a.put dst (.bool r))) : wpQuiet Try.prog ops C Qa ({ dst, op := .binOp .neq 41 x y yt, type := ty, pos, after, guard } :: rest) a :=
  q_val (.bool r) hw (fun w => exec_nePm hx hy hr) h

/-! ### arms -/
section
variable {P : Program} {ops : Array Oper} {rest : List Oper} {op : Oper} {a : Act} {w : World} {Q : Exit → Act → World → Prop}
theorem wpList_load_Pm (hgd : op.guard = none) (ty : TypeId) (x : Operand) (ho : op.op = .load ty x)
    (b o : Nat) (hx : a.eval x = .pointer (some ⟨b, o, none⟩)) (v : Pm) (d : TypeDesc) (hc : w.rangeAt b o v.row)
    (hu : P.underlying ty = some d) (hd : d.isRow = true) (hi : (P.info? ty).map (·.size) = some 3)
    (h : wpList P ops Q rest (a.put op.dst (.agg (cellsPm v))) w) : wpList P ops Q (op :: rest) a w :=
  wpList_load_mid hgd ty x ho b o hx v.row d hc hu hd hi h
theorem q_load_Pm {C : World → Prop} {Qa : Act → Prop} (ty : TypeId) (x : Operand) (b o : Nat) (v : Pm) (d : TypeDesc) (hw : Region.wanted op (yielded ops a.tmps) = true) (ho : op.op = .load ty x) (hx : a.eval x = .pointer (some ⟨b, o, none⟩))
    (hC : ∀ w, C w → w.rangeAt b o v.row) (hu : P.underlying ty = some d) (hd : d.isRow = true) (hi : (P.info? ty).map (·.size) = some 3)
    (h : wpQuiet P ops C Qa rest (a.put op.dst (.agg (cellsPm v)))) : wpQuiet P ops C Qa (op :: rest) a := by
  unfold wpQuiet
  rw [if_pos hw]
  refine ⟨_, fun w hc => ?_, h⟩
  unfold Oper.quietAt execOp
  simp only [ho, hx, Instr.loadAt, Instr.sureAddr, Sem.run_bind, Sem.run_pure, Result.andThen_ok, run_loadVar_mid w b o ty v.row d (hC w hc) hu hd hi]
  exact ⟨rfl, rfl⟩
theorem wp_load_Pm {K : Act → World → Prop} (ty : TypeId) (x : Operand) (ho : op.op = .load ty x)
    (b off : Nat) (hx : a.eval x = .pointer (some ⟨b, off, none⟩)) (v : Pm) (d : TypeDesc) (hc : w.rangeAt b off v.row)
    (hu : P.underlying ty = some d) (hd : d.isRow = true) (hi : (P.info? ty).map (·.size) = some 3) (h : K (a.put op.dst (.agg (cellsPm v))) w) : op.wp P a w K Q := by
  unfold Oper.wp execOp
  simp only [ho, hx, Instr.loadAt, Instr.sureAddr, Sem.run_bind, Sem.run_pure, Result.andThen_ok, run_loadVar_mid w b off ty v.row d hc hu hd hi]
  exact h
theorem wpList_build_Pm (hg : op.guard = none) (t : TypeId) (parts : Array (Nat × Operand)) (ho : op.op = .build t parts) (v : Pm)
    (hf : P.built t (parts.map fun (i, x) => (i, a.eval x)).toList = some (cellsPm v)) (h : wpList P ops Q rest (a.put op.dst (.agg (cellsPm v))) w) : wpList P ops Q (op :: rest) a w :=
  wpList_build hg t parts ho (by rw [hf]; rfl) (by rw [hf]; exact h)
theorem q_build_Pm {C : World → Prop} {Qa : Act → Prop} (t : TypeId) (parts : Array (Nat × Operand)) (hw : Region.wanted op (yielded ops a.tmps) = true) (ho : op.op = .build t parts) (v : Pm) (hf : P.built t (parts.map fun (i, x) => (i, a.eval x)).toList = some (cellsPm v)) (h : wpQuiet P ops C Qa rest (a.put op.dst (.agg (cellsPm v)))) : wpQuiet P ops C Qa (op :: rest) a := by
  refine q_val (.agg (cellsPm v)) hw (fun w => ?_) h
  have e := run_build (P := P) w t (parts.map fun (i, x) => (i, a.eval x)) _ hf
  unfold execOp
  rw [ho]
  show ((Instr.build t (parts.map fun (i, x) => (i, a.eval x))) >>= fun r => pure (Next.value r)).run P w = _
  rw [Sem.run_bind, e]
  rfl
end
theorem Blk.rangePm {w : World} {b t : Nat} {v : Pm} (h : Blk w b t (cellsPm v)) : w.rangeAt b 0 v.row := fun j u hu => by
  rw [Nat.zero_add, h.cell j]
  simpa [cellsPm] using hu
theorem run_onePm (x : Pm) (w : World) : (Instr.buildSlice 39 1 #[(0, .agg (cellsPm x))]).run Try.prog w = .ok (.slice (some ⟨w.heap.size, 0, none⟩) 1 1) (w.alloc (.cells (cellsPm x) 41)) := by
  obtain ⟨i, hi, hz, hs, hby⟩ := appPm
  simp [Instr.buildSlice, run_underlying Try.underlying39, sizeOf, typeInfo, hi, hz, hs, Instr.fill, newRow, go_sem, cellsPm, Pm.row]
theorem wp_onePm {o : Oper} {a : Act} {w : World} {K : Act → World → Prop} {Q : Exit → Act → World → Prop} (x : Operand) (p : Pm) (ho : o.op = .buildSlice 39 1 #[(0, x)]) (hx : a.eval x = .agg (cellsPm p))
    (h : K (a.put o.dst (.slice (some ⟨w.heap.size, 0, none⟩) 1 1)) (w.alloc (.cells (cellsPm p) 41))) : o.wp Try.prog a w K Q := by
  unfold Oper.wp execOp
  simp only [ho, List.map_toArray, List.map_cons, List.map_nil, hx, Sem.run_bind, run_onePm p w, Result.andThen_ok, Sem.run_pure]
  exact h
theorem wpList_onePm {ops : Array Oper} {rest : List Oper} {o : Oper} {a : Act} {w : World} {Q : Exit → Act → World → Prop} (hgd : o.guard = none) (x : Operand) (p : Pm) (ho : o.op = .buildSlice 39 1 #[(0, x)]) (hx : a.eval x = .agg (cellsPm p))
    (h : wpList Try.prog ops Q rest (a.put o.dst (.slice (some ⟨w.heap.size, 0, none⟩) 1 1)) (w.alloc (.cells (cellsPm p) 41))) : wpList Try.prog ops Q (o :: rest) a w :=
  wpList_plain hgd fun _ hK => wp_onePm x p ho hx (hK _ _ h)

/-! ### the laws' arguments -/
section
variable {H : Type} {enc : TypeId × Value → H} {w : World} {base : Nat} {spare : Nat → Bool} {held : Bool}
theorem trodPm {n : Nat} {cs : List Value} {x : DataW H × List MemPlace} (h : DataW.trod enc Try.prog w base spare held n 41 cs = some x) : ∃ v : Pm, cs = v.row ∧ FitsPm v := by
  obtain ⟨ys, n', hn', hy, hlen, hyl, hf⟩ := DataW.trod_struct Try.underlying41 h
  have hlen : cs.length = 3 := hlen.trans (by kernel_rfl)
  have hyl : ys.length = 3 := hyl
  have get : ∀ j (f : Field), j < 3 → f.offset = j → Try.prog.cellsOf f.type = 1 → DataW.trod enc Try.prog w base spare held n' f.type ((cs.drop f.offset).take (Try.prog.cellsOf f.type)) = ys[j]? → ∃ v y, cs[j]? = some v ∧ DataW.trod enc Try.prog w base spare held n' f.type [v] = some y := by
    intro j f hj ho hc ht
    rw [ho, hc, List.drop_eq_getElem_cons (by omega), List.getElem?_eq_getElem (by omega)] at ht
    exact ⟨_, _, List.getElem?_eq_getElem (by omega), ht⟩
  obtain ⟨v0, y0, c0, t0⟩ := get 0 _ (by omega) rfl (by kernel_rfl) (hf 0 _ rfl)
  obtain ⟨v1, y1, c1, t1⟩ := get 1 _ (by omega) rfl (by kernel_rfl) (hf 1 _ rfl)
  obtain ⟨v2, y2, c2, t2⟩ := get 2 _ (by omega) rfl (by kernel_rfl) (hf 2 _ rfl)
  obtain ⟨x0, e0, _, w0⟩ := DataW.trod_int Try.underlying3 t0
  obtain ⟨x1, e1, _, w1⟩ := DataW.trod_int Try.underlying28 t1
  obtain ⟨x2, e2, _⟩ := DataW.trod_bool Try.underlying4 t2
  injection e0 with e0; injection e1 with e1; injection e2 with e2
  subst e0 e1 e2
  refine ⟨⟨x0, x1, x2⟩, ?_, w0, w1⟩
  match cs, hlen with
  | [a0, a1, a2], _ =>
    simp at c0 c1 c2
    subst c0 c1 c2
    rfl
def IsPms (w : World) (a : Option Addr) (len cap : Nat) : Prop := IsLstR Pm.row 3 FitsPm w a len cap
theorem open_S39 {r : Reach} {b0 : Nat} {v : Value} {d : DataW H} {p : List MemPlace} (hv : Value.okWide Try.prog w r b0 39 v) (h : DataW.Trod enc Try.prog w base (fun _ => true) held 39 v d p) : ∃ (a : Option Addr) (len cap : Nat), v = .slice a len cap ∧ IsPms w a len cap :=
  open_lstR Try.underlying39 (by kernel_rfl) Pm.row_len (by decide) (fun n cs x h _ => trodPm h) hv h
end
end Go.Proofs.Ythnhpmeacboljaa
