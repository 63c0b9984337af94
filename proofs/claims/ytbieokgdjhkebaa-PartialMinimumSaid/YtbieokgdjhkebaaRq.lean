/- A request: its value, '==' on two, one in memory, a literal, the laws' arguments (written by mkrow.py). -/
import Derived.Test.YtbieokgdjhkebaaSeqs
import Derived.Test.YtbieokgdjhkebaaClass
import Derived.Test.YtbieokgdjhkebaaFirst
import Derived.Laws.Tables
import Derived.Laws.Build
namespace Go.Proofs.Ytbieokgdjhkebaa
open Go Go.ChangeShapes Go.WideShapes Go.RowKit Go.Deep
set_option linter.unusedVariables false
set_option linter.unusedSimpArgs false
set_option maxRecDepth 100000

structure Rq where
  ix : Int
  am : Int
deriving DecidableEq, Inhabited

def Rq.row (v : Rq) : List Value := [.int .i64 v.ix, .int .u64 v.am]
def cellsRq (v : Rq) : Array Value := v.row.toArray
def FitsRq (v : Rq) : Prop := (Lit.int .i64 v.ix).wf = true ∧ (Lit.int .u64 v.am).wf = true
def rqZ : Rq := ⟨0, 0⟩
theorem Rq.row_len (v : Rq) : v.row.length = 2 := rfl
theorem Rq.row_one (v : Rq) : ∀ u ∈ v.row, u.oneCell' = true := by
  intro u hu
  simp only [Rq.row, List.mem_cons, List.not_mem_nil, or_false] at hu
  rcases hu with rfl | rfl <;> rfl
theorem cellsRq_one (v : Rq) : (cellsRq v).all (·.oneCell') = true := by
  refine Array.all_eq_true_iff_forall_mem.2 (fun u hu => Rq.row_one v u (by simpa [cellsRq] using hu))
theorem cellsRq_size (v : Rq) : (cellsRq v).size = 2 := rfl
theorem infoRq : (Try.prog.info? 29).map (·.size) = some 2 := by kernel_rfl
theorem appRq : ∃ i, Try.prog.info? 29 = some i ∧ i.zero = some (.agg (cellsRq rqZ)) ∧ i.size = 2 ∧ i.bytes = 16 := by
  have h : (Try.prog.info? 29).map (fun i => (i.zero, i.size, i.bytes)) = some (some (.agg (cellsRq rqZ)), 2, 16) := by kernel_rfl
  cases hi : Try.prog.info? 29 with
  | none => rw [hi] at h; cases h
  | some i =>
    rw [hi] at h
    simp at h
    exact ⟨i, rfl, h.1, h.2.1, h.2.2⟩
theorem eqRq (x y : Rq) (w : World) : (Op.equalIn 10000 29 (.agg (cellsRq x)) (.agg (cellsRq y))).run Try.prog w = .ok (decide (x = y)) w := by
  obtain ⟨r, hr, hr2⟩ := equal_struct_one (P := Try.prog) w (cellsRq x) (cellsRq y) Try.underlying29 (by kernel_rfl) (fun f hf => by
    simp only [List.mem_cons, List.not_mem_nil, or_false] at hf
    rcases hf with rfl | rfl
    · exact ⟨by decide, .inl ⟨.i64, x.ix, y.ix, Try.underlying3, rfl, rfl⟩⟩
    · exact ⟨by decide, .inl ⟨.u64, x.am, y.am, Try.underlying23, rfl, rfl⟩⟩)
  refine hr.trans ?_
  have : r = decide (x = y) := by
    rw [Bool.eq_iff_iff, hr2, decide_eq_true_eq]
    constructor
    · intro h
      simp only [List.mem_cons, List.not_mem_nil, or_false, forall_eq_or_imp, forall_eq] at h
      obtain ⟨h0, h1⟩ := h
      obtain ⟨a0, a1⟩ := x
      obtain ⟨b0, b1⟩ := y
      simp [cellsRq, Rq.row] at h0 h1
      simp [*]
    · rintro rfl
      simp
  rw [this]
theorem exec_eqRq {a : Act} {dst : Option Tmp} {yt ty : TypeId} {x y : Operand} {pos : String} {after : Array Edge} {guard : Option (Nat × Bool)} {w : World} {p q : Rq} {r : Bool} (hx : a.eval x = .agg (cellsRq p)) (hy : a.eval y = .agg (cellsRq q)) (hr : decide (p = q) = r) :
    (execOp a.eval { dst, op := .binOp .eql 29 x y yt, type := ty, pos, after, guard }).run Try.prog w = .ok (.value (.bool r)) w := by
  simp only [execOp, hx, hy, Sem.run_bind, run_eqGuard_agg w .eql _ x y _ _ (show Try.prog.eqGuardType Try.prog.depth 29 = false by kernel_rfl), Result.andThen_ok, run_eql_struct, eqRq p q w, Sem.run_pure, hr]
theorem exec_neRq {a : Act} {dst : Option Tmp} {yt ty : TypeId} {x y : Operand} {pos : String} {after : Array Edge} {guard : Option (Nat × Bool)} {w : World} {p q : Rq} {r : Bool} (hx : a.eval x = .agg (cellsRq p)) (hy : a.eval y = .agg (cellsRq q)) (hr : (!decide (p = q)) = r) :
    (execOp a.eval { dst, op := .binOp .neq 29 x y yt, type := ty, pos, after, guard }).run Try.prog w = .ok (.value (.bool r)) w := by
  simp only [execOp, hx, hy, Sem.run_bind, run_eqGuard_agg w .neq _ x y _ _ (show Try.prog.eqGuardType Try.prog.depth 29 = false by kernel_rfl), Result.andThen_ok, run_neq_struct, eqRq p q w, Sem.run_pure, hr]
theorem q_eqRq {C : World → Prop} {Qa : Act → Prop} {ops : Array Oper} {rest : List Oper} {a : Act} {dst : Option Tmp} {yt ty : TypeId} {x y : Operand} {pos : String} {after : Array Edge} {guard : Option (Nat × Bool)} (p q : Rq) (r : Bool) (hw : Region.wanted { dst, op := .binOp .eql 29 x y yt, type := ty, pos, after, guard } (yielded ops a.tmps) = true) (hx : a.eval x = .agg (cellsRq p)) (hy : a.eval y = .agg (cellsRq q)) (hr : decide (p = q) = r)
    (h : wpQuiet Try.prog ops C Qa rest (a.put dst (.bool r))) : wpQuiet Try.prog ops C Qa ({ dst, op := .binOp .eql 29 x y yt, type := ty, pos, after, guard } :: rest) a :=
  q_val (.bool r) hw (fun w => exec_eqRq hx hy hr) h
theorem q_neRq {C : World → Prop} {Qa : Act → Prop} {ops : Array Oper} {rest : List Oper} {a : Act} {dst : Option Tmp} {yt ty : TypeId} {x y : Operand} {pos : String} {after : Array Edge} {guard : Option (Nat × Bool)} (p q : Rq) (r : Bool) (hw : Region.wanted { dst, op := .binOp .neq 29 x y yt, type := ty, pos, after, guard } (yielded ops a.tmps) = true) (hx : a.eval x = .agg (cellsRq p)) (hy : a.eval y = .agg (cellsRq q)) (hr : (!decide (p = q)) = r)
    (h : wpQuiet Try.prog ops C Qa rest (a.put dst (.bool r))) : wpQuiet Try.prog ops C Qa ({ dst, op := .binOp .neq 29 x y yt, type := ty, pos, after, guard } :: rest) a :=
  q_val (.bool r) hw (fun w => exec_neRq hx hy hr) h
theorem infoRqF : (Try.prog.info? 25).map (·.size) = some 2 := by kernel_rfl
theorem appRqF : ∃ i, Try.prog.info? 25 = some i ∧ i.zero = some (.agg (cellsRq rqZ)) ∧ i.size = 2 ∧ i.bytes = 16 := by
  have h : (Try.prog.info? 25).map (fun i => (i.zero, i.size, i.bytes)) = some (some (.agg (cellsRq rqZ)), 2, 16) := by kernel_rfl
  cases hi : Try.prog.info? 25 with
  | none => rw [hi] at h; cases h
  | some i =>
    rw [hi] at h
    simp at h
    exact ⟨i, rfl, h.1, h.2.1, h.2.2⟩
theorem eqRqF (x y : Rq) (w : World) : (Op.equalIn 10000 25 (.agg (cellsRq x)) (.agg (cellsRq y))).run Try.prog w = .ok (decide (x = y)) w := by
  obtain ⟨r, hr, hr2⟩ := equal_struct_one (P := Try.prog) w (cellsRq x) (cellsRq y) Try.underlying25 (by kernel_rfl) (fun f hf => by
    simp only [List.mem_cons, List.not_mem_nil, or_false] at hf
    rcases hf with rfl | rfl
    · exact ⟨by decide, .inl ⟨.i64, x.ix, y.ix, Try.underlying3, rfl, rfl⟩⟩
    · exact ⟨by decide, .inl ⟨.u64, x.am, y.am, Try.underlying23, rfl, rfl⟩⟩)
  refine hr.trans ?_
  have : r = decide (x = y) := by
    rw [Bool.eq_iff_iff, hr2, decide_eq_true_eq]
    constructor
    · intro h
      simp only [List.mem_cons, List.not_mem_nil, or_false, forall_eq_or_imp, forall_eq] at h
      obtain ⟨h0, h1⟩ := h
      obtain ⟨a0, a1⟩ := x
      obtain ⟨b0, b1⟩ := y
      simp [cellsRq, Rq.row] at h0 h1
      simp [*]
    · rintro rfl
      simp
  rw [this]
theorem exec_eqRqF {a : Act} {dst : Option Tmp} {yt ty : TypeId} {x y : Operand} {pos : String} {after : Array Edge} {guard : Option (Nat × Bool)} {w : World} {p q : Rq} {r : Bool} (hx : a.eval x = .agg (cellsRq p)) (hy : a.eval y = .agg (cellsRq q)) (hr : decide (p = q) = r) :
    (execOp a.eval { dst, op := .binOp .eql 25 x y yt, type := ty, pos, after, guard }).run Try.prog w = .ok (.value (.bool r)) w := by
  simp only [execOp, hx, hy, Sem.run_bind, run_eqGuard_agg w .eql _ x y _ _ (show Try.prog.eqGuardType Try.prog.depth 25 = false by kernel_rfl), Result.andThen_ok, run_eql_struct, eqRqF p q w, Sem.run_pure, hr]
theorem exec_neRqF {a : Act} {dst : Option Tmp} {yt ty : TypeId} {x y : Operand} {pos : String} {after : Array Edge} {guard : Option (Nat × Bool)} {w : World} {p q : Rq} {r : Bool} (hx : a.eval x = .agg (cellsRq p)) (hy : a.eval y = .agg (cellsRq q)) (hr : (!decide (p = q)) = r) :
    (execOp a.eval { dst, op := .binOp .neq 25 x y yt, type := ty, pos, after, guard }).run Try.prog w = .ok (.value (.bool r)) w := by
  simp only [execOp, hx, hy, Sem.run_bind, run_eqGuard_agg w .neq _ x y _ _ (show Try.prog.eqGuardType Try.prog.depth 25 = false by kernel_rfl), Result.andThen_ok, run_neq_struct, eqRqF p q w, Sem.run_pure, hr]
theorem q_eqRqF {C : World → Prop} {Qa : Act → Prop} {ops : Array Oper} {rest : List Oper} {a : Act} {dst : Option Tmp} {yt ty : TypeId} {x y : Operand} {pos : String} {after : Array Edge} {guard : Option (Nat × Bool)} (p q : Rq) (r : Bool) (hw : Region.wanted { dst, op := .binOp .eql 25 x y yt, type := ty, pos, after, guard } (yielded ops a.tmps) = true) (hx : a.eval x = .agg (cellsRq p)) (hy : a.eval y = .agg (cellsRq q)) (hr : decide (p = q) = r)
    (h : wpQuiet Try.prog ops C Qa rest (a.put dst (.bool r))) : wpQuiet Try.prog ops C Qa ({ dst, op := .binOp .eql 25 x y yt, type := ty, pos, after, guard } :: rest) a :=
  q_val (.bool r) hw (fun w => exec_eqRqF hx hy hr) h
theorem q_neRqF {C : World → Prop} {Qa : Act → Prop} {ops : Array Oper} {rest : List Oper} {a : Act} {dst : Option Tmp} {yt ty : TypeId} {x y : Operand} {pos : String} {after : Array Edge} {guard : Option (Nat × Bool)} (p q : Rq) (r : Bool) (hw : Region.wanted { dst, op := .binOp .neq 25 x y yt, type := ty, pos, after, guard } (yielded ops a.tmps) = true) (hx : a.eval x = .agg (cellsRq p)) (hy : a.eval y = .agg (cellsRq q)) (hr : (!decide (p = q)) = r)
    (h : wpQuiet Try.prog ops C Qa rest (a.put dst (.bool r))) : wpQuiet Try.prog ops C Qa ({ dst, op := .binOp .neq 25 x y yt, type := ty, pos, after, guard } :: rest) a :=
  q_val (.bool r) hw (fun w => exec_neRqF hx hy hr) h

/-! ### arms -/
section
variable {P : Program} {ops : Array Oper} {rest : List Oper} {op : Oper} {a : Act} {w : World} {Q : Exit → Act → World → Prop}
theorem wpList_load_Rq (hgd : op.guard = none) (ty : TypeId) (x : Operand) (ho : op.op = .load ty x)
    (b o : Nat) (hx : a.eval x = .pointer (some ⟨b, o, none⟩)) (v : Rq) (d : TypeDesc) (hc : w.rangeAt b o v.row)
    (hu : P.underlying ty = some d) (hd : d.isRow = true) (hi : (P.info? ty).map (·.size) = some 2)
    (h : wpList P ops Q rest (a.put op.dst (.agg (cellsRq v))) w) : wpList P ops Q (op :: rest) a w :=
  wpList_load_mid hgd ty x ho b o hx v.row d hc hu hd hi h
theorem q_load_Rq {C : World → Prop} {Qa : Act → Prop} (ty : TypeId) (x : Operand) (b o : Nat) (v : Rq) (d : TypeDesc) (hw : Region.wanted op (yielded ops a.tmps) = true) (ho : op.op = .load ty x) (hx : a.eval x = .pointer (some ⟨b, o, none⟩))
    (hC : ∀ w, C w → w.rangeAt b o v.row) (hu : P.underlying ty = some d) (hd : d.isRow = true) (hi : (P.info? ty).map (·.size) = some 2)
    (h : wpQuiet P ops C Qa rest (a.put op.dst (.agg (cellsRq v)))) : wpQuiet P ops C Qa (op :: rest) a := by
  unfold wpQuiet
  rw [if_pos hw]
  refine ⟨_, fun w hc => ?_, h⟩
  unfold Oper.quietAt execOp
  simp only [ho, hx, Instr.loadAt, Instr.sureAddr, Sem.run_bind, Sem.run_pure, Result.andThen_ok, run_loadVar_mid w b o ty v.row d (hC w hc) hu hd hi]
  exact ⟨rfl, rfl⟩
theorem wp_load_Rq {K : Act → World → Prop} (ty : TypeId) (x : Operand) (ho : op.op = .load ty x)
    (b off : Nat) (hx : a.eval x = .pointer (some ⟨b, off, none⟩)) (v : Rq) (d : TypeDesc) (hc : w.rangeAt b off v.row)
    (hu : P.underlying ty = some d) (hd : d.isRow = true) (hi : (P.info? ty).map (·.size) = some 2) (h : K (a.put op.dst (.agg (cellsRq v))) w) : op.wp P a w K Q := by
  unfold Oper.wp execOp
  simp only [ho, hx, Instr.loadAt, Instr.sureAddr, Sem.run_bind, Sem.run_pure, Result.andThen_ok, run_loadVar_mid w b off ty v.row d hc hu hd hi]
  exact h
theorem wpList_build_Rq (hg : op.guard = none) (t : TypeId) (parts : Array (Nat × Operand)) (ho : op.op = .build t parts) (v : Rq)
    (hf : P.built t (parts.map fun (i, x) => (i, a.eval x)).toList = some (cellsRq v)) (h : wpList P ops Q rest (a.put op.dst (.agg (cellsRq v))) w) : wpList P ops Q (op :: rest) a w :=
  wpList_build hg t parts ho (by rw [hf]; rfl) (by rw [hf]; exact h)
theorem q_build_Rq {C : World → Prop} {Qa : Act → Prop} (t : TypeId) (parts : Array (Nat × Operand)) (hw : Region.wanted op (yielded ops a.tmps) = true) (ho : op.op = .build t parts) (v : Rq) (hf : P.built t (parts.map fun (i, x) => (i, a.eval x)).toList = some (cellsRq v)) (h : wpQuiet P ops C Qa rest (a.put op.dst (.agg (cellsRq v)))) : wpQuiet P ops C Qa (op :: rest) a := by
  refine q_val (.agg (cellsRq v)) hw (fun w => ?_) h
  have e := run_build (P := P) w t (parts.map fun (i, x) => (i, a.eval x)) _ hf
  unfold execOp
  rw [ho]
  show ((Instr.build t (parts.map fun (i, x) => (i, a.eval x))) >>= fun r => pure (Next.value r)).run P w = _
  rw [Sem.run_bind, e]
  rfl
end
theorem Blk.rangeRq {w : World} {b t : Nat} {v : Rq} (h : Blk w b t (cellsRq v)) : w.rangeAt b 0 v.row := fun j u hu => by
  rw [Nat.zero_add, h.cell j]
  simpa [cellsRq] using hu
theorem run_oneRq (x : Rq) (w : World) : (Instr.buildSlice 45 1 #[(0, .agg (cellsRq x))]).run Try.prog w = .ok (.slice (some ⟨w.heap.size, 0, none⟩) 1 1) (w.alloc (.cells (cellsRq x) 29)) := by
  obtain ⟨i, hi, hz, hs, hby⟩ := appRq
  simp [Instr.buildSlice, run_underlying Try.underlying45, sizeOf, typeInfo, hi, hz, hs, Instr.fill, newRow, go_sem, cellsRq, Rq.row]
theorem wp_oneRq {o : Oper} {a : Act} {w : World} {K : Act → World → Prop} {Q : Exit → Act → World → Prop} (x : Operand) (p : Rq) (ho : o.op = .buildSlice 45 1 #[(0, x)]) (hx : a.eval x = .agg (cellsRq p))
    (h : K (a.put o.dst (.slice (some ⟨w.heap.size, 0, none⟩) 1 1)) (w.alloc (.cells (cellsRq p) 29))) : o.wp Try.prog a w K Q := by
  unfold Oper.wp execOp
  simp only [ho, List.map_toArray, List.map_cons, List.map_nil, hx, Sem.run_bind, run_oneRq p w, Result.andThen_ok, Sem.run_pure]
  exact h
theorem wpList_oneRq {ops : Array Oper} {rest : List Oper} {o : Oper} {a : Act} {w : World} {Q : Exit → Act → World → Prop} (hgd : o.guard = none) (x : Operand) (p : Rq) (ho : o.op = .buildSlice 45 1 #[(0, x)]) (hx : a.eval x = .agg (cellsRq p))
    (h : wpList Try.prog ops Q rest (a.put o.dst (.slice (some ⟨w.heap.size, 0, none⟩) 1 1)) (w.alloc (.cells (cellsRq p) 29))) : wpList Try.prog ops Q (o :: rest) a w :=
  wpList_plain hgd fun _ hK => wp_oneRq x p ho hx (hK _ _ h)
theorem run_oneRqF (x : Rq) (w : World) : (Instr.buildSlice 41 1 #[(0, .agg (cellsRq x))]).run Try.prog w = .ok (.slice (some ⟨w.heap.size, 0, none⟩) 1 1) (w.alloc (.cells (cellsRq x) 25)) := by
  obtain ⟨i, hi, hz, hs, hby⟩ := appRqF
  simp [Instr.buildSlice, run_underlying Try.underlying41, sizeOf, typeInfo, hi, hz, hs, Instr.fill, newRow, go_sem, cellsRq, Rq.row]
theorem wp_oneRqF {o : Oper} {a : Act} {w : World} {K : Act → World → Prop} {Q : Exit → Act → World → Prop} (x : Operand) (p : Rq) (ho : o.op = .buildSlice 41 1 #[(0, x)]) (hx : a.eval x = .agg (cellsRq p))
    (h : K (a.put o.dst (.slice (some ⟨w.heap.size, 0, none⟩) 1 1)) (w.alloc (.cells (cellsRq p) 25))) : o.wp Try.prog a w K Q := by
  unfold Oper.wp execOp
  simp only [ho, List.map_toArray, List.map_cons, List.map_nil, hx, Sem.run_bind, run_oneRqF p w, Result.andThen_ok, Sem.run_pure]
  exact h
theorem wpList_oneRqF {ops : Array Oper} {rest : List Oper} {o : Oper} {a : Act} {w : World} {Q : Exit → Act → World → Prop} (hgd : o.guard = none) (x : Operand) (p : Rq) (ho : o.op = .buildSlice 41 1 #[(0, x)]) (hx : a.eval x = .agg (cellsRq p))
    (h : wpList Try.prog ops Q rest (a.put o.dst (.slice (some ⟨w.heap.size, 0, none⟩) 1 1)) (w.alloc (.cells (cellsRq p) 25))) : wpList Try.prog ops Q (o :: rest) a w :=
  wpList_plain hgd fun _ hK => wp_oneRqF x p ho hx (hK _ _ h)

/-! ### the laws' arguments -/
section
variable {H : Type} {enc : TypeId × Value → H} {w : World} {base : Nat} {spare : Nat → Bool} {held : Bool}
theorem trodRqF {n : Nat} {cs : List Value} {x : DataW H × List MemPlace} (h : DataW.trod enc Try.prog w base spare held n 25 cs = some x) : ∃ v : Rq, cs = v.row ∧ FitsRq v := by
  obtain ⟨ys, n', hn', hy, hlen, hyl, hf⟩ := DataW.trod_struct Try.underlying25 h
  have hlen : cs.length = 2 := hlen.trans (by kernel_rfl)
  have hyl : ys.length = 2 := hyl
  have get : ∀ j (f : Field), j < 2 → f.offset = j → Try.prog.cellsOf f.type = 1 → DataW.trod enc Try.prog w base spare held n' f.type ((cs.drop f.offset).take (Try.prog.cellsOf f.type)) = ys[j]? → ∃ v y, cs[j]? = some v ∧ DataW.trod enc Try.prog w base spare held n' f.type [v] = some y := by
    intro j f hj ho hc ht
    rw [ho, hc, List.drop_eq_getElem_cons (by omega), List.getElem?_eq_getElem (by omega)] at ht
    exact ⟨_, _, List.getElem?_eq_getElem (by omega), ht⟩
  obtain ⟨v0, y0, c0, t0⟩ := get 0 _ (by omega) rfl (by kernel_rfl) (hf 0 _ rfl)
  obtain ⟨v1, y1, c1, t1⟩ := get 1 _ (by omega) rfl (by kernel_rfl) (hf 1 _ rfl)
  obtain ⟨x0, e0, _, w0⟩ := DataW.trod_int Try.underlying3 t0
  obtain ⟨x1, e1, _, w1⟩ := DataW.trod_int Try.underlying23 t1
  injection e0 with e0; injection e1 with e1
  subst e0 e1
  refine ⟨⟨x0, x1⟩, ?_, w0, w1⟩
  match cs, hlen with
  | [a0, a1], _ =>
    simp at c0 c1
    subst c0 c1
    rfl
theorem open_T25 {r : Reach} {b0 : Nat} {v : Value} {d : DataW H} {p : List MemPlace}
    (hv : Value.okWide Try.prog w r b0 25 v) (h : DataW.Trod enc Try.prog w base spare held 25 v d p) : ∃ c : Rq, v = .agg (cellsRq c) ∧ FitsRq c := by
  obtain ⟨cs, rfl, hsz⟩ := okWide_struct Try.underlying25 hv
  obtain ⟨fuel, hf⟩ := h
  obtain ⟨c, hc, hfit⟩ := trodRqF hf
  refine ⟨c, ?_, hfit⟩
  have : cs.toList = c.row := hc
  rw [cellsRq, ← this]
def IsRqs (w : World) (a : Option Addr) (len cap : Nat) : Prop := IsLstR Rq.row 2 FitsRq w a len cap
theorem open_S41 {r : Reach} {b0 : Nat} {v : Value} {d : DataW H} {p : List MemPlace} (hv : Value.okWide Try.prog w r b0 41 v) (h : DataW.Trod enc Try.prog w base (fun _ => true) held 41 v d p) : ∃ (a : Option Addr) (len cap : Nat), v = .slice a len cap ∧ IsRqs w a len cap :=
  open_lstR Try.underlying41 (by kernel_rfl) Rq.row_len (by decide) (fun n cs x h _ => trodRqF h) hv h
end
end Go.Proofs.Ytbieokgdjhkebaa
