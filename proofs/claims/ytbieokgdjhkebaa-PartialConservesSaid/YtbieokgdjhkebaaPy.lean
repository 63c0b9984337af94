/- A payment: its value, '==' on two, one in memory, a literal, the laws' arguments (written by mkrow.py). -/
import Derived.Test.YtbieokgdjhkebaaSeqs
import Derived.Test.YtbieokgdjhkebaaClass
import Derived.Test.YtbieokgdjhkebaaFirst
import Derived.Laws.Tables
import Derived.Laws.Build
namespace Go.Proofs.Ytbieokgdjhkebaa
open Go Go.ChangeShapes Go.WideShapes Go.RowKit Go.Deep
set_option linter.unusedVariables false
set_option linter.unusedSimpArgs false
set_option maxRecDepth 100000

structure Py where
  ix : Int
  am : Int
  fu : Bool
deriving DecidableEq, Inhabited

def Py.row (v : Py) : List Value := [.int .i64 v.ix, .int .u64 v.am, .bool v.fu]
def cellsPy (v : Py) : Array Value := v.row.toArray
def FitsPy (v : Py) : Prop := (Lit.int .i64 v.ix).wf = true ∧ (Lit.int .u64 v.am).wf = true
def pyZ : Py := ⟨0, 0, false⟩
theorem Py.row_len (v : Py) : v.row.length = 3 := rfl
theorem Py.row_one (v : Py) : ∀ u ∈ v.row, u.oneCell' = true := by
  intro u hu
  simp only [Py.row, List.mem_cons, List.not_mem_nil, or_false] at hu
  rcases hu with rfl | rfl | rfl <;> rfl
theorem cellsPy_one (v : Py) : (cellsPy v).all (·.oneCell') = true := by
  refine Array.all_eq_true_iff_forall_mem.2 (fun u hu => Py.row_one v u (by simpa [cellsPy] using hu))
theorem cellsPy_size (v : Py) : (cellsPy v).size = 3 := rfl
theorem infoPy : (Try.prog.info? 51).map (·.size) = some 3 := by kernel_rfl
theorem appPy : ∃ i, Try.prog.info? 51 = some i ∧ i.zero = some (.agg (cellsPy pyZ)) ∧ i.size = 3 ∧ i.bytes = 24 := by
  have h : (Try.prog.info? 51).map (fun i => (i.zero, i.size, i.bytes)) = some (some (.agg (cellsPy pyZ)), 3, 24) := by kernel_rfl
  cases hi : Try.prog.info? 51 with
  | none => rw [hi] at h; cases h
  | some i =>
    rw [hi] at h
    simp at h
    exact ⟨i, rfl, h.1, h.2.1, h.2.2⟩
theorem eqPy (x y : Py) (w : World) : (Op.equalIn 10000 51 (.agg (cellsPy x)) (.agg (cellsPy y))).run Try.prog w = .ok (decide (x = y)) w := by
  obtain ⟨r, hr, hr2⟩ := equal_struct_one (P := Try.prog) w (cellsPy x) (cellsPy y) Try.underlying51 (by kernel_rfl) (fun f hf => by
    simp only [List.mem_cons, List.not_mem_nil, or_false] at hf
    rcases hf with rfl | rfl | rfl
    · exact ⟨by decide, .inl ⟨.i64, x.ix, y.ix, Try.underlying3, rfl, rfl⟩⟩
    · exact ⟨by decide, .inl ⟨.u64, x.am, y.am, Try.underlying23, rfl, rfl⟩⟩
    · exact ⟨by decide, .inr (.inl ⟨x.fu, y.fu, Try.underlying4, rfl, rfl⟩)⟩)
  refine hr.trans ?_
  have : r = decide (x = y) := by
    rw [Bool.eq_iff_iff, hr2, decide_eq_true_eq]
    constructor
    · intro h
      simp only [List.mem_cons, List.not_mem_nil, or_false, forall_eq_or_imp, forall_eq] at h
      obtain ⟨h0, h1, h2⟩ := h
      obtain ⟨a0, a1, a2⟩ := x
      obtain ⟨b0, b1, b2⟩ := y
      simp [cellsPy, Py.row] at h0 h1 h2
      simp [*]
    · rintro rfl
      simp
  rw [this]
theorem exec_eqPy {a : Act} {dst : Option Tmp} {yt ty : TypeId} {x y : Operand} {pos : String} {after : Array Edge} {guard : Option (Nat × Bool)} {w : World} {p q : Py} {r : Bool} (hx : a.eval x = .agg (cellsPy p)) (hy : a.eval y = .agg (cellsPy q)) (hr : decide (p = q) = r) :
    (execOp a.eval { dst, op := .binOp .eql 51 x y yt, type := ty, pos, after, guard }).run Try.prog w = .ok (.value (.bool r)) w := by
  simp only [execOp, hx, hy, Sem.run_bind, run_eqGuard_agg w .eql _ x y _ _ (show Try.prog.eqGuardType Try.prog.depth 51 = false by kernel_rfl), Result.andThen_ok, run_eql_struct, eqPy p q w, Sem.run_pure, hr]
theorem exec_nePy {a : Act} {dst : Option Tmp} {yt ty : TypeId} {x y : Operand} {pos : String} {after : Array Edge} {guard : Option (Nat × Bool)} {w : World} {p q : Py} {r : Bool} (hx : a.eval x = .agg (cellsPy p)) (hy : a.eval y = .agg (cellsPy q)) (hr : (!decide (p = q)) = r) :
    (execOp a.eval { dst, op := .binOp .neq 51 x y yt, type := ty, pos, after, guard }).run Try.prog w = .ok (.value (.bool r)) w := by
  simp only [execOp, hx, hy, Sem.run_bind, run_eqGuard_agg w .neq _ x y _ _ (show Try.prog.eqGuardType Try.prog.depth 51 = false by kernel_rfl), Result.andThen_ok, run_neq_struct, eqPy p q w, Sem.run_pure, hr]
theorem q_eqPy {C : World → Prop} {Qa : Act → Prop} {ops : Array Oper} {rest : List Oper} {a : Act} {dst : Option Tmp} {yt ty : TypeId} {x y : Operand} {pos : String} {after : Array Edge} {guard : Option (Nat × Bool)} (p q : Py) (r : Bool) (hw : Region.wanted { dst, op := .binOp .eql 51 x y yt, type := ty, pos, after, guard } (yielded ops a.tmps) = true) (hx : a.eval x = .agg (cellsPy p)) (hy : a.eval y = .agg (cellsPy q)) (hr : decide (p = q) = r)
    (h : wpQuiet Try.prog ops C Qa rest (a.put dst (.bool r))) : wpQuiet Try.prog ops C Qa ({ dst, op := .binOp .eql 51 x y yt, type := ty, pos, after, guard } :: rest) a :=
  q_val (.bool r) hw (fun w => exec_eqPy hx hy hr) h
theorem q_nePy {C : World → Prop} {Qa : Act → Prop} {ops : Array Oper} {rest : List Oper} {a : Act} {dst : Option Tmp} {yt ty : TypeId} {x y : Operand} {pos : String} {after : Array Edge} {guard : Option (Nat × Bool)} (p q : Py) (r : Bool) (hw : Region.wanted { dst, op := .binOp .neq 51 x y yt, type := ty, pos, after, guard } (yielded ops a.tmps) = true) (hx : a.eval x = .agg (cellsPy p)) (hy : a.eval y = .agg (cellsPy q)) (hr : (!decide (p = q)) = r)
    (h : wpQuiet Try.prog ops C Qa rest (a.put dst (.bool r))) : wpQuiet Try.prog ops C Qa ({ dst, op := .binOp .neq 51 x y yt, type := ty, pos, after, guard } :: rest) a :=
  q_val (.bool r) hw (fun w => exec_nePy hx hy hr) h

/-! ### arms -/
section
variable {P : Program} {ops : Array Oper} {rest : List Oper} {op : Oper} {a : Act} {w : World} {Q : Exit → Act → World → Prop}
theorem wpList_load_Py (hgd : op.guard = none) (ty : TypeId) (x : Operand) (ho : op.op = .load ty x)
    (b o : Nat) (hx : a.eval x = .pointer (some ⟨b, o, none⟩)) (v : Py) (d : TypeDesc) (hc : w.rangeAt b o v.row)
    (hu : P.underlying ty = some d) (hd : d.isRow = true) (hi : (P.info? ty).map (·.size) = some 3)
    (h : wpList P ops Q rest (a.put op.dst (.agg (cellsPy v))) w) : wpList P ops Q (op :: rest) a w :=
  wpList_load_mid hgd ty x ho b o hx v.row d hc hu hd hi h
theorem q_load_Py {C : World → Prop} {Qa : Act → Prop} (ty : TypeId) (x : Operand) (b o : Nat) (v : Py) (d : TypeDesc) (hw : Region.wanted op (yielded ops a.tmps) = true) (ho : op.op = .load ty x) (hx : a.eval x = .pointer (some ⟨b, o, none⟩))
    (hC : ∀ w, C w → w.rangeAt b o v.row) (hu : P.underlying ty = some d) (hd : d.isRow = true) (hi : (P.info? ty).map (·.size) = some 3)
    (h : wpQuiet P ops C Qa rest (a.put op.dst (.agg (cellsPy v)))) : wpQuiet P ops C Qa (op :: rest) a := by
  unfold wpQuiet
  rw [if_pos hw]
  refine ⟨_, fun w hc => ?_, h⟩
  unfold Oper.quietAt execOp
  simp only [ho, hx, Instr.loadAt, Instr.sureAddr, Sem.run_bind, Sem.run_pure, Result.andThen_ok, run_loadVar_mid w b o ty v.row d (hC w hc) hu hd hi]
  exact ⟨rfl, rfl⟩
theorem wp_load_Py {K : Act → World → Prop} (ty : TypeId) (x : Operand) (ho : op.op = .load ty x)
    (b off : Nat) (hx : a.eval x = .pointer (some ⟨b, off, none⟩)) (v : Py) (d : TypeDesc) (hc : w.rangeAt b off v.row)
    (hu : P.underlying ty = some d) (hd : d.isRow = true) (hi : (P.info? ty).map (·.size) = some 3) (h : K (a.put op.dst (.agg (cellsPy v))) w) : op.wp P a w K Q := by
  unfold Oper.wp execOp
  simp only [ho, hx, Instr.loadAt, Instr.sureAddr, Sem.run_bind, Sem.run_pure, Result.andThen_ok, run_loadVar_mid w b off ty v.row d hc hu hd hi]
  exact h
theorem wpList_build_Py (hg : op.guard = none) (t : TypeId) (parts : Array (Nat × Operand)) (ho : op.op = .build t parts) (v : Py)
    (hf : P.built t (parts.map fun (i, x) => (i, a.eval x)).toList = some (cellsPy v)) (h : wpList P ops Q rest (a.put op.dst (.agg (cellsPy v))) w) : wpList P ops Q (op :: rest) a w :=
  wpList_build hg t parts ho (by rw [hf]; rfl) (by rw [hf]; exact h)
theorem q_build_Py {C : World → Prop} {Qa : Act → Prop} (t : TypeId) (parts : Array (Nat × Operand)) (hw : Region.wanted op (yielded ops a.tmps) = true) (ho : op.op = .build t parts) (v : Py) (hf : P.built t (parts.map fun (i, x) => (i, a.eval x)).toList = some (cellsPy v)) (h : wpQuiet P ops C Qa rest (a.put op.dst (.agg (cellsPy v)))) : wpQuiet P ops C Qa (op :: rest) a := by
  refine q_val (.agg (cellsPy v)) hw (fun w => ?_) h
  have e := run_build (P := P) w t (parts.map fun (i, x) => (i, a.eval x)) _ hf
  unfold execOp
  rw [ho]
  show ((Instr.build t (parts.map fun (i, x) => (i, a.eval x))) >>= fun r => pure (Next.value r)).run P w = _
  rw [Sem.run_bind, e]
  rfl
end
theorem Blk.rangePy {w : World} {b t : Nat} {v : Py} (h : Blk w b t (cellsPy v)) : w.rangeAt b 0 v.row := fun j u hu => by
  rw [Nat.zero_add, h.cell j]
  simpa [cellsPy] using hu
theorem run_onePy (x : Py) (w : World) : (Instr.buildSlice 42 1 #[(0, .agg (cellsPy x))]).run Try.prog w = .ok (.slice (some ⟨w.heap.size, 0, none⟩) 1 1) (w.alloc (.cells (cellsPy x) 51)) := by
  obtain ⟨i, hi, hz, hs, hby⟩ := appPy
  simp [Instr.buildSlice, run_underlying Try.underlying42, sizeOf, typeInfo, hi, hz, hs, Instr.fill, newRow, go_sem, cellsPy, Py.row]
theorem wp_onePy {o : Oper} {a : Act} {w : World} {K : Act → World → Prop} {Q : Exit → Act → World → Prop} (x : Operand) (p : Py) (ho : o.op = .buildSlice 42 1 #[(0, x)]) (hx : a.eval x = .agg (cellsPy p))
    (h : K (a.put o.dst (.slice (some ⟨w.heap.size, 0, none⟩) 1 1)) (w.alloc (.cells (cellsPy p) 51))) : o.wp Try.prog a w K Q := by
  unfold Oper.wp execOp
  simp only [ho, List.map_toArray, List.map_cons, List.map_nil, hx, Sem.run_bind, run_onePy p w, Result.andThen_ok, Sem.run_pure]
  exact h
theorem wpList_onePy {ops : Array Oper} {rest : List Oper} {o : Oper} {a : Act} {w : World} {Q : Exit → Act → World → Prop} (hgd : o.guard = none) (x : Operand) (p : Py) (ho : o.op = .buildSlice 42 1 #[(0, x)]) (hx : a.eval x = .agg (cellsPy p))
    (h : wpList Try.prog ops Q rest (a.put o.dst (.slice (some ⟨w.heap.size, 0, none⟩) 1 1)) (w.alloc (.cells (cellsPy p) 51))) : wpList Try.prog ops Q (o :: rest) a w :=
  wpList_plain hgd fun _ hK => wp_onePy x p ho hx (hK _ _ h)
end Go.Proofs.Ytbieokgdjhkebaa
