/- An exit: its value, '==' on two, one in memory, a literal, the laws' arguments (written by mkrow.py). -/
import Derived.Test.YthnhpmeacboljaaSeqs
import Derived.Test.YthnhpmeacboljaaClass
import Derived.Test.YthnhpmeacboljaaFirst
import Derived.Laws.Tables
import Derived.Laws.Build
namespace Go.Proofs.Ythnhpmeacboljaa
open Go Go.ChangeShapes Go.WideShapes Go.RowKit Go.Deep
set_option linter.unusedVariables false
set_option linter.unusedSimpArgs false
set_option maxRecDepth 100000

structure Xv where
  cl : Int
  rq : Int
  dl : Int
  ag : Int
  sl : Int
  pd : Int
  am : Int
deriving DecidableEq, Inhabited

def Xv.row (v : Xv) : List Value := [.int .i64 v.cl, .int .i64 v.rq, .int .i64 v.dl, .int .i64 v.ag, .int .i64 v.sl, .int .i64 v.pd, .int .u64 v.am]
def cellsXv (v : Xv) : Array Value := v.row.toArray
def FitsXv (v : Xv) : Prop := (Lit.int .i64 v.cl).wf = true ∧ (Lit.int .i64 v.rq).wf = true ∧ (Lit.int .i64 v.dl).wf = true ∧ (Lit.int .i64 v.ag).wf = true ∧ (Lit.int .i64 v.sl).wf = true ∧ (Lit.int .i64 v.pd).wf = true ∧ (Lit.int .u64 v.am).wf = true
def xvZ : Xv := ⟨0, 0, 0, 0, 0, 0, 0⟩
theorem Xv.row_len (v : Xv) : v.row.length = 7 := rfl
theorem Xv.row_one (v : Xv) : ∀ u ∈ v.row, u.oneCell' = true := by
  intro u hu
  simp only [Xv.row, List.mem_cons, List.not_mem_nil, or_false] at hu
  rcases hu with rfl | rfl | rfl | rfl | rfl | rfl | rfl <;> rfl
theorem cellsXv_one (v : Xv) : (cellsXv v).all (·.oneCell') = true := by
  refine Array.all_eq_true_iff_forall_mem.2 (fun u hu => Xv.row_one v u (by simpa [cellsXv] using hu))
theorem cellsXv_size (v : Xv) : (cellsXv v).size = 7 := rfl
theorem infoXv : (Try.prog.info? 30).map (·.size) = some 7 := by kernel_rfl
theorem appXv : ∃ i, Try.prog.info? 30 = some i ∧ i.zero = some (.agg (cellsXv xvZ)) ∧ i.size = 7 ∧ i.bytes = 56 := by
  have h : (Try.prog.info? 30).map (fun i => (i.zero, i.size, i.bytes)) = some (some (.agg (cellsXv xvZ)), 7, 56) := by kernel_rfl
  cases hi : Try.prog.info? 30 with
  | none => rw [hi] at h; cases h
  | some i =>
    rw [hi] at h
    simp at h
    exact ⟨i, rfl, h.1, h.2.1, h.2.2⟩
theorem eqXv (x y : Xv) (w : World) : (Op.equalIn 10000 30 (.agg (cellsXv x)) (.agg (cellsXv y))).run Try.prog w = .ok (decide (x = y)) w := by
  obtain ⟨r, hr, hr2⟩ := equal_struct_one (P := Try.prog) w (cellsXv x) (cellsXv y) Try.underlying30 (by kernel_rfl) (fun f hf => by
    simp only [List.mem_cons, List.not_mem_nil, or_false] at hf
    rcases hf with rfl | rfl | rfl | rfl | rfl | rfl | rfl
    · exact ⟨by decide, .inl ⟨.i64, x.cl, y.cl, Try.underlying3, rfl, rfl⟩⟩
    · exact ⟨by decide, .inl ⟨.i64, x.rq, y.rq, Try.underlying3, rfl, rfl⟩⟩
    · exact ⟨by decide, .inl ⟨.i64, x.dl, y.dl, Try.underlying3, rfl, rfl⟩⟩
    · exact ⟨by decide, .inl ⟨.i64, x.ag, y.ag, Try.underlying3, rfl, rfl⟩⟩
    · exact ⟨by decide, .inl ⟨.i64, x.sl, y.sl, Try.underlying3, rfl, rfl⟩⟩
    · exact ⟨by decide, .inl ⟨.i64, x.pd, y.pd, Try.underlying3, rfl, rfl⟩⟩
    · exact ⟨by decide, .inl ⟨.u64, x.am, y.am, Try.underlying28, rfl, rfl⟩⟩)
  refine hr.trans ?_
  have : r = decide (x = y) := by
    rw [Bool.eq_iff_iff, hr2, decide_eq_true_eq]
    constructor
    · intro h
      simp only [List.mem_cons, List.not_mem_nil, or_false, forall_eq_or_imp, forall_eq] at h
      obtain ⟨h0, h1, h2, h3, h4, h5, h6⟩ := h
      obtain ⟨a0, a1, a2, a3, a4, a5, a6⟩ := x
      obtain ⟨b0, b1, b2, b3, b4, b5, b6⟩ := y
      simp [cellsXv, Xv.row] at h0 h1 h2 h3 h4 h5 h6
      simp [*]
    · rintro rfl
      simp
  rw [this]
theorem exec_eqXv {a : Act} {dst : Option Tmp} {yt ty : TypeId} {x y : Operand} {pos : String} {after : Array Edge} {guard : Option (Nat × Bool)} {w : World} {p q : Xv} {r : Bool} (hx : a.eval x = .agg (cellsXv p)) (hy : a.eval y = .agg (cellsXv q)) (hr : decide (p = q) = r) :
    (execOp a.eval { dst, op := .binOp .eql 30 x y yt, type := ty, pos, after, guard }).run Try.prog w = .ok (.value (.bool r)) w := by
  simp only [execOp, hx, hy, Sem.run_bind, run_eqGuard_agg w .eql _ x y _ _ (show Try.prog.eqGuardType Try.prog.depth 30 = false by kernel_rfl), Result.andThen_ok, run_eql_struct, eqXv p q w, Sem.run_pure, hr]
theorem exec_neXv {a : Act} {dst : Option Tmp} {yt ty : TypeId} {x y : Operand} {pos : String} {after : Array Edge} {guard : Option (Nat × Bool)} {w : World} {p q : Xv} {r : Bool} (hx : a.eval x = .agg (cellsXv p)) (hy : a.eval y = .agg (cellsXv q)) (hr : (!decide (p = q)) = r) :
    (execOp a.eval { dst, op := .binOp .neq 30 x y yt, type := ty, pos, after, guard }).run Try.prog w = .ok (.value (.bool r)) w := by
  simp only [execOp, hx, hy, Sem.run_bind, run_eqGuard_agg w .neq _ x y _ _ (show Try.prog.eqGuardType Try.prog.depth 30 = false by kernel_rfl), Result.andThen_ok, run_neq_struct, eqXv p q w, Sem.run_pure, hr]
theorem q_eqXv {C : World → Prop} {Qa : Act → Prop} {ops : Array Oper} {rest : List Oper} {a : Act} {dst : Option Tmp} {yt ty : TypeId} {x y : Operand} {pos : String} {after : Array Edge} {guard : Option (Nat × Bool)} (p q : Xv) (r : Bool) (hw : Region.wanted { dst, op := .binOp .eql 30 x y yt, type := ty, pos, after, guard } (yielded ops a.tmps) = true) (hx : a.eval x = .agg (cellsXv p)) (hy : a.eval y = .agg (cellsXv q)) (hr : decide (p = q) = r)
    (h : wpQuiet Try.prog ops C Qa rest (a.put dst (.bool r))) : wpQuiet Try.prog ops C Qa ({ dst, op := .binOp .eql 30 x y yt, type := ty, pos, after, guard } :: rest) a :=
  q_val (.bool r) hw (fun w => exec_eqXv hx hy hr) h
theorem q_neXv {C : World → Prop} {Qa : Act → Prop} {ops : Array Oper} {rest : List Oper} {a : Act} {dst : Option Tmp} {yt ty : TypeId} {x y : Operand} {pos : String} {after : Array Edge} {guard : Option (Nat × Bool)} (p q : Xv) (r : Bool) (hw : Region.wanted { dst, op := .binOp .neq 30 x y yt, type := ty, pos, after, guard } (yielded ops a.tmps) = true) (hx : a.eval x = .agg (cellsXv p)) (hy : a.eval y = .agg (cellsXv q)) (hr : (!decide (p = q)) = r)
    (h : wpQuiet Try.prog ops C Qa rest (a.put dst (.bool r))) : wpQuiet Try.prog ops C Qa ({ dst, op := .binOp .neq 30 x y yt, type := ty, pos, after, guard } :: rest) a :=
  q_val (.bool r) hw (fun w => exec_neXv hx hy hr) h
theorem infoXvF : (Try.prog.info? 33).map (·.size) = some 7 := by kernel_rfl
theorem appXvF : ∃ i, Try.prog.info? 33 = some i ∧ i.zero = some (.agg (cellsXv xvZ)) ∧ i.size = 7 ∧ i.bytes = 56 := by
  have h : (Try.prog.info? 33).map (fun i => (i.zero, i.size, i.bytes)) = some (some (.agg (cellsXv xvZ)), 7, 56) := by kernel_rfl
  cases hi : Try.prog.info? 33 with
  | none => rw [hi] at h; cases h
  | some i =>
    rw [hi] at h
    simp at h
    exact ⟨i, rfl, h.1, h.2.1, h.2.2⟩
theorem eqXvF (x y : Xv) (w : World) : (Op.equalIn 10000 33 (.agg (cellsXv x)) (.agg (cellsXv y))).run Try.prog w = .ok (decide (x = y)) w := by
  obtain ⟨r, hr, hr2⟩ := equal_struct_one (P := Try.prog) w (cellsXv x) (cellsXv y) Try.underlying33 (by kernel_rfl) (fun f hf => by
    simp only [List.mem_cons, List.not_mem_nil, or_false] at hf
    rcases hf with rfl | rfl | rfl | rfl | rfl | rfl | rfl
    · exact ⟨by decide, .inl ⟨.i64, x.cl, y.cl, Try.underlying3, rfl, rfl⟩⟩
    · exact ⟨by decide, .inl ⟨.i64, x.rq, y.rq, Try.underlying3, rfl, rfl⟩⟩
    · exact ⟨by decide, .inl ⟨.i64, x.dl, y.dl, Try.underlying3, rfl, rfl⟩⟩
    · exact ⟨by decide, .inl ⟨.i64, x.ag, y.ag, Try.underlying3, rfl, rfl⟩⟩
    · exact ⟨by decide, .inl ⟨.i64, x.sl, y.sl, Try.underlying3, rfl, rfl⟩⟩
    · exact ⟨by decide, .inl ⟨.i64, x.pd, y.pd, Try.underlying3, rfl, rfl⟩⟩
    · exact ⟨by decide, .inl ⟨.u64, x.am, y.am, Try.underlying28, rfl, rfl⟩⟩)
  refine hr.trans ?_
  have : r = decide (x = y) := by
    rw [Bool.eq_iff_iff, hr2, decide_eq_true_eq]
    constructor
    · intro h
      simp only [List.mem_cons, List.not_mem_nil, or_false, forall_eq_or_imp, forall_eq] at h
      obtain ⟨h0, h1, h2, h3, h4, h5, h6⟩ := h
      obtain ⟨a0, a1, a2, a3, a4, a5, a6⟩ := x
      obtain ⟨b0, b1, b2, b3, b4, b5, b6⟩ := y
      simp [cellsXv, Xv.row] at h0 h1 h2 h3 h4 h5 h6
      simp [*]
    · rintro rfl
      simp
  rw [this]
theorem exec_eqXvF {a : Act} {dst : Option Tmp} {yt ty : TypeId} {x y : Operand} {pos : String} {after : Array Edge} {guard : Option (Nat × Bool)} {w : World} {p q : Xv} {r : Bool} (hx : a.eval x = .agg (cellsXv p)) (hy : a.eval y = .agg (cellsXv q)) (hr : decide (p = q) = r) :
    (execOp a.eval { dst, op := .binOp .eql 33 x y yt, type := ty, pos, after, guard }).run Try.prog w = .ok (.value (.bool r)) w := by
  simp only [execOp, hx, hy, Sem.run_bind, run_eqGuard_agg w .eql _ x y _ _ (show Try.prog.eqGuardType Try.prog.depth 33 = false by kernel_rfl), Result.andThen_ok, run_eql_struct, eqXvF p q w, Sem.run_pure, hr]
theorem exec_neXvF {a : Act} {dst : Option Tmp} {yt ty : TypeId} {x y : Operand} {pos : String} {after : Array Edge} {guard : Option (Nat × Bool)} {w : World} {p q : Xv} {r : Bool} (hx : a.eval x = .agg (cellsXv p)) (hy : a.eval y = .agg (cellsXv q)) (hr : (!decide (p = q)) = r) :
    (execOp a.eval { dst, op := .binOp .neq 33 x y yt, type := ty, pos, after, guard }).run Try.prog w = .ok (.value (.bool r)) w := by
  simp only [execOp, hx, hy, Sem.run_bind, run_eqGuard_agg w .neq _ x y _ _ (show Try.prog.eqGuardType Try.prog.depth 33 = false by kernel_rfl), Result.andThen_ok, run_neq_struct, eqXvF p q w, Sem.run_pure, hr]
theorem q_eqXvF {C : World → Prop} {Qa : Act → Prop} {ops : Array Oper} {rest : List Oper} {a : Act} {dst : Option Tmp} {yt ty : TypeId} {x y : Operand} {pos : String} {after : Array Edge} {guard : Option (Nat × Bool)} (p q : Xv) (r : Bool) (hw : Region.wanted { dst, op := .binOp .eql 33 x y yt, type := ty, pos, after, guard } (yielded ops a.tmps) = true) (hx : a.eval x = .agg (cellsXv p)) (hy : a.eval y = .agg (cellsXv q)) (hr : decide (p = q) = r)
    (h : wpQuiet Try.prog ops C Qa rest (a.put dst (.bool r))) : wpQuiet Try.prog ops C Qa ({ dst, op := .binOp .eql 33 x y yt, type := ty, pos, after, guard } :: rest) a :=
  q_val (.bool r) hw (fun w => exec_eqXvF hx hy hr) h
theorem q_neXvF {C : World → Prop} {Qa : Act → Prop} {ops : Array Oper} {rest : List Oper} {a : Act} {dst : Option Tmp} {yt ty : TypeId} {x y : Operand} {pos : String} {after : Array Edge} {guard : Option (Nat × Bool)} (p q : Xv) (r : Bool) (hw : Region.wanted { dst, op := .binOp .neq 33 x y yt, type := ty, pos, after, guard } (yielded ops a.tmps) = true) (hx : a.eval x = .agg (cellsXv p)) (hy : a.eval y = .agg (cellsXv q)) (hr : (!decide (p = q)) = r)
    (h : wpQuiet Try.prog ops C Qa rest (a.put dst (.bool r))) : wpQuiet Try.prog ops C Qa ({ dst, op := .binOp .neq 33 x y yt, type := ty, pos, after, guard } :: rest) a :=
  q_val (.bool r) hw (fun w => exec_neXvF hx hy hr) h

/-! ### arms -/
section
variable {P : Program} {ops : Array Oper} {rest : List Oper} {op : Oper} {a : Act} {w : World} {Q : Exit → Act → World → Prop}
theorem wpList_load_Xv (hgd : op.guard = none) (ty : TypeId) (x : Operand) (ho : op.op = .load ty x)
    (b o : Nat) (hx : a.eval x = .pointer (some ⟨b, o, none⟩)) (v : Xv) (d : TypeDesc) (hc : w.rangeAt b o v.row)
    (hu : P.underlying ty = some d) (hd : d.isRow = true) (hi : (P.info? ty).map (·.size) = some 7)
    (h : wpList P ops Q rest (a.put op.dst (.agg (cellsXv v))) w) : wpList P ops Q (op :: rest) a w :=
  wpList_load_mid hgd ty x ho b o hx v.row d hc hu hd hi h
theorem q_load_Xv {C : World → Prop} {Qa : Act → Prop} (ty : TypeId) (x : Operand) (b o : Nat) (v : Xv) (d : TypeDesc) (hw : Region.wanted op (yielded ops a.tmps) = true) (ho : op.op = .load ty x) (hx : a.eval x = .pointer (some ⟨b, o, none⟩))
    (hC : ∀ w, C w → w.rangeAt b o v.row) (hu : P.underlying ty = some d) (hd : d.isRow = true) (hi : (P.info? ty).map (·.size) = some 7)
    (h : wpQuiet P ops C Qa rest (a.put op.dst (.agg (cellsXv v)))) : wpQuiet P ops C Qa (op :: rest) a := by
  unfold wpQuiet
  rw [if_pos hw]
  refine ⟨_, fun w hc => ?_, h⟩
  unfold Oper.quietAt execOp
  simp only [ho, hx, Instr.loadAt, Instr.sureAddr, Sem.run_bind, Sem.run_pure, Result.andThen_ok, run_loadVar_mid w b o ty v.row d (hC w hc) hu hd hi]
  exact ⟨rfl, rfl⟩
theorem wp_load_Xv {K : Act → World → Prop} (ty : TypeId) (x : Operand) (ho : op.op = .load ty x)
    (b off : Nat) (hx : a.eval x = .pointer (some ⟨b, off, none⟩)) (v : Xv) (d : TypeDesc) (hc : w.rangeAt b off v.row)
    (hu : P.underlying ty = some d) (hd : d.isRow = true) (hi : (P.info? ty).map (·.size) = some 7) (h : K (a.put op.dst (.agg (cellsXv v))) w) : op.wp P a w K Q := by
  unfold Oper.wp execOp
  simp only [ho, hx, Instr.loadAt, Instr.sureAddr, Sem.run_bind, Sem.run_pure, Result.andThen_ok, run_loadVar_mid w b off ty v.row d hc hu hd hi]
  exact h
theorem wpList_build_Xv (hg : op.guard = none) (t : TypeId) (parts : Array (Nat × Operand)) (ho : op.op = .build t parts) (v : Xv)
    (hf : P.built t (parts.map fun (i, x) => (i, a.eval x)).toList = some (cellsXv v)) (h : wpList P ops Q rest (a.put op.dst (.agg (cellsXv v))) w) : wpList P ops Q (op :: rest) a w :=
  wpList_build hg t parts ho (by rw [hf]; rfl) (by rw [hf]; exact h)
theorem q_build_Xv {C : World → Prop} {Qa : Act → Prop} (t : TypeId) (parts : Array (Nat × Operand)) (hw : Region.wanted op (yielded ops a.tmps) = true) (ho : op.op = .build t parts) (v : Xv) (hf : P.built t (parts.map fun (i, x) => (i, a.eval x)).toList = some (cellsXv v)) (h : wpQuiet P ops C Qa rest (a.put op.dst (.agg (cellsXv v)))) : wpQuiet P ops C Qa (op :: rest) a := by
  refine q_val (.agg (cellsXv v)) hw (fun w => ?_) h
  have e := run_build (P := P) w t (parts.map fun (i, x) => (i, a.eval x)) _ hf
  unfold execOp
  rw [ho]
  show ((Instr.build t (parts.map fun (i, x) => (i, a.eval x))) >>= fun r => pure (Next.value r)).run P w = _
  rw [Sem.run_bind, e]
  rfl
end
theorem Blk.rangeXv {w : World} {b t : Nat} {v : Xv} (h : Blk w b t (cellsXv v)) : w.rangeAt b 0 v.row := fun j u hu => by
  rw [Nat.zero_add, h.cell j]
  simpa [cellsXv] using hu
end Go.Proofs.Ythnhpmeacboljaa
