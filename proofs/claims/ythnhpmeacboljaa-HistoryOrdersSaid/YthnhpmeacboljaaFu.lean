/- A full payment: its value, '==' on two, one in memory, a literal, the laws' arguments (written by mkrow.py). -/
import Derived.Test.YthnhpmeacboljaaSeqs
import Derived.Test.YthnhpmeacboljaaClass
import Derived.Test.YthnhpmeacboljaaFirst
import Derived.Laws.Tables
import Derived.Laws.Build
namespace Go.Proofs.Ythnhpmeacboljaa
open Go Go.ChangeShapes Go.WideShapes Go.RowKit Go.Deep
set_option linter.unusedVariables false
set_option linter.unusedSimpArgs false
set_option maxRecDepth 100000

structure Fu where
  ep : Int
  am : Int
deriving DecidableEq, Inhabited

def Fu.row (v : Fu) : List Value := [.int .i64 v.ep, .int .u64 v.am]
def cellsFu (v : Fu) : Array Value := v.row.toArray
def FitsFu (v : Fu) : Prop := (Lit.int .i64 v.ep).wf = true ∧ (Lit.int .u64 v.am).wf = true
def fuZ : Fu := ⟨0, 0⟩
theorem Fu.row_len (v : Fu) : v.row.length = 2 := rfl
theorem Fu.row_one (v : Fu) : ∀ u ∈ v.row, u.oneCell' = true := by
  intro u hu
  simp only [Fu.row, List.mem_cons, List.not_mem_nil, or_false] at hu
  rcases hu with rfl | rfl <;> rfl
theorem cellsFu_one (v : Fu) : (cellsFu v).all (·.oneCell') = true := by
  refine Array.all_eq_true_iff_forall_mem.2 (fun u hu => Fu.row_one v u (by simpa [cellsFu] using hu))
theorem cellsFu_size (v : Fu) : (cellsFu v).size = 2 := rfl
theorem infoFu : (Try.prog.info? 91).map (·.size) = some 2 := by kernel_rfl
theorem appFu : ∃ i, Try.prog.info? 91 = some i ∧ i.zero = some (.agg (cellsFu fuZ)) ∧ i.size = 2 ∧ i.bytes = 16 := by
  have h : (Try.prog.info? 91).map (fun i => (i.zero, i.size, i.bytes)) = some (some (.agg (cellsFu fuZ)), 2, 16) := by kernel_rfl
  cases hi : Try.prog.info? 91 with
  | none => rw [hi] at h; cases h
  | some i =>
    rw [hi] at h
    simp at h
    exact ⟨i, rfl, h.1, h.2.1, h.2.2⟩
theorem eqFu (x y : Fu) (w : World) : (Op.equalIn 10000 91 (.agg (cellsFu x)) (.agg (cellsFu y))).run Try.prog w = .ok (decide (x = y)) w := by
  obtain ⟨r, hr, hr2⟩ := equal_struct_one (P := Try.prog) w (cellsFu x) (cellsFu y) Try.underlying91 (by kernel_rfl) (fun f hf => by
    simp only [List.mem_cons, List.not_mem_nil, or_false] at hf
    rcases hf with rfl | rfl
    · exact ⟨by decide, .inl ⟨.i64, x.ep, y.ep, Try.underlying3, rfl, rfl⟩⟩
    · exact ⟨by decide, .inl ⟨.u64, x.am, y.am, Try.underlying28, rfl, rfl⟩⟩)
  refine hr.trans ?_
  have : r = decide (x = y) := by
    rw [Bool.eq_iff_iff, hr2, decide_eq_true_eq]
    constructor
    · intro h
      simp only [List.mem_cons, List.not_mem_nil, or_false, forall_eq_or_imp, forall_eq] at h
      obtain ⟨h0, h1⟩ := h
      obtain ⟨a0, a1⟩ := x
      obtain ⟨b0, b1⟩ := y
      simp [cellsFu, Fu.row] at h0 h1
      simp [*]
    · rintro rfl
      simp
  rw [this]
theorem exec_eqFu {a : Act} {dst : Option Tmp} {yt ty : TypeId} {x y : Operand} {pos : String} {after : Array Edge} {guard : Option (Nat × Bool)} {w : World} {p q : Fu} {r : Bool} (hx : a.eval x = .agg (cellsFu p)) (hy : a.eval y = .agg (cellsFu q)) (hr : decide (p = q) = r) :
    (execOp a.eval { dst, op := .binOp .eql 91 x y yt, type := ty, pos, after, guard }).run Try.prog w = .ok (.value (.bool r)) w := by
  simp only [execOp, hx, hy, Sem.run_bind, run_eqGuard_agg w .eql _ x y _ _ (show Try.prog.eqGuardType Try.prog.depth 91 = false by kernel_rfl), Result.andThen_ok, run_eql_struct, eqFu p q w, Sem.run_pure, hr]
theorem exec_neFu {a : Act} {dst : Option Tmp} {yt ty : TypeId} {x y : Operand} {pos : String} {after : Array Edge} {guard : Option (Nat × Bool)} {w : World} {p q : Fu} {r : Bool} (hx : a.eval x = .agg (cellsFu p)) (hy : a.eval y = .agg (cellsFu q)) (hr : (!decide (p = q)) = r) :
    (execOp a.eval { dst, op := .binOp .neq 91 x y yt, type := ty, pos, after, guard }).run Try.prog w = .ok (.value (.bool r)) w := by
  simp only [execOp, hx, hy, Sem.run_bind, run_eqGuard_agg w .neq _ x y _ _ (show Try.prog.eqGuardType Try.prog.depth 91 = false by kernel_rfl), Result.andThen_ok, run_neq_struct, eqFu p q w, Sem.run_pure, hr]
theorem q_eqFu {C : World → Prop} {Qa : Act → Prop} {ops : Array Oper} {rest : List Oper} {a : Act} {dst : Option Tmp} {yt ty : TypeId} {x y : Operand} {pos : String} {after : Array Edge} {guard : Option (Nat × Bool)} (p q : Fu) (r : Bool) (hw : Region.wanted { dst, op := .binOp .eql 91 x y yt, type := ty, pos, after, guard } (yielded ops a.tmps) = true) (hx : a.eval x = .agg (cellsFu p)) (hy : a.eval y = .agg (cellsFu q)) (hr : decide (p = q) = r)
    (h : wpQuiet Try.prog ops C Qa rest (a.put dst (.bool r))) : wpQuiet Try.prog ops C Qa ({ dst, op := .binOp .eql 91 x y yt, type := ty, pos, after, guard } :: rest) a :=
  q_val (.bool r) hw (fun w => exec_eqFu hx hy hr) h
theorem q_neFu {C : World → Prop} {Qa : Act → Prop} {ops : Array Oper} {rest : List Oper} {a : Act} {dst : Option Tmp} {yt ty : TypeId} {x y : Operand} {pos : String} {after : Array Edge} {guard : Option (Nat × Bool)} (p q : Fu) (r : Bool) (hw : Region.wanted { dst, op := .binOp .neq 91 x y yt, type := ty, pos, after, guard } (yielded ops a.tmps) = true) (hx : a.eval x = .agg (cellsFu p)) (hy : a.eval y = .agg (cellsFu q)) (hr : (!decide (p = q)) = r)
    (h : wpQuiet Try.prog ops C Qa rest (a.put dst (.bool r))) : wpQuiet Try.prog ops C Qa ({ dst, op := .binOp .neq 91 x y yt, type := ty, pos, after, guard } :: rest) a :=
  q_val (.bool r) hw (fun w => exec_neFu hx hy hr) h

/-! ### arms -/
section
variable {P : Program} {ops : Array Oper} {rest : List Oper} {op : Oper} {a : Act} {w : World} {Q : Exit → Act → World → Prop}
theorem wpList_load_Fu (hgd : op.guard = none) (ty : TypeId) (x : Operand) (ho : op.op = .load ty x)
    (b o : Nat) (hx : a.eval x = .pointer (some ⟨b, o, none⟩)) (v : Fu) (d : TypeDesc) (hc : w.rangeAt b o v.row)
    (hu : P.underlying ty = some d) (hd : d.isRow = true) (hi : (P.info? ty).map (·.size) = some 2)
    (h : wpList P ops Q rest (a.put op.dst (.agg (cellsFu v))) w) : wpList P ops Q (op :: rest) a w :=
  wpList_load_mid hgd ty x ho b o hx v.row d hc hu hd hi h
theorem q_load_Fu {C : World → Prop} {Qa : Act → Prop} (ty : TypeId) (x : Operand) (b o : Nat) (v : Fu) (d : TypeDesc) (hw : Region.wanted op (yielded ops a.tmps) = true) (ho : op.op = .load ty x) (hx : a.eval x = .pointer (some ⟨b, o, none⟩))
    (hC : ∀ w, C w → w.rangeAt b o v.row) (hu : P.underlying ty = some d) (hd : d.isRow = true) (hi : (P.info? ty).map (·.size) = some 2)
    (h : wpQuiet P ops C Qa rest (a.put op.dst (.agg (cellsFu v)))) : wpQuiet P ops C Qa (op :: rest) a := by
  unfold wpQuiet
  rw [if_pos hw]
  refine ⟨_, fun w hc => ?_, h⟩
  unfold Oper.quietAt execOp
  simp only [ho, hx, Instr.loadAt, Instr.sureAddr, Sem.run_bind, Sem.run_pure, Result.andThen_ok, run_loadVar_mid w b o ty v.row d (hC w hc) hu hd hi]
  exact ⟨rfl, rfl⟩
theorem wp_load_Fu {K : Act → World → Prop} (ty : TypeId) (x : Operand) (ho : op.op = .load ty x)
    (b off : Nat) (hx : a.eval x = .pointer (some ⟨b, off, none⟩)) (v : Fu) (d : TypeDesc) (hc : w.rangeAt b off v.row)
    (hu : P.underlying ty = some d) (hd : d.isRow = true) (hi : (P.info? ty).map (·.size) = some 2) (h : K (a.put op.dst (.agg (cellsFu v))) w) : op.wp P a w K Q := by
  unfold Oper.wp execOp
  simp only [ho, hx, Instr.loadAt, Instr.sureAddr, Sem.run_bind, Sem.run_pure, Result.andThen_ok, run_loadVar_mid w b off ty v.row d hc hu hd hi]
  exact h
theorem wpList_build_Fu (hg : op.guard = none) (t : TypeId) (parts : Array (Nat × Operand)) (ho : op.op = .build t parts) (v : Fu)
    (hf : P.built t (parts.map fun (i, x) => (i, a.eval x)).toList = some (cellsFu v)) (h : wpList P ops Q rest (a.put op.dst (.agg (cellsFu v))) w) : wpList P ops Q (op :: rest) a w :=
  wpList_build hg t parts ho (by rw [hf]; rfl) (by rw [hf]; exact h)
theorem q_build_Fu {C : World → Prop} {Qa : Act → Prop} (t : TypeId) (parts : Array (Nat × Operand)) (hw : Region.wanted op (yielded ops a.tmps) = true) (ho : op.op = .build t parts) (v : Fu) (hf : P.built t (parts.map fun (i, x) => (i, a.eval x)).toList = some (cellsFu v)) (h : wpQuiet P ops C Qa rest (a.put op.dst (.agg (cellsFu v)))) : wpQuiet P ops C Qa (op :: rest) a := by
  refine q_val (.agg (cellsFu v)) hw (fun w => ?_) h
  have e := run_build (P := P) w t (parts.map fun (i, x) => (i, a.eval x)) _ hf
  unfold execOp
  rw [ho]
  show ((Instr.build t (parts.map fun (i, x) => (i, a.eval x))) >>= fun r => pure (Next.value r)).run P w = _
  rw [Sem.run_bind, e]
  rfl
end
theorem Blk.rangeFu {w : World} {b t : Nat} {v : Fu} (h : Blk w b t (cellsFu v)) : w.rangeAt b 0 v.row := fun j u hu => by
  rw [Nat.zero_add, h.cell j]
  simpa [cellsFu] using hu
end Go.Proofs.Ythnhpmeacboljaa
