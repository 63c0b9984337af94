/- An operation: its value, '==' on two, one in memory, a literal, the laws' arguments (written by mkrow.py). -/
import Derived.Test.YthnhpmeacboljaaSeqs
import Derived.Test.YthnhpmeacboljaaClass
import Derived.Test.YthnhpmeacboljaaFirst
import Derived.Laws.Tables
import Derived.Laws.Build
namespace Go.Proofs.Ythnhpmeacboljaa
open Go Go.ChangeShapes Go.WideShapes Go.RowKit Go.Deep
set_option linter.unusedVariables false
set_option linter.unusedSimpArgs false
set_option maxRecDepth 100000

structure Oq where
  kd : Int
  ix : Int
  tg : Int
  am : Int
deriving DecidableEq, Inhabited

def Oq.row (v : Oq) : List Value := [.int .i64 v.kd, .int .i64 v.ix, .int .i64 v.tg, .int .u64 v.am]
def cellsOq (v : Oq) : Array Value := v.row.toArray
def FitsOq (v : Oq) : Prop := (Lit.int .i64 v.kd).wf = true ∧ (Lit.int .i64 v.ix).wf = true ∧ (Lit.int .i64 v.tg).wf = true ∧ (Lit.int .u64 v.am).wf = true
def oqZ : Oq := ⟨0, 0, 0, 0⟩
theorem Oq.row_len (v : Oq) : v.row.length = 4 := rfl
theorem Oq.row_one (v : Oq) : ∀ u ∈ v.row, u.oneCell' = true := by
  intro u hu
  simp only [Oq.row, List.mem_cons, List.not_mem_nil, or_false] at hu
  rcases hu with rfl | rfl | rfl | rfl <;> rfl
theorem cellsOq_one (v : Oq) : (cellsOq v).all (·.oneCell') = true := by
  refine Array.all_eq_true_iff_forall_mem.2 (fun u hu => Oq.row_one v u (by simpa [cellsOq] using hu))
theorem cellsOq_size (v : Oq) : (cellsOq v).size = 4 := rfl
theorem infoOq : (Try.prog.info? 57).map (·.size) = some 4 := by kernel_rfl
theorem appOq : ∃ i, Try.prog.info? 57 = some i ∧ i.zero = some (.agg (cellsOq oqZ)) ∧ i.size = 4 ∧ i.bytes = 32 := by
  have h : (Try.prog.info? 57).map (fun i => (i.zero, i.size, i.bytes)) = some (some (.agg (cellsOq oqZ)), 4, 32) := by kernel_rfl
  cases hi : Try.prog.info? 57 with
  | none => rw [hi] at h; cases h
  | some i =>
    rw [hi] at h
    simp at h
    exact ⟨i, rfl, h.1, h.2.1, h.2.2⟩
theorem eqOq (x y : Oq) (w : World) : (Op.equalIn 10000 57 (.agg (cellsOq x)) (.agg (cellsOq y))).run Try.prog w = .ok (decide (x = y)) w := by
  obtain ⟨r, hr, hr2⟩ := equal_struct_one (P := Try.prog) w (cellsOq x) (cellsOq y) Try.underlying57 (by kernel_rfl) (fun f hf => by
    simp only [List.mem_cons, List.not_mem_nil, or_false] at hf
    rcases hf with rfl | rfl | rfl | rfl
    · exact ⟨by decide, .inl ⟨.i64, x.kd, y.kd, Try.underlying3, rfl, rfl⟩⟩
    · exact ⟨by decide, .inl ⟨.i64, x.ix, y.ix, Try.underlying3, rfl, rfl⟩⟩
    · exact ⟨by decide, .inl ⟨.i64, x.tg, y.tg, Try.underlying3, rfl, rfl⟩⟩
    · exact ⟨by decide, .inl ⟨.u64, x.am, y.am, Try.underlying28, rfl, rfl⟩⟩)
  refine hr.trans ?_
  have : r = decide (x = y) := by
    rw [Bool.eq_iff_iff, hr2, decide_eq_true_eq]
    constructor
    · intro h
      simp only [List.mem_cons, List.not_mem_nil, or_false, forall_eq_or_imp, forall_eq] at h
      obtain ⟨h0, h1, h2, h3⟩ := h
      obtain ⟨a0, a1, a2, a3⟩ := x
      obtain ⟨b0, b1, b2, b3⟩ := y
      simp [cellsOq, Oq.row] at h0 h1 h2 h3
      simp [*]
    · rintro rfl
      simp
  rw [this]
theorem exec_eqOq {a : Act} {dst : Option Tmp} {yt ty : TypeId} {x y : Operand} {pos : String} {after : Array Edge} {guard : Option (Nat × Bool)} {w : World} {p q : Oq} {r : Bool} (hx : a.eval x = .agg (cellsOq p)) (hy : a.eval y = .agg (cellsOq q)) (hr : decide (p = q) = r) :
    (execOp a.eval { dst, op := .binOp .eql 57 x y yt, type := ty, pos, after, guard }).run Try.prog w = .ok (.value (.bool r)) w := by
  simp only [execOp, hx, hy, Sem.run_bind, run_eqGuard_agg w .eql _ x y _ _ (show Try.prog.eqGuardType Try.prog.depth 57 = false by kernel_rfl), Result.andThen_ok, run_eql_struct, eqOq p q w, Sem.run_pure, hr]
theorem exec_neOq {a : Act} {dst : Option Tmp} {yt ty : TypeId} {x y : Operand} {pos : String} {after : Array Edge} {guard : Option (Nat × Bool)} {w : World} {p q : Oq} {r : Bool} (hx : a.eval x = .agg (cellsOq p)) (hy : a.eval y = .agg (cellsOq q)) (hr : (!decide (p = q)) = r) :
    (execOp a.eval { dst, op := .binOp .neq 57 x y yt, type := ty, pos, after, guard }).run Try.prog w = .ok (.value (.bool r)) w := by
  simp only [execOp, hx, hy, Sem.run_bind, run_eqGuard_agg w .neq _ x y _ _ (show Try.prog.eqGuardType Try.prog.depth 57 = false by kernel_rfl), Result.andThen_ok, run_neq_struct, eqOq p q w, Sem.run_pure, hr]
theorem q_eqOq {C : World → Prop} {Qa : Act → Prop} {ops : Array Oper} {rest : List Oper} {a : Act} {dst : Option Tmp} {yt ty : TypeId} {x y : Operand} {pos : String} {after : Array Edge} {guard : Option (Nat × Bool)} (p q : Oq) (r : Bool) (hw : Region.wanted { dst, op := .binOp .eql 57 x y yt, type := ty, pos, after, guard } (yielded ops a.tmps) = true) (hx : a.eval x = .agg (cellsOq p)) (hy : a.eval y = .agg (cellsOq q)) (hr : decide (p = q) = r)
    (h : wpQuiet Try.prog ops C Qa rest (a.put dst (.bool r))) : wpQuiet Try.prog ops C Qa ({ dst, op := .binOp .eql 57 x y yt, type := ty, pos, after, guard } :: rest) a :=
  q_val (.bool r) hw (fun w => exec_eqOq hx hy hr) h
theorem q_neOq {C : World → Prop} {Qa : Act → Prop} {ops : Array Oper} {rest : List Oper} {a : Act} {dst : Option Tmp} {yt ty : TypeId} {x y : Operand} {pos : String} {after : Array Edge} {guard : Option (Nat × Bool)} (p q : Oq) (r : Bool) (hw : Region.wanted { dst, op := .binOp .neq 57 x y yt, type := ty, pos, after, guard } (yielded ops a.tmps) = true) (hx : a.eval x = .agg (cellsOq p)) (hy : a.eval y = .agg (cellsOq q)) (hr : (!decide (p = q)) = r)
    (h : wpQuiet Try.prog ops C Qa rest (a.put dst (.bool r))) : wpQuiet Try.prog ops C Qa ({ dst, op := .binOp .neq 57 x y yt, type := ty, pos, after, guard } :: rest) a :=
  q_val (.bool r) hw (fun w => exec_neOq hx hy hr) h

/-! ### arms -/
section
variable {P : Program} {ops : Array Oper} {rest : List Oper} {op : Oper} {a : Act} {w : World} {Q : Exit → Act → World → Prop}
theorem wpList_load_Oq (hgd : op.guard = none) (ty : TypeId) (x : Operand) (ho : op.op = .load ty x)
    (b o : Nat) (hx : a.eval x = .pointer (some ⟨b, o, none⟩)) (v : Oq) (d : TypeDesc) (hc : w.rangeAt b o v.row)
    (hu : P.underlying ty = some d) (hd : d.isRow = true) (hi : (P.info? ty).map (·.size) = some 4)
    (h : wpList P ops Q rest (a.put op.dst (.agg (cellsOq v))) w) : wpList P ops Q (op :: rest) a w :=
  wpList_load_mid hgd ty x ho b o hx v.row d hc hu hd hi h
theorem q_load_Oq {C : World → Prop} {Qa : Act → Prop} (ty : TypeId) (x : Operand) (b o : Nat) (v : Oq) (d : TypeDesc) (hw : Region.wanted op (yielded ops a.tmps) = true) (ho : op.op = .load ty x) (hx : a.eval x = .pointer (some ⟨b, o, none⟩))
    (hC : ∀ w, C w → w.rangeAt b o v.row) (hu : P.underlying ty = some d) (hd : d.isRow = true) (hi : (P.info? ty).map (·.size) = some 4)
    (h : wpQuiet P ops C Qa rest (a.put op.dst (.agg (cellsOq v)))) : wpQuiet P ops C Qa (op :: rest) a := by
  unfold wpQuiet
  rw [if_pos hw]
  refine ⟨_, fun w hc => ?_, h⟩
  unfold Oper.quietAt execOp
  simp only [ho, hx, Instr.loadAt, Instr.sureAddr, Sem.run_bind, Sem.run_pure, Result.andThen_ok, run_loadVar_mid w b o ty v.row d (hC w hc) hu hd hi]
  exact ⟨rfl, rfl⟩
theorem wp_load_Oq {K : Act → World → Prop} (ty : TypeId) (x : Operand) (ho : op.op = .load ty x)
    (b off : Nat) (hx : a.eval x = .pointer (some ⟨b, off, none⟩)) (v : Oq) (d : TypeDesc) (hc : w.rangeAt b off v.row)
    (hu : P.underlying ty = some d) (hd : d.isRow = true) (hi : (P.info? ty).map (·.size) = some 4) (h : K (a.put op.dst (.agg (cellsOq v))) w) : op.wp P a w K Q := by
  unfold Oper.wp execOp
  simp only [ho, hx, Instr.loadAt, Instr.sureAddr, Sem.run_bind, Sem.run_pure, Result.andThen_ok, run_loadVar_mid w b off ty v.row d hc hu hd hi]
  exact h
theorem wpList_build_Oq (hg : op.guard = none) (t : TypeId) (parts : Array (Nat × Operand)) (ho : op.op = .build t parts) (v : Oq)
    (hf : P.built t (parts.map fun (i, x) => (i, a.eval x)).toList = some (cellsOq v)) (h : wpList P ops Q rest (a.put op.dst (.agg (cellsOq v))) w) : wpList P ops Q (op :: rest) a w :=
  wpList_build hg t parts ho (by rw [hf]; rfl) (by rw [hf]; exact h)
theorem q_build_Oq {C : World → Prop} {Qa : Act → Prop} (t : TypeId) (parts : Array (Nat × Operand)) (hw : Region.wanted op (yielded ops a.tmps) = true) (ho : op.op = .build t parts) (v : Oq) (hf : P.built t (parts.map fun (i, x) => (i, a.eval x)).toList = some (cellsOq v)) (h : wpQuiet P ops C Qa rest (a.put op.dst (.agg (cellsOq v)))) : wpQuiet P ops C Qa (op :: rest) a := by
  refine q_val (.agg (cellsOq v)) hw (fun w => ?_) h
  have e := run_build (P := P) w t (parts.map fun (i, x) => (i, a.eval x)) _ hf
  unfold execOp
  rw [ho]
  show ((Instr.build t (parts.map fun (i, x) => (i, a.eval x))) >>= fun r => pure (Next.value r)).run P w = _
  rw [Sem.run_bind, e]
  rfl
end
theorem Blk.rangeOq {w : World} {b t : Nat} {v : Oq} (h : Blk w b t (cellsOq v)) : w.rangeAt b 0 v.row := fun j u hu => by
  rw [Nat.zero_add, h.cell j]
  simpa [cellsOq] using hu

/-! ### the laws' arguments -/
section
variable {H : Type} {enc : TypeId × Value → H} {w : World} {base : Nat} {spare : Nat → Bool} {held : Bool}
theorem trodOq {n : Nat} {cs : List Value} {x : DataW H × List MemPlace} (h : DataW.trod enc Try.prog w base spare held n 57 cs = some x) : ∃ v : Oq, cs = v.row ∧ FitsOq v := by
  obtain ⟨ys, n', hn', hy, hlen, hyl, hf⟩ := DataW.trod_struct Try.underlying57 h
  have hlen : cs.length = 4 := hlen.trans (by kernel_rfl)
  have hyl : ys.length = 4 := hyl
  have get : ∀ j (f : Field), j < 4 → f.offset = j → Try.prog.cellsOf f.type = 1 → DataW.trod enc Try.prog w base spare held n' f.type ((cs.drop f.offset).take (Try.prog.cellsOf f.type)) = ys[j]? → ∃ v y, cs[j]? = some v ∧ DataW.trod enc Try.prog w base spare held n' f.type [v] = some y := by
    intro j f hj ho hc ht
    rw [ho, hc, List.drop_eq_getElem_cons (by omega), List.getElem?_eq_getElem (by omega)] at ht
    exact ⟨_, _, List.getElem?_eq_getElem (by omega), ht⟩
  obtain ⟨v0, y0, c0, t0⟩ := get 0 _ (by omega) rfl (by kernel_rfl) (hf 0 _ rfl)
  obtain ⟨v1, y1, c1, t1⟩ := get 1 _ (by omega) rfl (by kernel_rfl) (hf 1 _ rfl)
  obtain ⟨v2, y2, c2, t2⟩ := get 2 _ (by omega) rfl (by kernel_rfl) (hf 2 _ rfl)
  obtain ⟨v3, y3, c3, t3⟩ := get 3 _ (by omega) rfl (by kernel_rfl) (hf 3 _ rfl)
  obtain ⟨x0, e0, _, w0⟩ := DataW.trod_int Try.underlying3 t0
  obtain ⟨x1, e1, _, w1⟩ := DataW.trod_int Try.underlying3 t1
  obtain ⟨x2, e2, _, w2⟩ := DataW.trod_int Try.underlying3 t2
  obtain ⟨x3, e3, _, w3⟩ := DataW.trod_int Try.underlying28 t3
  injection e0 with e0; injection e1 with e1; injection e2 with e2; injection e3 with e3
  subst e0 e1 e2 e3
  refine ⟨⟨x0, x1, x2, x3⟩, ?_, w0, w1, w2, w3⟩
  match cs, hlen with
  | [a0, a1, a2, a3], _ =>
    simp at c0 c1 c2 c3
    subst c0 c1 c2 c3
    rfl
theorem open_T57 {r : Reach} {b0 : Nat} {v : Value} {d : DataW H} {p : List MemPlace}
    (hv : Value.okWide Try.prog w r b0 57 v) (h : DataW.Trod enc Try.prog w base spare held 57 v d p) : ∃ c : Oq, v = .agg (cellsOq c) ∧ FitsOq c := by
  obtain ⟨cs, rfl, hsz⟩ := okWide_struct Try.underlying57 hv
  obtain ⟨fuel, hf⟩ := h
  obtain ⟨c, hc, hfit⟩ := trodOq hf
  refine ⟨c, ?_, hfit⟩
  have : cs.toList = c.row := hc
  rw [cellsOq, ← this]
def IsOqs (w : World) (a : Option Addr) (len cap : Nat) : Prop := IsLstR Oq.row 4 FitsOq w a len cap
end
end Go.Proofs.Ythnhpmeacboljaa
