/- An assignment: its value, '==' on two, one in memory, a literal, the laws' arguments (written by mkrow.py). -/
import Derived.Test.YthnhpmeacboljaaSeqs
import Derived.Test.YthnhpmeacboljaaClass
import Derived.Test.YthnhpmeacboljaaFirst
import Derived.Laws.Tables
import Derived.Laws.Build
namespace Go.Proofs.Ythnhpmeacboljaa
open Go Go.ChangeShapes Go.WideShapes Go.RowKit Go.Deep
set_option linter.unusedVariables false
set_option linter.unusedSimpArgs false
set_option maxRecDepth 100000

structure As where
  ix : Int
  cl : Int
  ep : Int
deriving DecidableEq, Inhabited

def As.row (v : As) : List Value := [.int .i64 v.ix, .int .i64 v.cl, .int .i64 v.ep]
def cellsAs (v : As) : Array Value := v.row.toArray
def FitsAs (v : As) : Prop := (Lit.int .i64 v.ix).wf = true ∧ (Lit.int .i64 v.cl).wf = true ∧ (Lit.int .i64 v.ep).wf = true
def asZ : As := ⟨0, 0, 0⟩
theorem As.row_len (v : As) : v.row.length = 3 := rfl
theorem As.row_one (v : As) : ∀ u ∈ v.row, u.oneCell' = true := by
  intro u hu
  simp only [As.row, List.mem_cons, List.not_mem_nil, or_false] at hu
  rcases hu with rfl | rfl | rfl <;> rfl
theorem cellsAs_one (v : As) : (cellsAs v).all (·.oneCell') = true := by
  refine Array.all_eq_true_iff_forall_mem.2 (fun u hu => As.row_one v u (by simpa [cellsAs] using hu))
theorem cellsAs_size (v : As) : (cellsAs v).size = 3 := rfl
theorem infoAs : (Try.prog.info? 47).map (·.size) = some 3 := by kernel_rfl
theorem appAs : ∃ i, Try.prog.info? 47 = some i ∧ i.zero = some (.agg (cellsAs asZ)) ∧ i.size = 3 ∧ i.bytes = 24 := by
  have h : (Try.prog.info? 47).map (fun i => (i.zero, i.size, i.bytes)) = some (some (.agg (cellsAs asZ)), 3, 24) := by kernel_rfl
  cases hi : Try.prog.info? 47 with
  | none => rw [hi] at h; cases h
  | some i =>
    rw [hi] at h
    simp at h
    exact ⟨i, rfl, h.1, h.2.1, h.2.2⟩
theorem eqAs (x y : As) (w : World) : (Op.equalIn 10000 47 (.agg (cellsAs x)) (.agg (cellsAs y))).run Try.prog w = .ok (decide (x = y)) w := by
  obtain ⟨r, hr, hr2⟩ := equal_struct_one (P := Try.prog) w (cellsAs x) (cellsAs y) Try.underlying47 (by kernel_rfl) (fun f hf => by
    simp only [List.mem_cons, List.not_mem_nil, or_false] at hf
    rcases hf with rfl | rfl | rfl
    · exact ⟨by decide, .inl ⟨.i64, x.ix, y.ix, Try.underlying3, rfl, rfl⟩⟩
    · exact ⟨by decide, .inl ⟨.i64, x.cl, y.cl, Try.underlying3, rfl, rfl⟩⟩
    · exact ⟨by decide, .inl ⟨.i64, x.ep, y.ep, Try.underlying3, rfl, rfl⟩⟩)
  refine hr.trans ?_
  have : r = decide (x = y) := by
    rw [Bool.eq_iff_iff, hr2, decide_eq_true_eq]
    constructor
    · intro h
      simp only [List.mem_cons, List.not_mem_nil, or_false, forall_eq_or_imp, forall_eq] at h
      obtain ⟨h0, h1, h2⟩ := h
      obtain ⟨a0, a1, a2⟩ := x
      obtain ⟨b0, b1, b2⟩ := y
      simp [cellsAs, As.row] at h0 h1 h2
      simp [*]
    · rintro rfl
      simp
  rw [this]
theorem exec_eqAs {a : Act} {dst : Option Tmp} {yt ty : TypeId} {x y : Operand} {pos : String} {after : Array Edge} {guard : Option (Nat × Bool)} {w : World} {p q : As} {r : Bool} (hx : a.eval x = .agg (cellsAs p)) (hy : a.eval y = .agg (cellsAs q)) (hr : decide (p = q) = r) :
    (execOp a.eval { dst, op := .binOp .eql 47 x y yt, type := ty, pos, after, guard }).run Try.prog w = .ok (.value (.bool r)) w := by
  simp only [execOp, hx, hy, Sem.run_bind, run_eqGuard_agg w .eql _ x y _ _ (show Try.prog.eqGuardType Try.prog.depth 47 = false by kernel_rfl), Result.andThen_ok, run_eql_struct, eqAs p q w, Sem.run_pure, hr]
theorem exec_neAs {a : Act} {dst : Option Tmp} {yt ty : TypeId} {x y : Operand} {pos : String} {after : Array Edge} {guard : Option (Nat × Bool)} {w : World} {p q : As} {r : Bool} (hx : a.eval x = .agg (cellsAs p)) (hy : a.eval y = .agg (cellsAs q)) (hr : (!decide (p = q)) = r) :
    (execOp a.eval { dst, op := .binOp .neq 47 x y yt, type := ty, pos, after, guard }).run Try.prog w = .ok (.value (.bool r)) w := by
  simp only [execOp, hx, hy, Sem.run_bind, run_eqGuard_agg w .neq _ x y _ _ (show Try.prog.eqGuardType Try.prog.depth 47 = false by kernel_rfl), Result.andThen_ok, run_neq_struct, eqAs p q w, Sem.run_pure, hr]
theorem q_eqAs {C : World → Prop} {Qa : Act → Prop} {ops : Array Oper} {rest : List Oper} {a : Act} {dst : Option Tmp} {yt ty : TypeId} {x y : Operand} {pos : String} {after : Array Edge} {guard : Option (Nat × Bool)} (p q : As) (r : Bool) (hw : Region.wanted { dst, op := .binOp .eql 47 x y yt, type := ty, pos, after, guard } (yielded ops a.tmps) = true) (hx : a.eval x = .agg (cellsAs p)) (hy : a.eval y = .agg (cellsAs q)) (hr : decide (p = q) = r)
    (h : wpQuiet Try.prog ops C Qa rest (a.put dst (.bool r))) : wpQuiet Try.prog ops C Qa ({ dst, op := .binOp .eql 47 x y yt, type := ty, pos, after, guard } :: rest) a :=
  q_val (.bool r) hw (fun w => exec_eqAs hx hy hr) h
theorem q_neAs {C : World → Prop} {Qa : Act → Prop} {ops : Array Oper} {rest : List Oper} {a : Act} {dst : Option Tmp} {yt ty : TypeId} {x y : Operand} {pos : String} {after : Array Edge} {guard : Option (Nat × Bool)} (p q : As) (r : Bool) (hw : Region.wanted { dst, op := .binOp .neq 47 x y yt, type := ty, pos, after, guard } (yielded ops a.tmps) = true) (hx : a.eval x = .agg (cellsAs p)) (hy : a.eval y = .agg (cellsAs q)) (hr : (!decide (p = q)) = r)
    (h : wpQuiet Try.prog ops C Qa rest (a.put dst (.bool r))) : wpQuiet Try.prog ops C Qa ({ dst, op := .binOp .neq 47 x y yt, type := ty, pos, after, guard } :: rest) a :=
  q_val (.bool r) hw (fun w => exec_neAs hx hy hr) h

/-! ### arms -/
section
variable {P : Program} {ops : Array Oper} {rest : List Oper} {op : Oper} {a : Act} {w : World} {Q : Exit → Act → World → Prop}
theorem wpList_load_As (hgd : op.guard = none) (ty : TypeId) (x : Operand) (ho : op.op = .load ty x)
    (b o : Nat) (hx : a.eval x = .pointer (some ⟨b, o, none⟩)) (v : As) (d : TypeDesc) (hc : w.rangeAt b o v.row)
    (hu : P.underlying ty = some d) (hd : d.isRow = true) (hi : (P.info? ty).map (·.size) = some 3)
    (h : wpList P ops Q rest (a.put op.dst (.agg (cellsAs v))) w) : wpList P ops Q (op :: rest) a w :=
  wpList_load_mid hgd ty x ho b o hx v.row d hc hu hd hi h
theorem q_load_As {C : World → Prop} {Qa : Act → Prop} (ty : TypeId) (x : Operand) (b o : Nat) (v : As) (d : TypeDesc) (hw : Region.wanted op (yielded ops a.tmps) = true) (ho : op.op = .load ty x) (hx : a.eval x = .pointer (some ⟨b, o, none⟩))
    (hC : ∀ w, C w → w.rangeAt b o v.row) (hu : P.underlying ty = some d) (hd : d.isRow = true) (hi : (P.info? ty).map (·.size) = some 3)
    (h : wpQuiet P ops C Qa rest (a.put op.dst (.agg (cellsAs v)))) : wpQuiet P ops C Qa (op :: rest) a := by
  unfold wpQuiet
  rw [if_pos hw]
  refine ⟨_, fun w hc => ?_, h⟩
  unfold Oper.quietAt execOp
  simp only [ho, hx, Instr.loadAt, Instr.sureAddr, Sem.run_bind, Sem.run_pure, Result.andThen_ok, run_loadVar_mid w b o ty v.row d (hC w hc) hu hd hi]
  exact ⟨rfl, rfl⟩
theorem wp_load_As {K : Act → World → Prop} (ty : TypeId) (x : Operand) (ho : op.op = .load ty x)
    (b off : Nat) (hx : a.eval x = .pointer (some ⟨b, off, none⟩)) (v : As) (d : TypeDesc) (hc : w.rangeAt b off v.row)
    (hu : P.underlying ty = some d) (hd : d.isRow = true) (hi : (P.info? ty).map (·.size) = some 3) (h : K (a.put op.dst (.agg (cellsAs v))) w) : op.wp P a w K Q := by
  unfold Oper.wp execOp
  simp only [ho, hx, Instr.loadAt, Instr.sureAddr, Sem.run_bind, Sem.run_pure, Result.andThen_ok, run_loadVar_mid w b off ty v.row d hc hu hd hi]
  exact h
theorem wpList_build_As (hg : op.guard = none) (t : TypeId) (parts : Array (Nat × Operand)) (ho : op.op = .build t parts) (v : As)
    (hf : P.built t (parts.map fun (i, x) => (i, a.eval x)).toList = some (cellsAs v)) (h : wpList P ops Q rest (a.put op.dst (.agg (cellsAs v))) w) : wpList P ops Q (op :: rest) a w :=
  wpList_build hg t parts ho (by rw [hf]; rfl) (by rw [hf]; exact h)
theorem q_build_As {C : World → Prop} {Qa : Act → Prop} (t : TypeId) (parts : Array (Nat × Operand)) (hw : Region.wanted op (yielded ops a.tmps) = true) (ho : op.op = .build t parts) (v : As) (hf : P.built t (parts.map fun (i, x) => (i, a.eval x)).toList = some (cellsAs v)) (h : wpQuiet P ops C Qa rest (a.put op.dst (.agg (cellsAs v)))) : wpQuiet P ops C Qa (op :: rest) a := by
  refine q_val (.agg (cellsAs v)) hw (fun w => ?_) h
  have e := run_build (P := P) w t (parts.map fun (i, x) => (i, a.eval x)) _ hf
  unfold execOp
  rw [ho]
  show ((Instr.build t (parts.map fun (i, x) => (i, a.eval x))) >>= fun r => pure (Next.value r)).run P w = _
  rw [Sem.run_bind, e]
  rfl
end
theorem Blk.rangeAs {w : World} {b t : Nat} {v : As} (h : Blk w b t (cellsAs v)) : w.rangeAt b 0 v.row := fun j u hu => by
  rw [Nat.zero_add, h.cell j]
  simpa [cellsAs] using hu
theorem run_oneAs (x : As) (w : World) : (Instr.buildSlice 45 1 #[(0, .agg (cellsAs x))]).run Try.prog w = .ok (.slice (some ⟨w.heap.size, 0, none⟩) 1 1) (w.alloc (.cells (cellsAs x) 47)) := by
  obtain ⟨i, hi, hz, hs, hby⟩ := appAs
  simp [Instr.buildSlice, run_underlying Try.underlying45, sizeOf, typeInfo, hi, hz, hs, Instr.fill, newRow, go_sem, cellsAs, As.row]
theorem wp_oneAs {o : Oper} {a : Act} {w : World} {K : Act → World → Prop} {Q : Exit → Act → World → Prop} (x : Operand) (p : As) (ho : o.op = .buildSlice 45 1 #[(0, x)]) (hx : a.eval x = .agg (cellsAs p))
    (h : K (a.put o.dst (.slice (some ⟨w.heap.size, 0, none⟩) 1 1)) (w.alloc (.cells (cellsAs p) 47))) : o.wp Try.prog a w K Q := by
  unfold Oper.wp execOp
  simp only [ho, List.map_toArray, List.map_cons, List.map_nil, hx, Sem.run_bind, run_oneAs p w, Result.andThen_ok, Sem.run_pure]
  exact h
theorem wpList_oneAs {ops : Array Oper} {rest : List Oper} {o : Oper} {a : Act} {w : World} {Q : Exit → Act → World → Prop} (hgd : o.guard = none) (x : Operand) (p : As) (ho : o.op = .buildSlice 45 1 #[(0, x)]) (hx : a.eval x = .agg (cellsAs p))
    (h : wpList Try.prog ops Q rest (a.put o.dst (.slice (some ⟨w.heap.size, 0, none⟩) 1 1)) (w.alloc (.cells (cellsAs p) 47))) : wpList Try.prog ops Q (o :: rest) a w :=
  wpList_plain hgd fun _ hK => wp_oneAs x p ho hx (hK _ _ h)

/-! ### the laws' arguments -/
section
variable {H : Type} {enc : TypeId × Value → H} {w : World} {base : Nat} {spare : Nat → Bool} {held : Bool}
theorem trodAs {n : Nat} {cs : List Value} {x : DataW H × List MemPlace} (h : DataW.trod enc Try.prog w base spare held n 47 cs = some x) : ∃ v : As, cs = v.row ∧ FitsAs v := by
  obtain ⟨ys, n', hn', hy, hlen, hyl, hf⟩ := DataW.trod_struct Try.underlying47 h
  have hlen : cs.length = 3 := hlen.trans (by kernel_rfl)
  have hyl : ys.length = 3 := hyl
  have get : ∀ j (f : Field), j < 3 → f.offset = j → Try.prog.cellsOf f.type = 1 → DataW.trod enc Try.prog w base spare held n' f.type ((cs.drop f.offset).take (Try.prog.cellsOf f.type)) = ys[j]? → ∃ v y, cs[j]? = some v ∧ DataW.trod enc Try.prog w base spare held n' f.type [v] = some y := by
    intro j f hj ho hc ht
    rw [ho, hc, List.drop_eq_getElem_cons (by omega), List.getElem?_eq_getElem (by omega)] at ht
    exact ⟨_, _, List.getElem?_eq_getElem (by omega), ht⟩
  obtain ⟨v0, y0, c0, t0⟩ := get 0 _ (by omega) rfl (by kernel_rfl) (hf 0 _ rfl)
  obtain ⟨v1, y1, c1, t1⟩ := get 1 _ (by omega) rfl (by kernel_rfl) (hf 1 _ rfl)
  obtain ⟨v2, y2, c2, t2⟩ := get 2 _ (by omega) rfl (by kernel_rfl) (hf 2 _ rfl)
  obtain ⟨x0, e0, _, w0⟩ := DataW.trod_int Try.underlying3 t0
  obtain ⟨x1, e1, _, w1⟩ := DataW.trod_int Try.underlying3 t1
  obtain ⟨x2, e2, _, w2⟩ := DataW.trod_int Try.underlying3 t2
  injection e0 with e0; injection e1 with e1; injection e2 with e2
  subst e0 e1 e2
  refine ⟨⟨x0, x1, x2⟩, ?_, w0, w1, w2⟩
  match cs, hlen with
  | [a0, a1, a2], _ =>
    simp at c0 c1 c2
    subst c0 c1 c2
    rfl
def IsAss (w : World) (a : Option Addr) (len cap : Nat) : Prop := IsLstR As.row 3 FitsAs w a len cap
theorem open_S45 {r : Reach} {b0 : Nat} {v : Value} {d : DataW H} {p : List MemPlace} (hv : Value.okWide Try.prog w r b0 45 v) (h : DataW.Trod enc Try.prog w base (fun _ => true) held 45 v d p) : ∃ (a : Option Addr) (len cap : Nat), v = .slice a len cap ∧ IsAss w a len cap :=
  open_lstR Try.underlying45 (by kernel_rfl) As.row_len (by decide) (fun n cs x h _ => trodAs h) hv h
end
end Go.Proofs.Ythnhpmeacboljaa
