/- An accepted exit: its value, '==' on two, one in memory, a literal, the laws' arguments (written by mkrow.py). -/
import Derived.Test.YtjleklhajmhekaaSeqs
import Derived.Test.YtjleklhajmhekaaClass
import Derived.Test.YtjleklhajmhekaaFirst
import Derived.Laws.Tables
import Derived.Laws.Build
namespace Go.Proofs.Ytjleklhajmhekaa
open Go Go.ChangeShapes Go.WideShapes Go.RowKit Go.Deep
set_option linter.unusedVariables false
set_option linter.unusedSimpArgs false
set_option maxRecDepth 100000

structure Ex where
  ep : Int
  ah : Int
  wt : Int
deriving DecidableEq, Inhabited

def Ex.row (v : Ex) : List Value := [.int .i64 v.ep, .int .u64 v.ah, .int .u64 v.wt]
def cellsEx (v : Ex) : Array Value := v.row.toArray
def FitsEx (v : Ex) : Prop := (Lit.int .i64 v.ep).wf = true ∧ (Lit.int .u64 v.ah).wf = true ∧ (Lit.int .u64 v.wt).wf = true
def exZ : Ex := ⟨0, 0, 0⟩
theorem Ex.row_len (v : Ex) : v.row.length = 3 := rfl
theorem Ex.row_one (v : Ex) : ∀ u ∈ v.row, u.oneCell' = true := by
  intro u hu
  simp only [Ex.row, List.mem_cons, List.not_mem_nil, or_false] at hu
  rcases hu with rfl | rfl | rfl <;> rfl
theorem cellsEx_one (v : Ex) : (cellsEx v).all (·.oneCell') = true := by
  refine Array.all_eq_true_iff_forall_mem.2 (fun u hu => Ex.row_one v u (by simpa [cellsEx] using hu))
theorem cellsEx_size (v : Ex) : (cellsEx v).size = 3 := rfl
theorem infoEx : (Try.prog.info? 24).map (·.size) = some 3 := by kernel_rfl
theorem appEx : ∃ i, Try.prog.info? 24 = some i ∧ i.zero = some (.agg (cellsEx exZ)) ∧ i.size = 3 ∧ i.bytes = 24 := by
  have h : (Try.prog.info? 24).map (fun i => (i.zero, i.size, i.bytes)) = some (some (.agg (cellsEx exZ)), 3, 24) := by kernel_rfl
  cases hi : Try.prog.info? 24 with
  | none => rw [hi] at h; cases h
  | some i =>
    rw [hi] at h
    simp at h
    exact ⟨i, rfl, h.1, h.2.1, h.2.2⟩
theorem eqEx (x y : Ex) (w : World) : (Op.equalIn 10000 24 (.agg (cellsEx x)) (.agg (cellsEx y))).run Try.prog w = .ok (decide (x = y)) w := by
  obtain ⟨r, hr, hr2⟩ := equal_struct_one (P := Try.prog) w (cellsEx x) (cellsEx y) Try.underlying24 (by kernel_rfl) (fun f hf => by
    simp only [List.mem_cons, List.not_mem_nil, or_false] at hf
    rcases hf with rfl | rfl | rfl
    · exact ⟨by decide, .inl ⟨.i64, x.ep, y.ep, Try.underlying3, rfl, rfl⟩⟩
    · exact ⟨by decide, .inl ⟨.u64, x.ah, y.ah, Try.underlying22, rfl, rfl⟩⟩
    · exact ⟨by decide, .inl ⟨.u64, x.wt, y.wt, Try.underlying22, rfl, rfl⟩⟩)
  refine hr.trans ?_
  have : r = decide (x = y) := by
    rw [Bool.eq_iff_iff, hr2, decide_eq_true_eq]
    constructor
    · intro h
      simp only [List.mem_cons, List.not_mem_nil, or_false, forall_eq_or_imp, forall_eq] at h
      obtain ⟨h0, h1, h2⟩ := h
      obtain ⟨a0, a1, a2⟩ := x
      obtain ⟨b0, b1, b2⟩ := y
      simp [cellsEx, Ex.row] at h0 h1 h2
      simp [*]
    · rintro rfl
      simp
  rw [this]
theorem exec_eqEx {a : Act} {dst : Option Tmp} {yt ty : TypeId} {x y : Operand} {pos : String} {after : Array Edge} {guard : Option (Nat × Bool)} {w : World} {p q : Ex} {r : Bool} (hx : a.eval x = .agg (cellsEx p)) (hy : a.eval y = .agg (cellsEx q)) (hr : decide (p = q) = r) :
    (execOp a.eval { dst, op := .binOp .eql 24 x y yt, type := ty, pos, after, guard }).run Try.prog w = .ok (.value (.bool r)) w := by
  simp only [execOp, hx, hy, Sem.run_bind, run_eqGuard_agg w .eql _ x y _ _ (show Try.prog.eqGuardType Try.prog.depth 24 = false by kernel_rfl), Result.andThen_ok, run_eql_struct, eqEx p q w, Sem.run_pure, hr]
theorem exec_neEx {a : Act} {dst : Option Tmp} {yt ty : TypeId} {x y : Operand} {pos : String} {after : Array Edge} {guard : Option (Nat × Bool)} {w : World} {p q : Ex} {r : Bool} (hx : a.eval x = .agg (cellsEx p)) (hy : a.eval y = .agg (cellsEx q)) (hr : (!decide (p = q)) = r) :
    (execOp a.eval { dst, op := .binOp .neq 24 x y yt, type := ty, pos, after, guard }).run Try.prog w = .ok (.value (.bool r)) w := by
  simp only [execOp, hx, hy, Sem.run_bind, run_eqGuard_agg w .neq _ x y _ _ (show Try.prog.eqGuardType Try.prog.depth 24 = false by kernel_rfl), Result.andThen_ok, run_neq_struct, eqEx p q w, Sem.run_pure, hr]
theorem q_eqEx {C : World → Prop} {Qa : Act → Prop} {ops : Array Oper} {rest : List Oper} {a : Act} {dst : Option Tmp} {yt ty : TypeId} {x y : Operand} {pos : String} {after : Array Edge} {guard : Option (Nat × Bool)} (p q : Ex) (r : Bool) (hw : Region.wanted { dst, op := .binOp .eql 24 x y yt, type := ty, pos, after, guard } (yielded ops a.tmps) = true) (hx : a.eval x = .agg (cellsEx p)) (hy : a.eval y = .agg (cellsEx q)) (hr : decide (p = q) = r)
    (h : wpQuiet Try.prog ops C Qa rest (a.put dst (.bool r))) : wpQuiet Try.prog ops C Qa ({ dst, op := .binOp .eql 24 x y yt, type := ty, pos, after, guard } :: rest) a :=
  q_val (.bool r) hw (fun w => exec_eqEx hx hy hr) h
theorem q_neEx {C : World → Prop} {Qa : Act → Prop} {ops : Array Oper} {rest : List Oper} {a : Act} {dst : Option Tmp} {yt ty : TypeId} {x y : Operand} {pos : String} {after : Array Edge} {guard : Option (Nat × Bool)} (p q : Ex) (r : Bool) (hw : Region.wanted { dst, op := .binOp .neq 24 x y yt, type := ty, pos, after, guard } (yielded ops a.tmps) = true) (hx : a.eval x = .agg (cellsEx p)) (hy : a.eval y = .agg (cellsEx q)) (hr : (!decide (p = q)) = r)
    (h : wpQuiet Try.prog ops C Qa rest (a.put dst (.bool r))) : wpQuiet Try.prog ops C Qa ({ dst, op := .binOp .neq 24 x y yt, type := ty, pos, after, guard } :: rest) a :=
  q_val (.bool r) hw (fun w => exec_neEx hx hy hr) h

/-! ### arms -/
section
variable {P : Program} {ops : Array Oper} {rest : List Oper} {op : Oper} {a : Act} {w : World} {Q : Exit → Act → World → Prop}
theorem wpList_load_Ex (hgd : op.guard = none) (ty : TypeId) (x : Operand) (ho : op.op = .load ty x)
    (b o : Nat) (hx : a.eval x = .pointer (some ⟨b, o, none⟩)) (v : Ex) (d : TypeDesc) (hc : w.rangeAt b o v.row)
    (hu : P.underlying ty = some d) (hd : d.isRow = true) (hi : (P.info? ty).map (·.size) = some 3)
    (h : wpList P ops Q rest (a.put op.dst (.agg (cellsEx v))) w) : wpList P ops Q (op :: rest) a w :=
  wpList_load_mid hgd ty x ho b o hx v.row d hc hu hd hi h
theorem q_load_Ex {C : World → Prop} {Qa : Act → Prop} (ty : TypeId) (x : Operand) (b o : Nat) (v : Ex) (d : TypeDesc) (hw : Region.wanted op (yielded ops a.tmps) = true) (ho : op.op = .load ty x) (hx : a.eval x = .pointer (some ⟨b, o, none⟩))
    (hC : ∀ w, C w → w.rangeAt b o v.row) (hu : P.underlying ty = some d) (hd : d.isRow = true) (hi : (P.info? ty).map (·.size) = some 3)
    (h : wpQuiet P ops C Qa rest (a.put op.dst (.agg (cellsEx v)))) : wpQuiet P ops C Qa (op :: rest) a := by
  unfold wpQuiet
  rw [if_pos hw]
  refine ⟨_, fun w hc => ?_, h⟩
  unfold Oper.quietAt execOp
  simp only [ho, hx, Instr.loadAt, Instr.sureAddr, Sem.run_bind, Sem.run_pure, Result.andThen_ok, run_loadVar_mid w b o ty v.row d (hC w hc) hu hd hi]
  exact ⟨rfl, rfl⟩
theorem wp_load_Ex {K : Act → World → Prop} (ty : TypeId) (x : Operand) (ho : op.op = .load ty x)
    (b off : Nat) (hx : a.eval x = .pointer (some ⟨b, off, none⟩)) (v : Ex) (d : TypeDesc) (hc : w.rangeAt b off v.row)
    (hu : P.underlying ty = some d) (hd : d.isRow = true) (hi : (P.info? ty).map (·.size) = some 3) (h : K (a.put op.dst (.agg (cellsEx v))) w) : op.wp P a w K Q := by
  unfold Oper.wp execOp
  simp only [ho, hx, Instr.loadAt, Instr.sureAddr, Sem.run_bind, Sem.run_pure, Result.andThen_ok, run_loadVar_mid w b off ty v.row d hc hu hd hi]
  exact h
theorem wpList_build_Ex (hg : op.guard = none) (t : TypeId) (parts : Array (Nat × Operand)) (ho : op.op = .build t parts) (v : Ex)
    (hf : P.built t (parts.map fun (i, x) => (i, a.eval x)).toList = some (cellsEx v)) (h : wpList P ops Q rest (a.put op.dst (.agg (cellsEx v))) w) : wpList P ops Q (op :: rest) a w :=
  wpList_build hg t parts ho (by rw [hf]; rfl) (by rw [hf]; exact h)
theorem q_build_Ex {C : World → Prop} {Qa : Act → Prop} (t : TypeId) (parts : Array (Nat × Operand)) (hw : Region.wanted op (yielded ops a.tmps) = true) (ho : op.op = .build t parts) (v : Ex) (hf : P.built t (parts.map fun (i, x) => (i, a.eval x)).toList = some (cellsEx v)) (h : wpQuiet P ops C Qa rest (a.put op.dst (.agg (cellsEx v)))) : wpQuiet P ops C Qa (op :: rest) a := by
  refine q_val (.agg (cellsEx v)) hw (fun w => ?_) h
  have e := run_build (P := P) w t (parts.map fun (i, x) => (i, a.eval x)) _ hf
  unfold execOp
  rw [ho]
  show ((Instr.build t (parts.map fun (i, x) => (i, a.eval x))) >>= fun r => pure (Next.value r)).run P w = _
  rw [Sem.run_bind, e]
  rfl
end
theorem Blk.rangeEx {w : World} {b t : Nat} {v : Ex} (h : Blk w b t (cellsEx v)) : w.rangeAt b 0 v.row := fun j u hu => by
  rw [Nat.zero_add, h.cell j]
  simpa [cellsEx] using hu

/-! ### the laws' arguments -/
section
variable {H : Type} {enc : TypeId × Value → H} {w : World} {base : Nat} {spare : Nat → Bool} {held : Bool}
theorem trodEx {n : Nat} {cs : List Value} {x : DataW H × List MemPlace} (h : DataW.trod enc Try.prog w base spare held n 24 cs = some x) : ∃ v : Ex, cs = v.row ∧ FitsEx v := by
  obtain ⟨ys, n', hn', hy, hlen, hyl, hf⟩ := DataW.trod_struct Try.underlying24 h
  have hlen : cs.length = 3 := hlen.trans (by kernel_rfl)
  have hyl : ys.length = 3 := hyl
  have get : ∀ j (f : Field), j < 3 → f.offset = j → Try.prog.cellsOf f.type = 1 → DataW.trod enc Try.prog w base spare held n' f.type ((cs.drop f.offset).take (Try.prog.cellsOf f.type)) = ys[j]? → ∃ v y, cs[j]? = some v ∧ DataW.trod enc Try.prog w base spare held n' f.type [v] = some y := by
    intro j f hj ho hc ht
    rw [ho, hc, List.drop_eq_getElem_cons (by omega), List.getElem?_eq_getElem (by omega)] at ht
    exact ⟨_, _, List.getElem?_eq_getElem (by omega), ht⟩
  obtain ⟨v0, y0, c0, t0⟩ := get 0 _ (by omega) rfl (by kernel_rfl) (hf 0 _ rfl)
  obtain ⟨v1, y1, c1, t1⟩ := get 1 _ (by omega) rfl (by kernel_rfl) (hf 1 _ rfl)
  obtain ⟨v2, y2, c2, t2⟩ := get 2 _ (by omega) rfl (by kernel_rfl) (hf 2 _ rfl)
  obtain ⟨x0, e0, _, w0⟩ := DataW.trod_int Try.underlying3 t0
  obtain ⟨x1, e1, _, w1⟩ := DataW.trod_int Try.underlying22 t1
  obtain ⟨x2, e2, _, w2⟩ := DataW.trod_int Try.underlying22 t2
  injection e0 with e0; injection e1 with e1; injection e2 with e2
  subst e0 e1 e2
  refine ⟨⟨x0, x1, x2⟩, ?_, w0, w1, w2⟩
  match cs, hlen with
  | [a0, a1, a2], _ =>
    simp at c0 c1 c2
    subst c0 c1 c2
    rfl
theorem open_T24 {r : Reach} {b0 : Nat} {v : Value} {d : DataW H} {p : List MemPlace}
    (hv : Value.okWide Try.prog w r b0 24 v) (h : DataW.Trod enc Try.prog w base spare held 24 v d p) : ∃ c : Ex, v = .agg (cellsEx c) ∧ FitsEx c := by
  obtain ⟨cs, rfl, hsz⟩ := okWide_struct Try.underlying24 hv
  obtain ⟨fuel, hf⟩ := h
  obtain ⟨c, hc, hfit⟩ := trodEx hf
  refine ⟨c, ?_, hfit⟩
  have : cs.toList = c.row := hc
  rw [cellsEx, ← this]
def IsExs (w : World) (a : Option Addr) (len cap : Nat) : Prop := IsLstR Ex.row 3 FitsEx w a len cap
end
end Go.Proofs.Ytjleklhajmhekaa
