/- A validator's value: seven cells; '==' on two; in memory; one that came in (stage 7's, without its lists). -/
import Derived.Test.YtfcjgllljejfcaaStructs
import Derived.Test.YtfcjgllljejfcaaSlices
import Derived.Test.YtfcjgllljejfcaaSame
import Derived.ChangeSlices
namespace Go.Proofs.Ytfcjgllljejfcaa
open Go Go.ChangeShapes Go.WideShapes Go.RowKit Go.Deep

structure Val where
  bal : Int
  st : Int
  sl : Bool
  rq : Int
  ex : Int
  wd : Int
  dl : Int
deriving DecidableEq, Inhabited

def Val.row (v : Val) : List Value := [.int .u64 v.bal, .int .i64 v.st, .bool v.sl, .int .i64 v.rq, .int .i64 v.ex, .int .i64 v.wd, .int .i64 v.dl]
def cellsV (v : Val) : Array Value := v.row.toArray
def FitsV (v : Val) : Prop := (Lit.int .u64 v.bal).wf = true ∧ (Lit.int .i64 v.st).wf = true
def val0 : Val := ⟨0, 0, false, 0, 0, 0, 0⟩
theorem row_len (v : Val) : v.row.length = 7 := rfl
theorem row_one (v : Val) : ∀ u ∈ v.row, u.oneCell' = true := by
  intro u hu
  simp only [Val.row, List.mem_cons, List.not_mem_nil, or_false] at hu
  rcases hu with rfl | rfl | rfl | rfl | rfl | rfl | rfl <;> rfl
theorem cellsV_one (v : Val) : (cellsV v).all (·.oneCell') = true := by
  refine Array.all_eq_true_iff_forall_mem.2 (fun u hu => row_one v u (by simpa [cellsV] using hu))
theorem cellsV_size (v : Val) : (cellsV v).size = 7 := rfl
theorem infoV : (Try.prog.info? 28).map (·.size) = some 7 := by kernel_rfl
theorem FitsV.bal {v : Val} (h : FitsV v) : 0 ≤ v.bal ∧ v.bal ≤ 18446744073709551615 := bounds_u64 h.1

/-! ### equality -/
section
variable {P : Program} (w : World)
theorem eqFields_any (d : Nat) (xs ys : Array Value) :
    ∀ (fs : List Field), (∀ f ∈ fs, f.name ≠ "_" ∧ ((∃ k n m, P.underlying f.type = some (.int k) ∧ xs[f.offset]? = some (.int k n) ∧ ys[f.offset]? = some (.int k m)) ∨ ∃ n m, P.underlying f.type = some .bool ∧ xs[f.offset]? = some (.bool n) ∧ ys[f.offset]? = some (.bool m))) →
      ∃ r, (Op.eqFields (d + 1) xs ys fs).run P w = .ok r w ∧ (r = true ↔ ∀ f ∈ fs, xs[f.offset]? = ys[f.offset]?)
  | [], _ => ⟨true, by simp [Op.eqFields], by simp⟩
  | f :: fs, h => by
    obtain ⟨hname, h1⟩ := h f (by simp)
    obtain ⟨r, hr, hr2⟩ := eqFields_any d xs ys fs (fun j hj => h j (by simp [hj]))
    rcases h1 with ⟨k, n, m, hk, hn, hm⟩ | ⟨n, m, hk, hn, hm⟩
    · have hp := run_part_plain w (plainKey_int hk) hn
      have hp' := run_part_plain w (plainKey_int hk) hm
      have hq := run_equalIn_int (P := P) w d f.type k k n m hk
      by_cases he : n = m
      · subst he
        refine ⟨r, by simp only [Op.eqFields, hname, ne_eq, not_false_eq_true, if_true, Sem.run_bind, hp, hp', hq, Result.andThen_ok]; simpa using hr, ?_⟩
        simp only [List.mem_cons, forall_eq_or_imp, hn, hm, true_and]
        exact hr2
      · refine ⟨false, by simp only [Op.eqFields, hname, ne_eq, not_false_eq_true, if_true, Sem.run_bind, hp, hp', hq, Result.andThen_ok]; simp [he], ?_⟩
        simp [hn, hm, he]
    · have hp := run_part_plain (P := P) w (e := f.type) (by simp [Program.plainKey, hk]) hn
      have hp' := run_part_plain (P := P) w (e := f.type) (by simp [Program.plainKey, hk]) hm
      have hq := run_equalIn_bool' (P := P) w d f.type n m hk
      by_cases he : n = m
      · subst he
        refine ⟨r, by simp only [Op.eqFields, hname, ne_eq, not_false_eq_true, if_true, Sem.run_bind, hp, hp', hq, Result.andThen_ok]; simpa using hr, ?_⟩
        simp only [List.mem_cons, forall_eq_or_imp, hn, hm, true_and]
        exact hr2
      · refine ⟨false, by simp only [Op.eqFields, hname, ne_eq, not_false_eq_true, if_true, Sem.run_bind, hp, hp', hq, Result.andThen_ok]; simp [he], ?_⟩
        simp [hn, hm, he]
theorem equal_struct_any {t : TypeId} {fs : Array Field} (xs ys : Array Value) (hu : P.underlying t = some (.struct fs)) (hp : P.stoodInHeld t = false)
    (hx : ∀ f ∈ fs.toList, f.name ≠ "_" ∧ ((∃ k n m, P.underlying f.type = some (.int k) ∧ xs[f.offset]? = some (.int k n) ∧ ys[f.offset]? = some (.int k m)) ∨ ∃ n m, P.underlying f.type = some .bool ∧ xs[f.offset]? = some (.bool n) ∧ ys[f.offset]? = some (.bool m))) :
    ∃ r, (Op.equalIn 10000 t (.agg xs) (.agg ys)).run P w = .ok r w ∧ (r = true ↔ ∀ f ∈ fs.toList, xs[f.offset]? = ys[f.offset]?) := by
  have hf : P.fieldsOf t = fs := by simp [Program.fieldsOf, hu]
  rw [run_equalIn_struct w 9999 t xs ys (by rw [hf]; exact hu) hp, hf]
  exact eqFields_any w 9998 xs ys _ hx
end
theorem eq_val (x y : Val) (w : World) : (Op.equalIn 10000 28 (.agg (cellsV x)) (.agg (cellsV y))).run Try.prog w = .ok (decide (x = y)) w := by
  obtain ⟨r, hr, hr2⟩ := equal_struct_any (P := Try.prog) w (cellsV x) (cellsV y) Try.underlying28 (by kernel_rfl) (fun f hf => by
    simp only [List.mem_cons, List.not_mem_nil, or_false] at hf
    rcases hf with rfl | rfl | rfl | rfl | rfl | rfl | rfl
    · exact ⟨by decide, .inl ⟨.u64, x.bal, y.bal, Try.underlying22, rfl, rfl⟩⟩
    · exact ⟨by decide, .inl ⟨.i64, x.st, y.st, Try.underlying3, rfl, rfl⟩⟩
    · exact ⟨by decide, .inr ⟨x.sl, y.sl, Try.underlying4, rfl, rfl⟩⟩
    · exact ⟨by decide, .inl ⟨.i64, x.rq, y.rq, Try.underlying3, rfl, rfl⟩⟩
    · exact ⟨by decide, .inl ⟨.i64, x.ex, y.ex, Try.underlying3, rfl, rfl⟩⟩
    · exact ⟨by decide, .inl ⟨.i64, x.wd, y.wd, Try.underlying3, rfl, rfl⟩⟩
    · exact ⟨by decide, .inl ⟨.i64, x.dl, y.dl, Try.underlying3, rfl, rfl⟩⟩)
  refine hr.trans ?_
  have : r = decide (x = y) := by
    rw [Bool.eq_iff_iff, hr2, decide_eq_true_eq]
    constructor
    · intro h
      simp only [List.mem_cons, List.not_mem_nil, or_false, forall_eq_or_imp, forall_eq] at h
      obtain ⟨h0, h1, h2, h3, h4, h5, h6⟩ := h
      obtain ⟨a0, a1, a2, a3, a4, a5, a6⟩ := x
      obtain ⟨b0, b1, b2, b3, b4, b5, b6⟩ := y
      simp [cellsV, Val.row] at h0 h1 h2 h3 h4 h5 h6
      simp [*]
    · rintro rfl
      simp
  rw [this]
theorem same_val (x : Val) (w : World) : (Op.equalIn 10000 28 (.agg (cellsV x)) (.agg (cellsV x))).run Try.prog w = .ok true w := by
  rw [eq_val]
  simp

/-! ### in memory -/
theorem World.rangeAt.same {w w' : World} {b o : Nat} {cs : List Value} (h : w.rangeAt b o cs) (hb : w'.heap[b]? = w.heap[b]?) : w'.rangeAt b o cs := fun j v hv => (World.cell?_of_block (w := w) (a := ⟨b, o + j, none⟩) hb).trans (h j v hv)
theorem Blk.range {w : World} {b t : Nat} {v : Val} (h : Blk w b t (cellsV v)) : w.rangeAt b 0 v.row := fun j u hu => by
  rw [Nat.zero_add, h.cell j]
  simpa [cellsV] using hu

/-! ### arms -/
section
variable {P : Program} {ops : Array Oper} {rest : List Oper} {op : Oper} {a : Act} {w : World} {Q : Exit → Act → World → Prop}
theorem wpList_load_val (hgd : op.guard = none) (ty : TypeId) (x : Operand) (ho : op.op = .load ty x)
    (b o : Nat) (hx : a.eval x = .pointer (some ⟨b, o, none⟩)) (v : Val) (d : TypeDesc) (hc : w.rangeAt b o v.row)
    (hu : P.underlying ty = some d) (hd : d.isRow = true) (hi : (P.info? ty).map (·.size) = some 7)
    (h : wpList P ops Q rest (a.put op.dst (.agg (cellsV v))) w) : wpList P ops Q (op :: rest) a w :=
  wpList_load_mid hgd ty x ho b o hx v.row d hc hu hd hi h
theorem q_load_val {C : World → Prop} {Qa : Act → Prop} (ty : TypeId) (x : Operand) (b o : Nat) (v : Val) (d : TypeDesc) (hw : Region.wanted op (yielded ops a.tmps) = true) (ho : op.op = .load ty x) (hx : a.eval x = .pointer (some ⟨b, o, none⟩))
    (hC : ∀ w, C w → w.rangeAt b o v.row) (hu : P.underlying ty = some d) (hd : d.isRow = true) (hi : (P.info? ty).map (·.size) = some 7)
    (h : wpQuiet P ops C Qa rest (a.put op.dst (.agg (cellsV v)))) : wpQuiet P ops C Qa (op :: rest) a := by
  unfold wpQuiet
  rw [if_pos hw]
  refine ⟨_, fun w hc => ?_, h⟩
  unfold Oper.quietAt execOp
  simp only [ho, hx, Instr.loadAt, Instr.sureAddr, Sem.run_bind, Sem.run_pure, Result.andThen_ok, run_loadVar_mid w b o ty v.row d (hC w hc) hu hd hi]
  exact ⟨rfl, rfl⟩
end

/-! ### the laws' arguments -/
section
variable {H : Type} {enc : TypeId × Value → H} {w : World} {base : Nat} {spare : Nat → Bool} {held : Bool}
theorem trod_val {n : Nat} {cs : List Value} {x : DataW H × List MemPlace} (h : DataW.trod enc Try.prog w base spare held n 28 cs = some x) : ∃ v : Val, cs = v.row ∧ FitsV v := by
  obtain ⟨ys, n', hn', hy, hlen, hyl, hf⟩ := DataW.trod_struct Try.underlying28 h
  have hlen : cs.length = 7 := hlen.trans (by kernel_rfl)
  have hyl : ys.length = 7 := hyl
  have hv : ∀ j, j < 7 → ∃ v, cs[j]? = some v := fun j hj => ⟨_, List.getElem?_eq_getElem (by omega)⟩
  have hone : ∀ j (f : Field) v, j < 7 → f.offset = j → Try.prog.cellsOf f.type = 1 → cs[j]? = some v → (∀ y, DataW.trod enc Try.prog w base spare held n' f.type [v] = some y → ∃ y', ys[j]? = some y') → True := fun _ _ _ _ _ _ _ _ => trivial
  clear hone
  have get : ∀ j (f : Field), j < 7 → f.offset = j → Try.prog.cellsOf f.type = 1 → DataW.trod enc Try.prog w base spare held n' f.type ((cs.drop f.offset).take (Try.prog.cellsOf f.type)) = ys[j]? → ∃ v y, cs[j]? = some v ∧ DataW.trod enc Try.prog w base spare held n' f.type [v] = some y := by
    intro j f hj ho hc ht
    rw [ho, hc, List.drop_eq_getElem_cons (by omega), List.getElem?_eq_getElem (by omega)] at ht
    exact ⟨_, _, List.getElem?_eq_getElem (by omega), ht⟩
  obtain ⟨v0, y0, c0, t0⟩ := get 0 _ (by omega) rfl (by kernel_rfl) (hf 0 _ rfl)
  obtain ⟨v1, y1, c1, t1⟩ := get 1 _ (by omega) rfl (by kernel_rfl) (hf 1 _ rfl)
  obtain ⟨v2, y2, c2, t2⟩ := get 2 _ (by omega) rfl (by kernel_rfl) (hf 2 _ rfl)
  obtain ⟨v3, y3, c3, t3⟩ := get 3 _ (by omega) rfl (by kernel_rfl) (hf 3 _ rfl)
  obtain ⟨v4, y4, c4, t4⟩ := get 4 _ (by omega) rfl (by kernel_rfl) (hf 4 _ rfl)
  obtain ⟨v5, y5, c5, t5⟩ := get 5 _ (by omega) rfl (by kernel_rfl) (hf 5 _ rfl)
  obtain ⟨v6, y6, c6, t6⟩ := get 6 _ (by omega) rfl (by kernel_rfl) (hf 6 _ rfl)
  obtain ⟨x0, e0, _, w0⟩ := DataW.trod_int Try.underlying22 t0
  obtain ⟨x1, e1, _, w1⟩ := DataW.trod_int Try.underlying3 t1
  obtain ⟨x2, e2, _⟩ := DataW.trod_bool Try.underlying4 t2
  obtain ⟨x3, e3, _, _⟩ := DataW.trod_int Try.underlying3 t3
  obtain ⟨x4, e4, _, _⟩ := DataW.trod_int Try.underlying3 t4
  obtain ⟨x5, e5, _, _⟩ := DataW.trod_int Try.underlying3 t5
  obtain ⟨x6, e6, _, _⟩ := DataW.trod_int Try.underlying3 t6
  injection e0 with e0; injection e1 with e1; injection e2 with e2; injection e3 with e3; injection e4 with e4; injection e5 with e5; injection e6 with e6
  subst e0 e1 e2 e3 e4 e5 e6
  refine ⟨⟨x0, x1, x2, x3, x4, x5, x6⟩, ?_, w0, w1⟩
  match cs, hlen with
  | [a0, a1, a2, a3, a4, a5, a6], _ =>
    simp at c0 c1 c2 c3 c4 c5 c6
    subst c0 c1 c2 c3 c4 c5 c6
    rfl
theorem open_T28 {r : Reach} {b0 : Nat} {v : Value} {d : DataW H} {p : List MemPlace}
    (hv : Value.okWide Try.prog w r b0 28 v) (h : DataW.Trod enc Try.prog w base spare held 28 v d p) : ∃ c : Val, v = .agg (cellsV c) ∧ FitsV c := by
  obtain ⟨cs, rfl, hsz⟩ := okWide_struct Try.underlying28 hv
  obtain ⟨fuel, hf⟩ := h
  obtain ⟨c, hc, hfit⟩ := trod_val hf
  refine ⟨c, ?_, hfit⟩
  have : cs.toList = c.row := hc
  rw [cellsV, ← this]
end
end Go.Proofs.Ytfcjgllljejfcaa
