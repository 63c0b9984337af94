/- A validator's value: seven cells; '==' on two; lists of them in memory; the laws' arguments (a validator, validators, operations). -/
import Derived.Test.YtcmlkcmoailhjaaStructs
import Derived.Test.YtcmlkcmoailhjaaSlices
import Derived.Test.YtcmlkcmoailhjaaSame
import Derived.ChangeSlices
namespace Go.Proofs.Ytcmlkcmoailhjaa
open Go Go.ChangeShapes Go.WideShapes Go.RowKit Go.Deep

structure Val where
  bal : Int
  st : Int
  sl : Bool
  rq : Int
  ex : Int
  wd : Int
  dl : Int
deriving DecidableEq, Inhabited

def Val.row (v : Val) : List Value := [.int .u64 v.bal, .int .i64 v.st, .bool v.sl, .int .i64 v.rq, .int .i64 v.ex, .int .i64 v.wd, .int .i64 v.dl]
def cellsV (v : Val) : Array Value := v.row.toArray
def FitsV (v : Val) : Prop := (Lit.int .u64 v.bal).wf = true ∧ (Lit.int .i64 v.st).wf = true
def val0 : Val := ⟨0, 0, false, 0, 0, 0, 0⟩
theorem row_len (v : Val) : v.row.length = 7 := rfl
theorem row_one (v : Val) : ∀ u ∈ v.row, u.oneCell' = true := by
  intro u hu
  simp only [Val.row, List.mem_cons, List.not_mem_nil, or_false] at hu
  rcases hu with rfl | rfl | rfl | rfl | rfl | rfl | rfl <;> rfl
theorem cellsV_one (v : Val) : (cellsV v).all (·.oneCell') = true := by
  refine Array.all_eq_true_iff_forall_mem.2 (fun u hu => row_one v u (by simpa [cellsV] using hu))
theorem cellsV_size (v : Val) : (cellsV v).size = 7 := rfl
theorem infoV : (Try.prog.info? 29).map (·.size) = some 7 := by kernel_rfl
theorem FitsV.bal {v : Val} (h : FitsV v) : 0 ≤ v.bal ∧ v.bal ≤ 18446744073709551615 := bounds_u64 h.1

/-! ### equality -/
section
variable {P : Program} (w : World)
theorem eqFields_any (d : Nat) (xs ys : Array Value) :
    ∀ (fs : List Field), (∀ f ∈ fs, f.name ≠ "_" ∧ ((∃ k n m, P.underlying f.type = some (.int k) ∧ xs[f.offset]? = some (.int k n) ∧ ys[f.offset]? = some (.int k m)) ∨ ∃ n m, P.underlying f.type = some .bool ∧ xs[f.offset]? = some (.bool n) ∧ ys[f.offset]? = some (.bool m))) →
      ∃ r, (Op.eqFields (d + 1) xs ys fs).run P w = .ok r w ∧ (r = true ↔ ∀ f ∈ fs, xs[f.offset]? = ys[f.offset]?)
  | [], _ => ⟨true, by simp [Op.eqFields], by simp⟩
  | f :: fs, h => by
    obtain ⟨hname, h1⟩ := h f (by simp)
    obtain ⟨r, hr, hr2⟩ := eqFields_any d xs ys fs (fun j hj => h j (by simp [hj]))
    rcases h1 with ⟨k, n, m, hk, hn, hm⟩ | ⟨n, m, hk, hn, hm⟩
    · have hp := run_part_plain w (plainKey_int hk) hn
      have hp' := run_part_plain w (plainKey_int hk) hm
      have hq := run_equalIn_int (P := P) w d f.type k k n m hk
      by_cases he : n = m
      · subst he
        refine ⟨r, by simp only [Op.eqFields, hname, ne_eq, not_false_eq_true, if_true, Sem.run_bind, hp, hp', hq, Result.andThen_ok]; simpa using hr, ?_⟩
        simp only [List.mem_cons, forall_eq_or_imp, hn, hm, true_and]
        exact hr2
      · refine ⟨false, by simp only [Op.eqFields, hname, ne_eq, not_false_eq_true, if_true, Sem.run_bind, hp, hp', hq, Result.andThen_ok]; simp [he], ?_⟩
        simp [hn, hm, he]
    · have hp := run_part_plain (P := P) w (e := f.type) (by simp [Program.plainKey, hk]) hn
      have hp' := run_part_plain (P := P) w (e := f.type) (by simp [Program.plainKey, hk]) hm
      have hq := run_equalIn_bool' (P := P) w d f.type n m hk
      by_cases he : n = m
      · subst he
        refine ⟨r, by simp only [Op.eqFields, hname, ne_eq, not_false_eq_true, if_true, Sem.run_bind, hp, hp', hq, Result.andThen_ok]; simpa using hr, ?_⟩
        simp only [List.mem_cons, forall_eq_or_imp, hn, hm, true_and]
        exact hr2
      · refine ⟨false, by simp only [Op.eqFields, hname, ne_eq, not_false_eq_true, if_true, Sem.run_bind, hp, hp', hq, Result.andThen_ok]; simp [he], ?_⟩
        simp [hn, hm, he]
theorem equal_struct_any {t : TypeId} {fs : Array Field} (xs ys : Array Value) (hu : P.underlying t = some (.struct fs)) (hp : P.stoodInHeld t = false)
    (hx : ∀ f ∈ fs.toList, f.name ≠ "_" ∧ ((∃ k n m, P.underlying f.type = some (.int k) ∧ xs[f.offset]? = some (.int k n) ∧ ys[f.offset]? = some (.int k m)) ∨ ∃ n m, P.underlying f.type = some .bool ∧ xs[f.offset]? = some (.bool n) ∧ ys[f.offset]? = some (.bool m))) :
    ∃ r, (Op.equalIn 10000 t (.agg xs) (.agg ys)).run P w = .ok r w ∧ (r = true ↔ ∀ f ∈ fs.toList, xs[f.offset]? = ys[f.offset]?) := by
  have hf : P.fieldsOf t = fs := by simp [Program.fieldsOf, hu]
  rw [run_equalIn_struct w 9999 t xs ys (by rw [hf]; exact hu) hp, hf]
  exact eqFields_any w 9998 xs ys _ hx
end
theorem eq_val (x y : Val) (w : World) : (Op.equalIn 10000 29 (.agg (cellsV x)) (.agg (cellsV y))).run Try.prog w = .ok (decide (x = y)) w := by
  obtain ⟨r, hr, hr2⟩ := equal_struct_any (P := Try.prog) w (cellsV x) (cellsV y) Try.underlying29 (by kernel_rfl) (fun f hf => by
    simp only [List.mem_cons, List.not_mem_nil, or_false] at hf
    rcases hf with rfl | rfl | rfl | rfl | rfl | rfl | rfl
    · exact ⟨by decide, .inl ⟨.u64, x.bal, y.bal, Try.underlying27, rfl, rfl⟩⟩
    · exact ⟨by decide, .inl ⟨.i64, x.st, y.st, Try.underlying3, rfl, rfl⟩⟩
    · exact ⟨by decide, .inr ⟨x.sl, y.sl, Try.underlying4, rfl, rfl⟩⟩
    · exact ⟨by decide, .inl ⟨.i64, x.rq, y.rq, Try.underlying3, rfl, rfl⟩⟩
    · exact ⟨by decide, .inl ⟨.i64, x.ex, y.ex, Try.underlying3, rfl, rfl⟩⟩
    · exact ⟨by decide, .inl ⟨.i64, x.wd, y.wd, Try.underlying3, rfl, rfl⟩⟩
    · exact ⟨by decide, .inl ⟨.i64, x.dl, y.dl, Try.underlying3, rfl, rfl⟩⟩)
  refine hr.trans ?_
  have : r = decide (x = y) := by
    rw [Bool.eq_iff_iff, hr2, decide_eq_true_eq]
    constructor
    · intro h
      simp only [List.mem_cons, List.not_mem_nil, or_false, forall_eq_or_imp, forall_eq] at h
      obtain ⟨h0, h1, h2, h3, h4, h5, h6⟩ := h
      obtain ⟨a0, a1, a2, a3, a4, a5, a6⟩ := x
      obtain ⟨b0, b1, b2, b3, b4, b5, b6⟩ := y
      simp [cellsV, Val.row] at h0 h1 h2 h3 h4 h5 h6
      simp [*]
    · rintro rfl
      simp
  rw [this]
theorem same_val (x : Val) (w : World) : (Op.equalIn 10000 29 (.agg (cellsV x)) (.agg (cellsV x))).run Try.prog w = .ok true w := by
  rw [eq_val]
  simp

/-! ### lists in memory -/
def flat (l : List Val) : List Value := l.flatMap Val.row
theorem flat_len (l : List Val) : (flat l).length = l.length * 7 := by
  induction l with
  | nil => rfl
  | cons x l ih => simp only [flat, List.flatMap_cons, List.length_append, row_len, List.length_cons] at ih ⊢; omega
theorem flat_append (l m : List Val) : flat (l ++ m) = flat l ++ flat m := by simp [flat]
theorem flat_one (v : Val) : flat [v] = v.row := by simp [flat]
theorem flat_mem {l : List Val} : ∀ u ∈ flat l, u.oneCell' = true := by
  intro u hu
  obtain ⟨v, _, hv⟩ := List.mem_flatMap.1 hu
  exact row_one v u hv
theorem flat_at {l : List Val} {i : Nat} {v : Val} (h : l[i]? = some v) {j : Nat} (hj : j < 7) : (flat l)[i * 7 + j]? = v.row[j]? := by
  induction l generalizing i with
  | nil => simp at h
  | cons x l ih =>
    cases i with
    | zero =>
      simp at h
      subst h
      simp only [flat, List.flatMap_cons, Nat.zero_mul, Nat.zero_add]
      rw [List.getElem?_append_left (by rw [row_len]; exact hj)]
    | succ i =>
      simp only [List.getElem?_cons_succ] at h
      have := ih h
      simp only [flat, List.flatMap_cons] at this ⊢
      rw [List.getElem?_append_right (by rw [row_len]; omega), row_len, show (i + 1) * 7 + j - 7 = i * 7 + j by omega]
      exact this
/-- The cells of one element, out of the flat list's. -/
theorem range_of_flat {w : World} {b off : Nat} {l : List Val} (h : ∀ j u, (flat l)[j]? = some u → w.cell? ⟨b, off + j, none⟩ = some u) {i : Nat} {v : Val} (hi : l[i]? = some v) : w.rangeAt b (off + i * 7) v.row := by
  intro j u hu
  have hj : j < 7 := (List.getElem?_eq_some_iff.1 hu).1
  rw [Nat.add_assoc]
  exact h _ _ ((flat_at hi hj).trans hu)
theorem flat_of_range {w : World} {b off : Nat} {l : List Val} (h : ∀ i v, l[i]? = some v → w.rangeAt b (off + i * 7) v.row) : ∀ j u, (flat l)[j]? = some u → w.cell? ⟨b, off + j, none⟩ = some u := by
  intro j u hu
  have hj : j < l.length * 7 := by rw [← flat_len]; exact (List.getElem?_eq_some_iff.1 hu).1
  have hq : j / 7 < l.length := by omega
  have hr : j % 7 < 7 := by omega
  have e := flat_at (List.getElem?_eq_getElem hq) hr
  rw [show j / 7 * 7 + j % 7 = j by omega, hu] at e
  have := h _ _ (List.getElem?_eq_getElem hq) (j % 7) u e.symm
  rwa [show off + j / 7 * 7 + j % 7 = off + j by omega] at this
theorem World.rangeAt.same {w w' : World} {b o : Nat} {cs : List Value} (h : w.rangeAt b o cs) (hb : w'.heap[b]? = w.heap[b]?) : w'.rangeAt b o cs := fun j v hv => (World.cell?_of_block (w := w) (a := ⟨b, o + j, none⟩) hb).trans (h j v hv)
theorem Blk.range {w : World} {b t : Nat} {v : Val} (h : Blk w b t (cellsV v)) : w.rangeAt b 0 v.row := fun j u hu => by
  rw [Nat.zero_add, h.cell j]
  simpa [cellsV] using hu
/-- The elements of a slice at a are those of l; their block lies in no block of S. -/
def Lst (w : World) (S : Nat → Prop) (a : Option Addr) (l : List Val) : Prop :=
  0 < l.length → ∃ b off, a = some ⟨b, off, none⟩ ∧ ¬ S b ∧ b < w.heap.size ∧ ∀ i v, l[i]? = some v → w.rangeAt b (off + i * 7) v.row
section
variable {w w' : World} {S T : Nat → Prop} {a : Option Addr} {l : List Val} {B : Nat}
theorem Lst.nil (w : World) (S : Nat → Prop) (a : Option Addr) : Lst w S a [] := fun h => by simp at h
theorem Lst.same (h : Lst w S a l) (hs : w.heap.size ≤ w'.heap.size) (hb : ∀ b, b < w.heap.size → ¬ S b → w'.heap[b]? = w.heap[b]?) : Lst w' S a l := fun h0 => by
  obtain ⟨b, off, h1, h2, h3, h4⟩ := h h0
  exact ⟨b, off, h1, h2, by omega, fun i v hi => World.rangeAt.same (h4 i v hi) (hb b h3 h2)⟩
theorem Lst.below (h : Lst w S a l) (hb : Below w.heap.size w w') : Lst w' S a l := h.same hb.size fun b hlt _ => hb.block b hlt
theorem Lst.alloc (h : Lst w S a l) (o : Obj) : Lst (w.alloc o) S a l := h.same (by simp) fun b hlt _ => Below.heap_alloc w o b hlt
theorem Lst.drewN (h : Lst w S a l) (n : Nat) : Lst (w.drewN n) S a l := h
theorem Lst.drew (h : Lst w S a l) : Lst w.drew S a l := h
theorem Lst.more (h : Lst w S a l) (hT : ∀ i, i < w.heap.size → T i → S i) : Lst w T a l := fun h0 => by
  obtain ⟨b, off, h1, h2, h3, h4⟩ := h h0
  exact ⟨b, off, h1, fun ht => h2 (hT b h3 ht), h3, h4⟩
theorem Lst.at (h : Lst w S a l) {i : Nat} {v : Val} (hi : l[i]? = some v) : ∃ b off, a = some ⟨b, off, none⟩ ∧ w.rangeAt b (off + i * 7) v.row := by
  obtain ⟨b, off, h1, _, _, h4⟩ := h (by have := (List.getElem?_eq_some_iff.1 hi).1; omega)
  exact ⟨b, off, h1, h4 i v hi⟩
theorem Lst.flat (h : Lst w S a l) (h0 : 0 < l.length) : ∃ ad, a = some ad ∧ ∀ j u, (flat l)[j]? = some u → w.cell? (ad.add j) = some u := by
  obtain ⟨b, off, h1, _, _, h4⟩ := h h0
  refine ⟨⟨b, off, none⟩, h1, fun j u hu => ?_⟩
  rw [add_plain]
  exact flat_of_range h4 j u hu
end

/-! ### arms -/
section
variable {P : Program} {ops : Array Oper} {rest : List Oper} {op : Oper} {a : Act} {w : World} {Q : Exit → Act → World → Prop}
theorem wpList_load_val (hgd : op.guard = none) (ty : TypeId) (x : Operand) (ho : op.op = .load ty x)
    (b o : Nat) (hx : a.eval x = .pointer (some ⟨b, o, none⟩)) (v : Val) (d : TypeDesc) (hc : w.rangeAt b o v.row)
    (hu : P.underlying ty = some d) (hd : d.isRow = true) (hi : (P.info? ty).map (·.size) = some 7)
    (h : wpList P ops Q rest (a.put op.dst (.agg (cellsV v))) w) : wpList P ops Q (op :: rest) a w :=
  wpList_load_mid hgd ty x ho b o hx v.row d hc hu hd hi h
theorem q_load_val {C : World → Prop} {Qa : Act → Prop} (ty : TypeId) (x : Operand) (b o : Nat) (v : Val) (d : TypeDesc) (hw : Region.wanted op (yielded ops a.tmps) = true) (ho : op.op = .load ty x) (hx : a.eval x = .pointer (some ⟨b, o, none⟩))
    (hC : ∀ w, C w → w.rangeAt b o v.row) (hu : P.underlying ty = some d) (hd : d.isRow = true) (hi : (P.info? ty).map (·.size) = some 7)
    (h : wpQuiet P ops C Qa rest (a.put op.dst (.agg (cellsV v)))) : wpQuiet P ops C Qa (op :: rest) a := by
  unfold wpQuiet
  rw [if_pos hw]
  refine ⟨_, fun w hc => ?_, h⟩
  unfold Oper.quietAt execOp
  simp only [ho, hx, Instr.loadAt, Instr.sureAddr, Sem.run_bind, Sem.run_pure, Result.andThen_ok, run_loadVar_mid w b o ty v.row d (hC w hc) hu hd hi]
  exact ⟨rfl, rfl⟩
end

/-! ### the laws' arguments -/
section
variable {H : Type} {enc : TypeId × Value → H} {w : World} {base : Nat} {spare : Nat → Bool} {held : Bool}
theorem trod_val {n : Nat} {cs : List Value} {x : DataW H × List MemPlace} (h : DataW.trod enc Try.prog w base spare held n 29 cs = some x) : ∃ v : Val, cs = v.row ∧ FitsV v := by
  obtain ⟨ys, n', hn', hy, hlen, hyl, hf⟩ := DataW.trod_struct Try.underlying29 h
  have hlen : cs.length = 7 := hlen.trans (by kernel_rfl)
  have hyl : ys.length = 7 := hyl
  have hv : ∀ j, j < 7 → ∃ v, cs[j]? = some v := fun j hj => ⟨_, List.getElem?_eq_getElem (by omega)⟩
  have hone : ∀ j (f : Field) v, j < 7 → f.offset = j → Try.prog.cellsOf f.type = 1 → cs[j]? = some v → (∀ y, DataW.trod enc Try.prog w base spare held n' f.type [v] = some y → ∃ y', ys[j]? = some y') → True := fun _ _ _ _ _ _ _ _ => trivial
  clear hone
  have get : ∀ j (f : Field), j < 7 → f.offset = j → Try.prog.cellsOf f.type = 1 → DataW.trod enc Try.prog w base spare held n' f.type ((cs.drop f.offset).take (Try.prog.cellsOf f.type)) = ys[j]? → ∃ v y, cs[j]? = some v ∧ DataW.trod enc Try.prog w base spare held n' f.type [v] = some y := by
    intro j f hj ho hc ht
    rw [ho, hc, List.drop_eq_getElem_cons (by omega), List.getElem?_eq_getElem (by omega)] at ht
    exact ⟨_, _, List.getElem?_eq_getElem (by omega), ht⟩
  obtain ⟨v0, y0, c0, t0⟩ := get 0 _ (by omega) rfl (by kernel_rfl) (hf 0 _ rfl)
  obtain ⟨v1, y1, c1, t1⟩ := get 1 _ (by omega) rfl (by kernel_rfl) (hf 1 _ rfl)
  obtain ⟨v2, y2, c2, t2⟩ := get 2 _ (by omega) rfl (by kernel_rfl) (hf 2 _ rfl)
  obtain ⟨v3, y3, c3, t3⟩ := get 3 _ (by omega) rfl (by kernel_rfl) (hf 3 _ rfl)
  obtain ⟨v4, y4, c4, t4⟩ := get 4 _ (by omega) rfl (by kernel_rfl) (hf 4 _ rfl)
  obtain ⟨v5, y5, c5, t5⟩ := get 5 _ (by omega) rfl (by kernel_rfl) (hf 5 _ rfl)
  obtain ⟨v6, y6, c6, t6⟩ := get 6 _ (by omega) rfl (by kernel_rfl) (hf 6 _ rfl)
  obtain ⟨x0, e0, _, w0⟩ := DataW.trod_int Try.underlying27 t0
  obtain ⟨x1, e1, _, w1⟩ := DataW.trod_int Try.underlying3 t1
  obtain ⟨x2, e2, _⟩ := DataW.trod_bool Try.underlying4 t2
  obtain ⟨x3, e3, _, _⟩ := DataW.trod_int Try.underlying3 t3
  obtain ⟨x4, e4, _, _⟩ := DataW.trod_int Try.underlying3 t4
  obtain ⟨x5, e5, _, _⟩ := DataW.trod_int Try.underlying3 t5
  obtain ⟨x6, e6, _, _⟩ := DataW.trod_int Try.underlying3 t6
  injection e0 with e0; injection e1 with e1; injection e2 with e2; injection e3 with e3; injection e4 with e4; injection e5 with e5; injection e6 with e6
  subst e0 e1 e2 e3 e4 e5 e6
  refine ⟨⟨x0, x1, x2, x3, x4, x5, x6⟩, ?_, w0, w1⟩
  match cs, hlen with
  | [a0, a1, a2, a3, a4, a5, a6], _ =>
    simp at c0 c1 c2 c3 c4 c5 c6
    subst c0 c1 c2 c3 c4 c5 c6
    rfl
theorem open_T29 {r : Reach} {b0 : Nat} {v : Value} {d : DataW H} {p : List MemPlace}
    (hv : Value.okWide Try.prog w r b0 29 v) (h : DataW.Trod enc Try.prog w base spare held 29 v d p) : ∃ c : Val, v = .agg (cellsV c) ∧ FitsV c := by
  obtain ⟨cs, rfl, hsz⟩ := okWide_struct Try.underlying29 hv
  obtain ⟨fuel, hf⟩ := h
  obtain ⟨c, hc, hfit⟩ := trod_val hf
  refine ⟨c, ?_, hfit⟩
  have : cs.toList = c.row := hc
  rw [cellsV, ← this]
/-- Validators that came in. -/
def IsVals (w : World) (a : Option Addr) (len cap : Nat) : Prop :=
  len ≤ cap ∧ cap ≤ maxLen ∧ ∃ l : List Val, l.length = len ∧ (∀ v ∈ l, FitsV v) ∧ Lst w (fun _ => False) a l
def opRow (x : Int × Val) : List Value := .int .i64 x.1 :: x.2.row
def opCells (x : Int × Val) : Array Value := (opRow x).toArray
/-- Operations that came in. -/
def IsOps (w : World) (a : Option Addr) (len cap : Nat) : Prop :=
  len ≤ cap ∧ cap ≤ maxLen ∧ ∃ l : List (Int × Val), l.length = len ∧ (∀ x ∈ l, (Lit.int .i64 x.1).wf = true ∧ FitsV x.2) ∧ (0 < len → ∃ b off, a = some ⟨b, off, none⟩ ∧ b < w.heap.size ∧ ∀ i x, l[i]? = some x → w.rangeAt b (off + i * 8) (opRow x))
theorem spot_none {w : World} {x : Addr} {v : Value} (h : w.cell? (x.add 0) = some v) : x.spot = none := by
  have := World.cell?_spot h
  simpa [Addr.add] using this
theorem range_of_cells {b off n : Nat} {cs : List Value} (h : w.cells? base ((⟨b, off, none⟩ : Addr).add n) cs.length = some cs) : w.rangeAt b (off + n) cs := fun j v hv => by
  obtain ⟨_, _, h2⟩ := World.cells?_some h
  have := h2 j (List.getElem?_eq_some_iff.1 hv).1
  rw [add_plain, add_plain] at this
  exact this.trans hv
theorem open_S26 {r : Reach} {b0 : Nat} {v : Value} {d : DataW H} {p : List MemPlace} (hv : Value.okWide Try.prog w r b0 26 v) (h : DataW.Trod enc Try.prog w base (fun _ => true) held 26 v d p) : ∃ (a : Option Addr) (len cap : Nat), v = .slice a len cap ∧ IsVals w a len cap := by
  obtain ⟨a, len, cap, rfl⟩ := okWide_slice Try.underlying26 hv
  refine ⟨a, len, cap, rfl, ?_⟩
  obtain ⟨fuel, hf⟩ := h
  rcases open_slice Try.underlying26 hf with h0 | ⟨x, l, c, m, n, D, Pl, hcs, hb, hl, hm, hmm, hx, hi⟩
  · have hcs := h0.1
    simp [Value.cells] at hcs
    obtain ⟨rfl, rfl, rfl⟩ := hcs
    exact ⟨by omega, by unfold maxLen; omega, [], rfl, by simp, Lst.nil _ _ _⟩
  · simp [Value.cells] at hcs
    obtain ⟨rfl, rfl, rfl⟩ := hcs
    have hC : Try.prog.cellsOf 29 = 7 := by kernel_rfl
    rw [hC] at hi
    obtain ⟨f, hfv⟩ := choose_lt (α := Val) (p := fun i v => w.cells? base (x.add (i * 7)) 7 = some v.row ∧ FitsV v) (n := len) (fun i hil => by
      obtain ⟨cs', h1, h2⟩ := hi i (by rw [hmm]; simp; omega)
      obtain ⟨v, rfl, hfit⟩ := trod_val h2
      exact ⟨v, h1, hfit⟩)
    refine ⟨hl, hm, (List.range len).map f, by simp, fun v hv => ?_, fun h0 => ?_⟩
    · obtain ⟨i, hi', rfl⟩ := List.mem_map.1 hv
      exact (hfv i (by simpa using hi')).2
    · simp at h0
      obtain ⟨b, off, spot⟩ := x
      have hc0 := (World.cells?_some (hfv 0 h0).1).2.2 0 (by omega)
      rw [Nat.zero_mul] at hc0
      have hs : spot = none := by
        have := World.cell?_spot hc0
        simpa [Addr.add] using this
      subst hs
      refine ⟨b, off, rfl, fun h => h, by have := cell_lt hc0; rwa [add_plain, add_plain] at this, fun i v hiv => ?_⟩
      simp only [List.getElem?_map] at hiv
      have hil : i < len := by
        rcases Nat.lt_or_ge i len with h | h
        · exact h
        · simp [h] at hiv
      simp [hil] at hiv
      subst hiv
      exact range_of_cells (hfv i hil).1
theorem open_S22 {r : Reach} {b0 : Nat} {v : Value} {d : DataW H} {p : List MemPlace} (hv : Value.okWide Try.prog w r b0 22 v) (h : DataW.Trod enc Try.prog w base (fun _ => true) held 22 v d p) : ∃ (a : Option Addr) (len cap : Nat), v = .slice a len cap ∧ IsOps w a len cap := by
  obtain ⟨a, len, cap, rfl⟩ := okWide_slice Try.underlying22 hv
  refine ⟨a, len, cap, rfl, ?_⟩
  obtain ⟨fuel, hf⟩ := h
  rcases open_slice Try.underlying22 hf with h0 | ⟨x, l, c, m, n, D, Pl, hcs, hb, hl, hm, hmm, hx, hi⟩
  · have hcs := h0.1
    simp [Value.cells] at hcs
    obtain ⟨rfl, rfl, rfl⟩ := hcs
    exact ⟨by omega, by unfold maxLen; omega, [], rfl, by simp, fun h => by omega⟩
  · simp [Value.cells] at hcs
    obtain ⟨rfl, rfl, rfl⟩ := hcs
    have hC : Try.prog.cellsOf 31 = 8 := by kernel_rfl
    rw [hC] at hi
    obtain ⟨f, hfv⟩ := choose_lt (α := Int × Val) (p := fun i v => w.cells? base (x.add (i * 8)) 8 = some (opRow v) ∧ (Lit.int .i64 v.1).wf = true ∧ FitsV v.2) (n := len) (fun i hil => by
      obtain ⟨cs', h1, h2⟩ := hi i (by rw [hmm]; simp; omega)
      obtain ⟨ys, n', hn', hy, hlen, hyl, hg⟩ := DataW.trod_struct Try.underlying31 h2
      have hlen : cs'.length = 8 := hlen.trans (by kernel_rfl)
      have hyl : ys.length = 2 := hyl
      have g0 := hg 0 _ rfl
      have g1 := hg 1 _ rfl
      rw [List.getElem?_eq_getElem (by omega)] at g0 g1
      obtain ⟨k, hk, _, wk⟩ := DataW.trod_int Try.underlying3 g0
      obtain ⟨v, hv, hfit⟩ := trod_val g1
      refine ⟨(k, v), h1.trans ?_, wk, hfit⟩
      have e1 : Try.prog.cellsOf 3 = 1 := by kernel_rfl
      have e2 : Try.prog.cellsOf 29 = 7 := by kernel_rfl
      have hk : (cs'.drop 0).take (Try.prog.cellsOf 3) = [.int .i64 k] := hk
      have hv : (cs'.drop 1).take (Try.prog.cellsOf 29) = v.row := hv
      rw [e1] at hk
      rw [e2] at hv
      match cs', hlen with
      | a0 :: rest, hlen =>
        simp at hk hv hlen
        subst hk
        rw [List.take_of_length_le (by omega)] at hv
        rw [hv]
        rfl)
    refine ⟨hl, hm, (List.range len).map f, by simp, fun v hv => ?_, fun h0 => ?_⟩
    · obtain ⟨i, hi', rfl⟩ := List.mem_map.1 hv
      exact (hfv i (by simpa using hi')).2
    · obtain ⟨b, off, spot⟩ := x
      have hc0 := (World.cells?_some (hfv 0 h0).1).2.2 0 (by omega)
      rw [Nat.zero_mul] at hc0
      have hs : spot = none := by
        have := World.cell?_spot hc0
        simpa [Addr.add] using this
      subst hs
      refine ⟨b, off, rfl, by have := cell_lt hc0; rwa [add_plain, add_plain] at this, fun i v hiv => ?_⟩
      simp only [List.getElem?_map] at hiv
      have hil : i < len := by
        rcases Nat.lt_or_ge i len with h | h
        · exact h
        · simp [h] at hiv
      simp [hil] at hiv
      subst hiv
      exact range_of_cells (hfv i hil).1
end
end Go.Proofs.Ytcmlkcmoailhjaa
