/- An entry's value: two cells; '==' on two; lists of them in memory; the laws' arguments (operations). (After stage 7's Val.) -/
import Derived.Test.YtinndmglacfofaaStructs
import Derived.Test.YtinndmglacfofaaSlices
import Derived.Test.YtinndmglacfofaaSame
import Derived.Test.YtinndmglacfofaaKept
import Derived.ChangeSlices
import Derived.Deep.MidRow
import Derived.Laws.StructEq
namespace Go.Proofs.Ytinndmglacfofaa
open Go Go.ChangeShapes Go.WideShapes Go.RowKit Go.Deep
set_option linter.unusedVariables false

abbrev Ent := Int × Int
def rowE (v : Ent) : List Value := [.int .i64 v.1, .int .i64 v.2]
def cellsE (v : Ent) : Array Value := (rowE v).toArray
theorem row_len (v : Ent) : (rowE v).length = 2 := rfl
theorem row_one (v : Ent) : ∀ u ∈ rowE v, u.oneCell' = true := by
  intro u hu
  simp only [rowE, List.mem_cons, List.not_mem_nil, or_false] at hu
  rcases hu with rfl | rfl <;> rfl
theorem cellsE_one (v : Ent) : (cellsE v).all (·.oneCell') = true := by
  refine Array.all_eq_true_iff_forall_mem.2 (fun u hu => row_one v u (by simpa [cellsE] using hu))
theorem cellsE_size (v : Ent) : (cellsE v).size = 2 := rfl
theorem infoE : (Try.prog.info? 46).map (·.size) = some 2 := by kernel_rfl
theorem infoE3 : (Try.prog.info? 46).map (fun i => (i.zero, i.size, i.bytes)) = some (some (.agg #[.int .i64 0, .int .i64 0]), 2, 16) := by kernel_rfl

section
variable {P : Program} (w : World)
theorem eqFields_any (d : Nat) (xs ys : Array Value) :
    ∀ (fs : List Field), (∀ f ∈ fs, f.name ≠ "_" ∧ ((∃ k n m, P.underlying f.type = some (.int k) ∧ xs[f.offset]? = some (.int k n) ∧ ys[f.offset]? = some (.int k m)) ∨ ∃ n m, P.underlying f.type = some .bool ∧ xs[f.offset]? = some (.bool n) ∧ ys[f.offset]? = some (.bool m))) →
      ∃ r, (Op.eqFields (d + 1) xs ys fs).run P w = .ok r w ∧ (r = true ↔ ∀ f ∈ fs, xs[f.offset]? = ys[f.offset]?)
  | [], _ => ⟨true, by simp [Op.eqFields], by simp⟩
  | f :: fs, h => by
    obtain ⟨hname, h1⟩ := h f (by simp)
    obtain ⟨r, hr, hr2⟩ := eqFields_any d xs ys fs (fun j hj => h j (by simp [hj]))
    rcases h1 with ⟨k, n, m, hk, hn, hm⟩ | ⟨n, m, hk, hn, hm⟩
    · have hp := run_part_plain w (plainKey_int hk) hn
      have hp' := run_part_plain w (plainKey_int hk) hm
      have hq := run_equalIn_int (P := P) w d f.type k k n m hk
      by_cases he : n = m
      · subst he
        refine ⟨r, by simp only [Op.eqFields, hname, ne_eq, not_false_eq_true, if_true, Sem.run_bind, hp, hp', hq, Result.andThen_ok]; simpa using hr, ?_⟩
        simp only [List.mem_cons, forall_eq_or_imp, hn, hm, true_and]
        exact hr2
      · refine ⟨false, by simp only [Op.eqFields, hname, ne_eq, not_false_eq_true, if_true, Sem.run_bind, hp, hp', hq, Result.andThen_ok]; simp [he], ?_⟩
        simp [hn, hm, he]
    · have hp := run_part_plain (P := P) w (e := f.type) (by simp [Program.plainKey, hk]) hn
      have hp' := run_part_plain (P := P) w (e := f.type) (by simp [Program.plainKey, hk]) hm
      have hq := run_equalIn_bool' (P := P) w d f.type n m hk
      by_cases he : n = m
      · subst he
        refine ⟨r, by simp only [Op.eqFields, hname, ne_eq, not_false_eq_true, if_true, Sem.run_bind, hp, hp', hq, Result.andThen_ok]; simpa using hr, ?_⟩
        simp only [List.mem_cons, forall_eq_or_imp, hn, hm, true_and]
        exact hr2
      · refine ⟨false, by simp only [Op.eqFields, hname, ne_eq, not_false_eq_true, if_true, Sem.run_bind, hp, hp', hq, Result.andThen_ok]; simp [he], ?_⟩
        simp [hn, hm, he]
theorem equal_struct_any {t : TypeId} {fs : Array Field} (xs ys : Array Value) (hu : P.underlying t = some (.struct fs)) (hp : P.stoodInHeld t = false)
    (hx : ∀ f ∈ fs.toList, f.name ≠ "_" ∧ ((∃ k n m, P.underlying f.type = some (.int k) ∧ xs[f.offset]? = some (.int k n) ∧ ys[f.offset]? = some (.int k m)) ∨ ∃ n m, P.underlying f.type = some .bool ∧ xs[f.offset]? = some (.bool n) ∧ ys[f.offset]? = some (.bool m))) :
    ∃ r, (Op.equalIn 10000 t (.agg xs) (.agg ys)).run P w = .ok r w ∧ (r = true ↔ ∀ f ∈ fs.toList, xs[f.offset]? = ys[f.offset]?) := by
  have hf : P.fieldsOf t = fs := by simp [Program.fieldsOf, hu]
  rw [run_equalIn_struct w 9999 t xs ys (by rw [hf]; exact hu) hp, hf]
  exact eqFields_any w 9998 xs ys _ hx
end
theorem eq_ent (x y : Ent) (w : World) : (Op.equalIn 10000 46 (.agg (cellsE x)) (.agg (cellsE y))).run Try.prog w = .ok (decide (x = y)) w := by
  obtain ⟨r, hr, hr2⟩ := equal_struct_any (P := Try.prog) w (cellsE x) (cellsE y) Try.underlying46 (by kernel_rfl) (fun f hf => by
    simp only [List.mem_cons, List.not_mem_nil, or_false] at hf
    rcases hf with rfl | rfl
    · exact ⟨by decide, .inl ⟨.i64, x.1, y.1, Try.underlying3, rfl, rfl⟩⟩
    · exact ⟨by decide, .inl ⟨.i64, x.2, y.2, Try.underlying3, rfl, rfl⟩⟩)
  refine hr.trans ?_
  have : r = decide (x = y) := by
    rw [Bool.eq_iff_iff, hr2, decide_eq_true_eq]
    constructor
    · intro h
      simp only [List.mem_cons, List.not_mem_nil, or_false, forall_eq_or_imp, forall_eq] at h
      obtain ⟨h0, h1⟩ := h
      obtain ⟨a0, a1⟩ := x
      obtain ⟨b0, b1⟩ := y
      simp [cellsE, rowE] at h0 h1
      simp [*]
    · rintro rfl
      simp
  rw [this]
theorem exec_nee {a : Act} {dst : Option Tmp} {yt ty : TypeId} {x y : Operand} {pos : String} {after : Array Edge} {guard : Option (Nat × Bool)} {w : World} {p q : Ent} {r : Bool} (hx : a.eval x = .agg (cellsE p)) (hy : a.eval y = .agg (cellsE q)) (hr : (!decide (p = q)) = r) :
    (execOp a.eval { dst, op := .binOp .neq 46 x y yt, type := ty, pos, after, guard }).run Try.prog w = .ok (.value (.bool r)) w := by
  simp only [execOp, hx, hy, Sem.run_bind, run_eqGuard_agg w .neq _ x y _ _ Try.eqGuardType46, Result.andThen_ok, run_neq_struct, eq_ent p q w, Sem.run_pure, hr]

/-! ### lists in memory -/
def flat (l : List Ent) : List Value := l.flatMap rowE
theorem flat_len (l : List Ent) : (flat l).length = l.length * 2 := by
  induction l with
  | nil => rfl
  | cons x l ih => simp only [flat, List.flatMap_cons, List.length_append, row_len, List.length_cons] at ih ⊢; omega
theorem flat_append (l m : List Ent) : flat (l ++ m) = flat l ++ flat m := by simp [flat]
theorem flat_one (v : Ent) : flat [v] = (rowE v) := by simp [flat]
theorem flat_mem {l : List Ent} : ∀ u ∈ flat l, u.oneCell' = true := by
  intro u hu
  obtain ⟨v, _, hv⟩ := List.mem_flatMap.1 hu
  exact row_one v u hv
theorem flat_at {l : List Ent} {i : Nat} {v : Ent} (h : l[i]? = some v) {j : Nat} (hj : j < 2) : (flat l)[i * 2 + j]? = (rowE v)[j]? := by
  induction l generalizing i with
  | nil => simp at h
  | cons x l ih =>
    cases i with
    | zero =>
      simp at h
      subst h
      simp only [flat, List.flatMap_cons, Nat.zero_mul, Nat.zero_add]
      rw [List.getElem?_append_left (by rw [row_len]; exact hj)]
    | succ i =>
      simp only [List.getElem?_cons_succ] at h
      have := ih h
      simp only [flat, List.flatMap_cons] at this ⊢
      rw [List.getElem?_append_right (by rw [row_len]; omega), row_len, show (i + 1) * 2 + j - 2 = i * 2 + j by omega]
      exact this
/-- The cells of one element, out of the flat list's. -/
theorem range_of_flat {w : World} {b off : Nat} {l : List Ent} (h : ∀ j u, (flat l)[j]? = some u → w.cell? ⟨b, off + j, none⟩ = some u) {i : Nat} {v : Ent} (hi : l[i]? = some v) : w.rangeAt b (off + i * 2) (rowE v) := by
  intro j u hu
  have hj : j < 2 := (List.getElem?_eq_some_iff.1 hu).1
  rw [Nat.add_assoc]
  exact h _ _ ((flat_at hi hj).trans hu)
theorem flat_of_range {w : World} {b off : Nat} {l : List Ent} (h : ∀ i v, l[i]? = some v → w.rangeAt b (off + i * 2) (rowE v)) : ∀ j u, (flat l)[j]? = some u → w.cell? ⟨b, off + j, none⟩ = some u := by
  intro j u hu
  have hj : j < l.length * 2 := by rw [← flat_len]; exact (List.getElem?_eq_some_iff.1 hu).1
  have hq : j / 2 < l.length := by omega
  have hr : j % 2 < 2 := by omega
  have e := flat_at (List.getElem?_eq_getElem hq) hr
  rw [show j / 2 * 2 + j % 2 = j by omega, hu] at e
  have := h _ _ (List.getElem?_eq_getElem hq) (j % 2) u e.symm
  rwa [show off + j / 2 * 2 + j % 2 = off + j by omega] at this
theorem World.rangeAt.same {w w' : World} {b o : Nat} {cs : List Value} (h : w.rangeAt b o cs) (hb : w'.heap[b]? = w.heap[b]?) : w'.rangeAt b o cs := fun j v hv => (World.cell?_of_block (w := w) (a := ⟨b, o + j, none⟩) hb).trans (h j v hv)
theorem Blk.range {w : World} {b t : Nat} {v : Ent} (h : Blk w b t (cellsE v)) : w.rangeAt b 0 (rowE v) := fun j u hu => by
  rw [Nat.zero_add, h.cell j]
  simpa [cellsE] using hu
/-- The elements of a slice at a are those of l; their block lies in no block of S. -/
def Lst (w : World) (S : Nat → Prop) (a : Option Addr) (l : List Ent) : Prop :=
  0 < l.length → ∃ b off, a = some ⟨b, off, none⟩ ∧ ¬ S b ∧ b < w.heap.size ∧ ∀ i v, l[i]? = some v → w.rangeAt b (off + i * 2) (rowE v)
section
variable {w w' : World} {S T : Nat → Prop} {a : Option Addr} {l : List Ent} {B : Nat}
theorem Lst.nil (w : World) (S : Nat → Prop) (a : Option Addr) : Lst w S a [] := fun h => by simp at h
theorem Lst.same (h : Lst w S a l) (hs : w.heap.size ≤ w'.heap.size) (hb : ∀ b, b < w.heap.size → ¬ S b → w'.heap[b]? = w.heap[b]?) : Lst w' S a l := fun h0 => by
  obtain ⟨b, off, h1, h2, h3, h4⟩ := h h0
  exact ⟨b, off, h1, h2, by omega, fun i v hi => World.rangeAt.same (h4 i v hi) (hb b h3 h2)⟩
theorem Lst.below (h : Lst w S a l) (hb : Below w.heap.size w w') : Lst w' S a l := h.same hb.size fun b hlt _ => hb.block b hlt
theorem Lst.alloc (h : Lst w S a l) (o : Obj) : Lst (w.alloc o) S a l := h.same (by simp) fun b hlt _ => Below.heap_alloc w o b hlt
theorem Lst.drewN (h : Lst w S a l) (n : Nat) : Lst (w.drewN n) S a l := h
theorem Lst.drew (h : Lst w S a l) : Lst w.drew S a l := h
theorem Lst.more (h : Lst w S a l) (hT : ∀ i, i < w.heap.size → T i → S i) : Lst w T a l := fun h0 => by
  obtain ⟨b, off, h1, h2, h3, h4⟩ := h h0
  exact ⟨b, off, h1, fun ht => h2 (hT b h3 ht), h3, h4⟩
theorem Lst.at (h : Lst w S a l) {i : Nat} {v : Ent} (hi : l[i]? = some v) : ∃ b off, a = some ⟨b, off, none⟩ ∧ w.rangeAt b (off + i * 2) (rowE v) := by
  obtain ⟨b, off, h1, _, _, h4⟩ := h (by have := (List.getElem?_eq_some_iff.1 hi).1; omega)
  exact ⟨b, off, h1, h4 i v hi⟩
theorem Lst.flat (h : Lst w S a l) (h0 : 0 < l.length) : ∃ ad, a = some ad ∧ ∀ j u, (flat l)[j]? = some u → w.cell? (ad.add j) = some u := by
  obtain ⟨b, off, h1, _, _, h4⟩ := h h0
  refine ⟨⟨b, off, none⟩, h1, fun j u hu => ?_⟩
  rw [add_plain]
  exact flat_of_range h4 j u hu
end

/-! ### arms -/
section
variable {P : Program} {ops : Array Oper} {rest : List Oper} {op : Oper} {a : Act} {w : World} {Q : Exit → Act → World → Prop}
theorem wpList_load_ent (hgd : op.guard = none) (ty : TypeId) (x : Operand) (ho : op.op = .load ty x)
    (b o : Nat) (hx : a.eval x = .pointer (some ⟨b, o, none⟩)) (v : Ent) (d : TypeDesc) (hc : w.rangeAt b o (rowE v))
    (hu : P.underlying ty = some d) (hd : d.isRow = true) (hi : (P.info? ty).map (·.size) = some 2)
    (h : wpList P ops Q rest (a.put op.dst (.agg (cellsE v))) w) : wpList P ops Q (op :: rest) a w :=
  wpList_load_mid hgd ty x ho b o hx (rowE v) d hc hu hd hi h
theorem q_load_ent {C : World → Prop} {Qa : Act → Prop} (ty : TypeId) (x : Operand) (b o : Nat) (v : Ent) (d : TypeDesc) (hw : Region.wanted op (yielded ops a.tmps) = true) (ho : op.op = .load ty x) (hx : a.eval x = .pointer (some ⟨b, o, none⟩))
    (hC : ∀ w, C w → w.rangeAt b o (rowE v)) (hu : P.underlying ty = some d) (hd : d.isRow = true) (hi : (P.info? ty).map (·.size) = some 2)
    (h : wpQuiet P ops C Qa rest (a.put op.dst (.agg (cellsE v)))) : wpQuiet P ops C Qa (op :: rest) a := by
  unfold wpQuiet
  rw [if_pos hw]
  refine ⟨_, fun w hc => ?_, h⟩
  unfold Oper.quietAt execOp
  simp only [ho, hx, Instr.loadAt, Instr.sureAddr, Sem.run_bind, Sem.run_pure, Result.andThen_ok, run_loadVar_mid w b o ty (rowE v) d (hC w hc) hu hd hi]
  exact ⟨rfl, rfl⟩
end

/-! ### the laws' operations -/
structure OpV where
  due : Bool
  ep : Int
  it : Int
deriving Inhabited
def opRow (x : OpV) : List Value := [.bool x.due, .int .i64 x.ep, .int .i64 x.it]
def opCells (x : OpV) : Array Value := (opRow x).toArray
def FitsO (x : OpV) : Prop := (Lit.int .i64 x.ep).wf = true ∧ (Lit.int .i64 x.it).wf = true
theorem infoO : (Try.prog.info? 31).map (·.size) = some 3 := by kernel_rfl
theorem opRow_one (x : OpV) : ∀ u ∈ opRow x, u.oneCell' = true := by
  intro u hu
  simp only [opRow, List.mem_cons, List.not_mem_nil, or_false] at hu
  rcases hu with rfl | rfl | rfl <;> rfl
theorem opCells_one (x : OpV) : (opCells x).all (·.oneCell') = true := by
  refine Array.all_eq_true_iff_forall_mem.2 (fun u hu => opRow_one x u (by simpa [opCells] using hu))
/-- Operations that came in. -/
def IsOps (w : World) (a : Option Addr) (len cap : Nat) : Prop :=
  len ≤ cap ∧ cap ≤ maxLen ∧ ∃ l : List OpV, l.length = len ∧ (∀ x ∈ l, FitsO x) ∧ (0 < len → ∃ b off, a = some ⟨b, off, none⟩ ∧ b < w.heap.size ∧ ∀ i x, l[i]? = some x → w.rangeAt b (off + i * 3) (opRow x))
section
variable {H : Type} {enc : TypeId × Value → H} {w : World} {base : Nat} {spare : Nat → Bool} {held : Bool}
theorem trod_op {n : Nat} {cs : List Value} {x : DataW H × List MemPlace} (h : DataW.trod enc Try.prog w base spare held n 31 cs = some x) : ∃ v : OpV, cs = opRow v ∧ FitsO v := by
  obtain ⟨ys, n', hn', hy, hlen, hyl, hf⟩ := DataW.trod_struct Try.underlying31 h
  have hlen : cs.length = 3 := hlen.trans (by kernel_rfl)
  have hyl : ys.length = 3 := hyl
  have get : ∀ j (f : Field), j < 3 → f.offset = j → Try.prog.cellsOf f.type = 1 → DataW.trod enc Try.prog w base spare held n' f.type ((cs.drop f.offset).take (Try.prog.cellsOf f.type)) = ys[j]? → ∃ v y, cs[j]? = some v ∧ DataW.trod enc Try.prog w base spare held n' f.type [v] = some y := by
    intro j f hj ho hc ht
    rw [ho, hc, List.drop_eq_getElem_cons (by omega), List.getElem?_eq_getElem (by omega)] at ht
    exact ⟨_, _, List.getElem?_eq_getElem (by omega), ht⟩
  obtain ⟨v0, y0, c0, t0⟩ := get 0 _ (by omega) rfl (by kernel_rfl) (hf 0 _ rfl)
  obtain ⟨v1, y1, c1, t1⟩ := get 1 _ (by omega) rfl (by kernel_rfl) (hf 1 _ rfl)
  obtain ⟨v2, y2, c2, t2⟩ := get 2 _ (by omega) rfl (by kernel_rfl) (hf 2 _ rfl)
  obtain ⟨x0, e0, _⟩ := DataW.trod_bool Try.underlying4 t0
  obtain ⟨x1, e1, _, w1⟩ := DataW.trod_int Try.underlying3 t1
  obtain ⟨x2, e2, _, w2⟩ := DataW.trod_int Try.underlying3 t2
  injection e0 with e0; injection e1 with e1; injection e2 with e2
  subst e0 e1 e2
  refine ⟨⟨x0, x1, x2⟩, ?_, w1, w2⟩
  match cs, hlen with
  | [a0, a1, a2], _ =>
    simp at c0 c1 c2
    subst c0 c1 c2
    rfl
theorem range_of_cells {b off n : Nat} {cs : List Value} (h : w.cells? base ((⟨b, off, none⟩ : Addr).add n) cs.length = some cs) : w.rangeAt b (off + n) cs := fun j v hv => by
  obtain ⟨_, _, h2⟩ := World.cells?_some h
  have := h2 j (List.getElem?_eq_some_iff.1 hv).1
  rw [add_plain, add_plain] at this
  exact this.trans hv
theorem open_S22 {r : Reach} {b0 : Nat} {v : Value} {d : DataW H} {p : List MemPlace} (hv : Value.okWide Try.prog w r b0 22 v) (h : DataW.Trod enc Try.prog w base (fun _ => true) held 22 v d p) : ∃ (a : Option Addr) (len cap : Nat), v = .slice a len cap ∧ IsOps w a len cap := by
  obtain ⟨a, len, cap, rfl⟩ := okWide_slice Try.underlying22 hv
  refine ⟨a, len, cap, rfl, ?_⟩
  obtain ⟨fuel, hf⟩ := h
  rcases open_slice Try.underlying22 hf with h0 | ⟨x, l, c, m, n, D, Pl, hcs, hb, hl, hm, hmm, hx, hi⟩
  · have hcs := h0.1
    simp [Value.cells] at hcs
    obtain ⟨rfl, rfl, rfl⟩ := hcs
    exact ⟨by omega, by unfold maxLen; omega, [], rfl, by simp, fun h => by omega⟩
  · simp [Value.cells] at hcs
    obtain ⟨rfl, rfl, rfl⟩ := hcs
    have hC : Try.prog.cellsOf 31 = 3 := by kernel_rfl
    rw [hC] at hi
    obtain ⟨f, hfv⟩ := choose_lt (α := OpV) (p := fun i v => w.cells? base (x.add (i * 3)) 3 = some (opRow v) ∧ FitsO v) (n := len) (fun i hil => by
      obtain ⟨cs', h1, h2⟩ := hi i (by rw [hmm]; simp; omega)
      obtain ⟨v, rfl, hfit⟩ := trod_op h2
      exact ⟨v, h1, hfit⟩)
    refine ⟨hl, hm, (List.range len).map f, by simp, fun v hv => ?_, fun h0 => ?_⟩
    · obtain ⟨i, hi', rfl⟩ := List.mem_map.1 hv
      exact (hfv i (by simpa using hi')).2
    · obtain ⟨b, off, spot⟩ := x
      have hc0 := (World.cells?_some (hfv 0 h0).1).2.2 0 (by omega)
      rw [Nat.zero_mul] at hc0
      have hs : spot = none := by
        have := World.cell?_spot hc0
        simpa [Addr.add] using this
      subst hs
      refine ⟨b, off, rfl, by have := cell_lt hc0; rwa [add_plain, add_plain] at this, fun i v hiv => ?_⟩
      simp only [List.getElem?_map] at hiv
      have hil : i < len := by
        rcases Nat.lt_or_ge i len with h | h
        · exact h
        · simp [h] at hiv
      simp [hil] at hiv
      subst hiv
      exact range_of_cells (hfv i hil).1
end
theorem wpList_load_op {P : Program} {ops : Array Oper} {rest : List Oper} {op : Oper} {a : Act} {w : World} {Q : Exit → Act → World → Prop} (hgd : op.guard = none) (ty : TypeId) (x : Operand) (ho : op.op = .load ty x)
    (b o : Nat) (hx : a.eval x = .pointer (some ⟨b, o, none⟩)) (v : OpV) (d : TypeDesc) (hc : w.rangeAt b o (opRow v))
    (hu : P.underlying ty = some d) (hd : d.isRow = true) (hi : (P.info? ty).map (·.size) = some 3)
    (h : wpList P ops Q rest (a.put op.dst (.agg (opCells v))) w) : wpList P ops Q (op :: rest) a w :=
  wpList_load_mid hgd ty x ho b o hx (opRow v) d hc hu hd hi h
theorem Blk.op {w : World} {g t : Nat} {x : OpV} (h : Blk w g t (opCells x)) : w.rangeAt g 0 (opRow x) := fun j u hu => by
  rw [Nat.zero_add, h.cell j]
  simpa [opCells] using hu
/-- One operation, where the law's loop stands. -/
theorem IsOps.at {w wr : World} {a : Option Addr} {len cap k : Nat} (h : IsOps w a len cap) (hr : Below w.heap.size w wr) (hk : k < len) :
    ∃ b off x, a = some ⟨b, off, none⟩ ∧ Hid (wr.rangeAt b (off + k * 3) (opRow x)) ∧ FitsO x := by
  obtain ⟨_, _, L, hL, hf, hc⟩ := h
  obtain ⟨b, off, rfl, hbl, hc⟩ := hc (by omega)
  obtain ⟨x, hx⟩ : ∃ x, L[k]? = some x := ⟨_, List.getElem?_eq_getElem (by omega)⟩
  exact ⟨b, off, x, rfl, Lib.hid (World.rangeAt.same (hc k x hx) (hr.block b hbl)), hf x (List.mem_of_getElem? hx)⟩
end Go.Proofs.Ytinndmglacfofaa
