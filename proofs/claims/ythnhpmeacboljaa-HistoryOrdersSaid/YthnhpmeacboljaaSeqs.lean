/- Lists of structs in memory, for any struct of one-cell fields: a row of k cells an element, by a plain function 'row'. Also '==' of two structs field by field. No program in sight. (Stage 7's words, for every type.) -/
import Derived.Test.YthnhpmeacboljaaStructs
import Derived.Test.YthnhpmeacboljaaSlices
import Derived.Test.YthnhpmeacboljaaKept
import Derived.ChangeSlices
import Derived.Deep.MidRow
import Derived.Laws.StructEq
namespace Go.Proofs.Ythnhpmeacboljaa
open Go Go.ChangeShapes Go.WideShapes Go.RowKit Go.Deep
set_option linter.unusedVariables false

theorem rangeAt_same {w w' : World} {b o : Nat} {cs : List Value} (h : w.rangeAt b o cs) (hb : w'.heap[b]? = w.heap[b]?) : w'.rangeAt b o cs := fun j v hv => (World.cell?_of_block (w := w) (a := ⟨b, o + j, none⟩) hb).trans (h j v hv)
section
variable {α : Type} {row : α → List Value} {k : Nat}
def flatR (row : α → List Value) (l : List α) : List Value := l.flatMap row
theorem flatR_nil : flatR row [] = [] := rfl
theorem flatR_len (hk : ∀ v, (row v).length = k) (l : List α) : (flatR row l).length = l.length * k := by
  induction l with
  | nil => simp [flatR]
  | cons x l ih => simp only [flatR, List.flatMap_cons, List.length_append, hk, List.length_cons] at ih ⊢; rw [ih, Nat.succ_mul]; omega
theorem flatR_append (l m : List α) : flatR row (l ++ m) = flatR row l ++ flatR row m := by simp [flatR]
theorem flatR_one (v : α) : flatR row [v] = row v := by simp [flatR]
theorem flatR_mem (h1 : ∀ v, ∀ u ∈ row v, u.oneCell' = true) {l : List α} : ∀ u ∈ flatR row l, u.oneCell' = true := by
  intro u hu
  obtain ⟨v, _, hv⟩ := List.mem_flatMap.1 hu
  exact h1 v u hv
theorem flatR_at (hk : ∀ v, (row v).length = k) {l : List α} {i : Nat} {v : α} (h : l[i]? = some v) {j : Nat} (hj : j < k) : (flatR row l)[i * k + j]? = (row v)[j]? := by
  induction l generalizing i with
  | nil => simp at h
  | cons x l ih =>
    cases i with
    | zero =>
      simp at h
      subst h
      simp only [flatR, List.flatMap_cons, Nat.zero_mul, Nat.zero_add]
      rw [List.getElem?_append_left (by rw [hk]; exact hj)]
    | succ i =>
      simp only [List.getElem?_cons_succ] at h
      have := ih h
      simp only [flatR, List.flatMap_cons] at this ⊢
      rw [List.getElem?_append_right (by rw [hk, Nat.succ_mul]; omega), hk, show (i + 1) * k + j - k = i * k + j by rw [Nat.succ_mul]; omega]
      exact this
/-- The cells of one element, out of the flat list's. -/
theorem rangeR_of_flat (hk : ∀ v, (row v).length = k) {w : World} {b off : Nat} {l : List α} (h : ∀ j u, (flatR row l)[j]? = some u → w.cell? ⟨b, off + j, none⟩ = some u) {i : Nat} {v : α} (hi : l[i]? = some v) : w.rangeAt b (off + i * k) (row v) := by
  intro j u hu
  have hj : j < k := by rw [← hk v]; exact (List.getElem?_eq_some_iff.1 hu).1
  rw [Nat.add_assoc]
  exact h _ _ ((flatR_at hk hi hj).trans hu)
theorem flatR_of_range (hk : ∀ v, (row v).length = k) (h0 : 0 < k) {w : World} {b off : Nat} {l : List α} (h : ∀ i v, l[i]? = some v → w.rangeAt b (off + i * k) (row v)) : ∀ j u, (flatR row l)[j]? = some u → w.cell? ⟨b, off + j, none⟩ = some u := by
  intro j u hu
  have hj : j < l.length * k := by rw [← flatR_len hk]; exact (List.getElem?_eq_some_iff.1 hu).1
  have hq : j / k < l.length := Nat.div_lt_of_lt_mul (by rwa [Nat.mul_comm])
  have hr : j % k < k := Nat.mod_lt _ h0
  have hd : j / k * k + j % k = j := by rw [Nat.mul_comm]; exact Nat.div_add_mod j k
  have e := flatR_at hk (List.getElem?_eq_getElem hq) hr
  rw [hd, hu] at e
  have := h _ _ (List.getElem?_eq_getElem hq) (j % k) u e.symm
  rwa [show off + j / k * k + j % k = off + j by omega] at this
/-- The elements of a slice at a are those of l; their block lies in no block of S. -/
def LstR (row : α → List Value) (k : Nat) (w : World) (S : Nat → Prop) (a : Option Addr) (l : List α) : Prop :=
  0 < l.length → ∃ b off, a = some ⟨b, off, none⟩ ∧ ¬ S b ∧ b < w.heap.size ∧ ∀ i v, l[i]? = some v → w.rangeAt b (off + i * k) (row v)
variable {w w' : World} {S T : Nat → Prop} {a : Option Addr} {l : List α} {B : Nat} {e : TypeId}
theorem LstR.nil (w : World) (S : Nat → Prop) (a : Option Addr) : LstR row k w S a ([] : List α) := fun h => by simp at h
theorem LstR.same (h : LstR row k w S a l) (hs : w.heap.size ≤ w'.heap.size) (hb : ∀ b, b < w.heap.size → ¬ S b → w'.heap[b]? = w.heap[b]?) : LstR row k w' S a l := fun h0 => by
  obtain ⟨b, off, h1, h2, h3, h4⟩ := h h0
  exact ⟨b, off, h1, h2, by omega, fun i v hi => rangeAt_same (h4 i v hi) (hb b h3 h2)⟩
theorem LstR.below (h : LstR row k w S a l) (hb : Below w.heap.size w w') : LstR row k w' S a l := h.same hb.size fun b hlt _ => hb.block b hlt
theorem LstR.kept (h : LstR row k w S a l) (hb : Kept S w w') : LstR row k w' S a l := h.same hb.size fun b hlt hn => hb.block b hlt hn
theorem LstR.alloc (h : LstR row k w S a l) (o : Obj) : LstR row k (w.alloc o) S a l := h.same (by simp) fun b hlt _ => Below.heap_alloc w o b hlt
theorem LstR.more (h : LstR row k w S a l) (hT : ∀ i, i < w.heap.size → T i → S i) : LstR row k w T a l := fun h0 => by
  obtain ⟨b, off, h1, h2, h3, h4⟩ := h h0
  exact ⟨b, off, h1, fun ht => h2 (hT b h3 ht), h3, h4⟩
theorem LstR.at (h : LstR row k w S a l) {i : Nat} {v : α} (hi : l[i]? = some v) : ∃ b off, a = some ⟨b, off, none⟩ ∧ ¬ S b ∧ b < w.heap.size ∧ w.rangeAt b (off + i * k) (row v) := by
  obtain ⟨b, off, h1, h2, h3, h4⟩ := h (by have := (List.getElem?_eq_some_iff.1 hi).1; omega)
  exact ⟨b, off, h1, h2, h3, h4 i v hi⟩
theorem LstR.take (h : LstR row k w S a l) (n : Nat) : LstR row k w S a (l.take n) := fun h0 => by
  obtain ⟨b, off, h1, h2, h3, h4⟩ := h (by rw [List.length_take] at h0; omega)
  refine ⟨b, off, h1, h2, h3, fun i v hi => h4 i v ?_⟩
  rw [List.getElem?_take] at hi
  split at hi
  · exact hi
  · cases hi
theorem LstR.flat (hk : ∀ v, (row v).length = k) (hp : 0 < k) (h : LstR row k w S a l) (h0 : 0 < l.length) : ∃ ad, a = some ad ∧ ∀ j u, (flatR row l)[j]? = some u → w.cell? (ad.add j) = some u := by
  obtain ⟨b, off, h1, _, _, h4⟩ := h h0
  refine ⟨⟨b, off, none⟩, h1, fun j u hu => ?_⟩
  rw [add_plain]
  exact flatR_of_range hk hp h4 j u hu
theorem lstR_src (hk : ∀ v, (row v).length = k) (hp : 0 < k) (h : LstR row k w S a l) (hb : Below w.heap.size w w') : 0 < l.length → ∃ ad, a = some ad ∧ ∀ j u, (flatR row l)[j]? = some u → w'.cell? (ad.add j) = some u := fun h0 => (h.below hb).flat hk hp h0
/-! ### rows of one's own -/
variable {s : Value} {n : Nat} {xs : List Value}
theorem ownsR_slice (h : w.ownsRow B e k s n xs) : ∃ a cp, s = .slice a n cp ∧ n ≤ cp ∧ cp ≤ maxLen := by
  rcases h.2 with ⟨rfl, rfl⟩ | ⟨g, cp, cur, rfl, _, _, h1, h2, _⟩
  · exact ⟨none, 0, rfl, by omega, by unfold maxLen; omega⟩
  · exact ⟨_, cp, rfl, h1, h2⟩
theorem ownsR_same (h : w.ownsRow B e k s n xs) (hb : ∀ i, s.ownBlock = some i → w'.heap[i]? = w.heap[i]?) : w'.ownsRow B e k s n xs := by
  refine ⟨h.1, h.2.imp id ?_⟩
  rintro ⟨g, cp, cur, rfl, h1, h2, h3⟩
  exact ⟨g, cp, cur, rfl, h1, (hb g rfl).trans h2, h3⟩
theorem ownsR_base (h : w.ownsRow B e k s n xs) {C : Nat} (hB : C ≤ B) : w.ownsRow C e k s n xs := by
  refine ⟨h.1, h.2.imp id ?_⟩
  rintro ⟨g, cp, cur, rfl, h1, h2⟩
  exact ⟨g, cp, cur, rfl, by omega, h2⟩
theorem ownsR_up (h : w.ownsRow B e k s n xs) {C : Nat} (hB : ∀ i, s.ownBlock = some i → C ≤ i) : w.ownsRow C e k s n xs := by
  refine ⟨h.1, h.2.imp id ?_⟩
  rintro ⟨g, cp, cur, rfl, h1, h2⟩
  exact ⟨g, cp, cur, rfl, hB g rfl, h2⟩
theorem ownsR_below (h : w.ownsRow B e k s n xs) (hb : Below w.heap.size w w') : w'.ownsRow B e k s n xs := ownsR_same h fun i hi => hb.block i (h.lt i hi).2
theorem ownsR_kept (h : w.ownsRow B e k s n xs) (hb : Kept S w w') (hS : ∀ i, s.ownBlock = some i → ¬ S i) : w'.ownsRow B e k s n xs := ownsR_same h fun i hi => hb.block i (h.lt i hi).2 (hS i hi)
/-- The block of an owned row. -/
theorem ownsR_blk (h : w.ownsRow B e k s n xs) {i : Nat} (hi : s.ownBlock = some i) : ∃ cur, Blk w i e cur ∧ B ≤ i := by
  rcases h.2 with ⟨rfl, _⟩ | ⟨g, cp, cur, rfl, h1, h2, _⟩
  · cases hi
  · simp only [Value.ownBlock, Option.some.injEq] at hi
    subst hi
    exact ⟨cur, h2, h1⟩
theorem newR_cells (w : World) (t : TypeId) (cs : List Value) : ∀ j u, cs[j]? = some u → (w.alloc (.cells cs.toArray t)).cell? ((⟨w.heap.size, 0, none⟩ : Addr).add j) = some u := fun j u hu => by
  rw [add_plain, (Blk.new w t cs.toArray).cell]
  simpa using hu
/-- What an owned row of elements reads as. -/
theorem ownsR_lst (hk : ∀ v, (row v).length = k) (h : w.ownsRow B e k s n (flatR row l)) (hl : l.length = n) (hS : ∀ i, s.ownBlock = some i → ¬ S i) : ∃ a cp, s = .slice a n cp ∧ n ≤ cp ∧ cp ≤ maxLen ∧ LstR row k w S a l := by
  rcases h.2 with ⟨rfl, h0⟩ | ⟨g, cp, cur, rfl, h1, h2, h3, h4, h5⟩
  · subst h0
    refine ⟨none, 0, rfl, by omega, by unfold maxLen; omega, fun h => by omega⟩
  · refine ⟨_, cp, rfl, h3, h4, fun h0 => ⟨g, 0, rfl, hS g rfl, (Array.getElem?_eq_some_iff.1 h2).1, fun i v hi => ?_⟩⟩
    exact rangeR_of_flat hk (fun j u hu => by
      have := h.cells (g := g) rfl j u hu
      rwa [add_plain] at this) hi
end

/-! ### '==' of two structs -/
section
variable {P : Program} (w : World)
/-- A field of two values of one struct: one cell each, of a plain kind. -/
def FieldOne (P : Program) (xs ys : Array Value) (f : Field) : Prop :=
  f.name ≠ "_" ∧ ((∃ k n m, P.underlying f.type = some (.int k) ∧ xs[f.offset]? = some (.int k n) ∧ ys[f.offset]? = some (.int k m)) ∨ (∃ n m, P.underlying f.type = some .bool ∧ xs[f.offset]? = some (.bool n) ∧ ys[f.offset]? = some (.bool m)) ∨
    ∃ n m, P.underlying f.type = some .string ∧ xs[f.offset]? = some (.string n) ∧ ys[f.offset]? = some (.string m))
theorem bytes_beq {n m : ByteArray} : (n.toList == m.toList) = true ↔ n = m := by
  rw [beq_iff_eq, ByteArray.toList_eq, ByteArray.toList_eq]
  constructor
  · intro h
    have : n.data = m.data := Array.toList_inj.1 h
    cases n; cases m; simp_all
  · rintro rfl; rfl
theorem eqFields_one (d : Nat) (xs ys : Array Value) :
    ∀ (fs : List Field), (∀ f ∈ fs, FieldOne P xs ys f) →
      ∃ r, (Op.eqFields (d + 1) xs ys fs).run P w = .ok r w ∧ (r = true ↔ ∀ f ∈ fs, xs[f.offset]? = ys[f.offset]?)
  | [], _ => ⟨true, by simp [Op.eqFields], by simp⟩
  | f :: fs, h => by
    obtain ⟨hname, h1⟩ := h f (by simp)
    obtain ⟨r, hr, hr2⟩ := eqFields_one d xs ys fs (fun j hj => h j (by simp [hj]))
    obtain ⟨x, y, b, hn, hm, hp, hp', hq, hb⟩ : ∃ x y b, xs[f.offset]? = some x ∧ ys[f.offset]? = some y ∧ (part f.type xs f.offset).run P w = .ok x w ∧ (part f.type ys f.offset).run P w = .ok y w ∧ (Op.equalIn (d + 1) f.type x y).run P w = .ok b w ∧ (b = true ↔ x = y) := by
      rcases h1 with ⟨k, n, m, hk, hn, hm⟩ | ⟨n, m, hk, hn, hm⟩ | ⟨n, m, hk, hn, hm⟩
      · exact ⟨_, _, _, hn, hm, run_part_plain w (by simp [Program.plainKey, hk]) hn, run_part_plain w (by simp [Program.plainKey, hk]) hm, run_equalIn_int (P := P) w d f.type k k n m hk, by simp⟩
      · exact ⟨_, _, _, hn, hm, run_part_plain w (by simp [Program.plainKey, hk]) hn, run_part_plain w (by simp [Program.plainKey, hk]) hm, run_equalIn_bool' (P := P) w d f.type n m hk, by simp⟩
      · exact ⟨_, _, _, hn, hm, run_part_plain w (by simp [Program.plainKey, hk]) hn, run_part_plain w (by simp [Program.plainKey, hk]) hm, run_equalIn_string (P := P) w d f.type n m hk, fun h => by rw [bytes_beq.1 h], fun h => by injection h with h; exact bytes_beq.2 h⟩
    cases b with
    | true =>
      obtain rfl := hb.1 rfl
      refine ⟨r, by simp only [Op.eqFields, hname, ne_eq, not_false_eq_true, if_true, Sem.run_bind, hp, hp', hq, Result.andThen_ok]; simpa using hr, ?_⟩
      simp only [List.mem_cons, forall_eq_or_imp, hn, hm, true_and]
      exact hr2
    | false =>
      refine ⟨false, by simp only [Op.eqFields, hname, ne_eq, not_false_eq_true, if_true, Sem.run_bind, hp, hp', hq, Result.andThen_ok]; simp, ?_⟩
      have hne : x ≠ y := fun e => by have := hb.2 e; cases this
      simp [hn, hm, hne]
theorem equal_struct_one {t : TypeId} {fs : Array Field} (xs ys : Array Value) (hu : P.underlying t = some (.struct fs)) (hp : P.stoodInHeld t = false) (hx : ∀ f ∈ fs.toList, FieldOne P xs ys f) :
    ∃ r, (Op.equalIn 10000 t (.agg xs) (.agg ys)).run P w = .ok r w ∧ (r = true ↔ ∀ f ∈ fs.toList, xs[f.offset]? = ys[f.offset]?) := by
  have hf : P.fieldsOf t = fs := by simp [Program.fieldsOf, hu]
  rw [run_equalIn_struct w 9999 t xs ys (by rw [hf]; exact hu) hp, hf]
  exact eqFields_one w 9998 xs ys _ hx
end

/-! ### a slice of structs that came in -/
theorem rangeR_of_cells {w : World} {base b off n : Nat} {cs : List Value} (h : w.cells? base ((⟨b, off, none⟩ : Addr).add n) cs.length = some cs) : w.rangeAt b (off + n) cs := fun j v hv => by
  obtain ⟨_, _, h2⟩ := World.cells?_some h
  have := h2 j (List.getElem?_eq_some_iff.1 hv).1
  rw [add_plain, add_plain] at this
  exact this.trans hv
/-- Elements of type e that came in: Fit holds of each one. -/
def IsLstR {α : Type} (row : α → List Value) (k : Nat) (Fit : α → Prop) (w : World) (a : Option Addr) (len cap : Nat) : Prop :=
  len ≤ cap ∧ cap ≤ maxLen ∧ ∃ l : List α, l.length = len ∧ (∀ v ∈ l, Fit v) ∧ LstR row k w (fun _ => False) a l
section
variable {α : Type} [Inhabited α] {row : α → List Value} {k : Nat} {Fit : α → Prop} {H : Type} {enc : TypeId × Value → H} {P : Program} {w : World} {base : Nat} {held : Bool}
theorem lstR_of_trod {t e : TypeId} {n : Nat} {v : Value} {y : DataW H × List MemPlace} (ht : P.underlying t = some (.slice e)) (hC : P.cellsOf e = k) (hk : ∀ v, (row v).length = k) (hp : 0 < k)
    (htr : ∀ (n : Nat) (cs : List Value) (x : DataW H × List MemPlace), DataW.trod enc P w base (fun _ => true) held n e cs = some x → cs.length = k → ∃ v : α, cs = row v ∧ Fit v)
    (hf : DataW.trod enc P w base (fun _ => true) held n t [v] = some y) : ∃ (a : Option Addr) (len cap : Nat), v = .slice a len cap ∧ IsLstR row k Fit w a len cap := by
  rcases open_slice ht hf with h0 | ⟨x, l, c, m, n, D, Pl, hcs, hb, hl, hm, hmm, hx, hi⟩
  · have hcs := h0.1
    injection hcs with hcs
    exact ⟨none, 0, 0, hcs, by omega, by unfold maxLen; omega, [], rfl, by simp, LstR.nil _ _ _⟩
  · injection hcs with hcs
    rw [hC] at hi
    obtain ⟨f, hfv⟩ := choose_lt (α := α) (p := fun i v => w.cells? base (x.add (i * k)) k = some (row v) ∧ Fit v) (n := l) (fun i hil => by
      obtain ⟨cs', h1, h2⟩ := hi i (by rw [hmm]; simp; omega)
      obtain ⟨v, rfl, hfit⟩ := htr _ _ _ h2 (World.cells?_some h1).2.1
      exact ⟨v, h1, hfit⟩)
    refine ⟨some x, l, c, by simpa using hcs, by simpa using hl, hm, (List.range l).map f, by simp, fun v hv => ?_, fun h0 => ?_⟩
    · obtain ⟨i, hi', rfl⟩ := List.mem_map.1 hv
      exact (hfv i (by simpa using hi')).2
    · simp at h0
      obtain ⟨b, off, spot⟩ := x
      have hc0 := (World.cells?_some (hfv 0 h0).1).2.2 0 hp
      rw [Nat.zero_mul] at hc0
      have hl0 : 0 < (row (f 0)).length := by rw [hk]; exact hp
      rw [List.getElem?_eq_getElem hl0] at hc0
      have hs : spot = none := by
        have := World.cell?_spot hc0
        simpa [Addr.add] using this
      subst hs
      refine ⟨b, off, rfl, fun h => h, by have := cell_lt hc0; rwa [add_plain, add_plain] at this, fun i v hiv => ?_⟩
      simp only [List.getElem?_map] at hiv
      have hil : i < l := by
        rcases Nat.lt_or_ge i l with h | h
        · exact h
        · simp [h] at hiv
      simp [hil] at hiv
      subst hiv
      exact rangeR_of_cells (base := base) (by rw [hk]; exact (hfv i hil).1)
theorem open_lstR {t e : TypeId} {r : Reach} {b0 : Nat} {v : Value} {d : DataW H} {p : List MemPlace} (ht : P.underlying t = some (.slice e)) (hC : P.cellsOf e = k) (hk : ∀ v, (row v).length = k) (hp : 0 < k)
    (htr : ∀ (n : Nat) (cs : List Value) (x : DataW H × List MemPlace), DataW.trod enc P w base (fun _ => true) held n e cs = some x → cs.length = k → ∃ v : α, cs = row v ∧ Fit v)
    (hv : Value.okWide P w r b0 t v) (h : DataW.Trod enc P w base (fun _ => true) held t v d p) : ∃ (a : Option Addr) (len cap : Nat), v = .slice a len cap ∧ IsLstR row k Fit w a len cap := by
  obtain ⟨a, len, cap, rfl⟩ := okWide_slice ht hv
  obtain ⟨fuel, hf⟩ := h
  exact lstR_of_trod ht hC hk hp htr hf
end
end Go.Proofs.Ythnhpmeacboljaa
