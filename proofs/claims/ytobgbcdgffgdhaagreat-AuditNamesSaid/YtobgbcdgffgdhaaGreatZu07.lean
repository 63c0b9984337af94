/- Part 7 of 29: L21As L21Pm L21Oq L08Ent L08Row L08Ring L08New L08Put L06Ops L06Ref Reads L16SameV. -/
import Derived.Test.YtobgbcdgffgdhaaGreatZu06
namespace Go.Proofs.YtobgbcdgffgdhaaGreat
set_option linter.unusedVariables false
set_option linter.unusedSimpArgs false
section
open Go Go.ChangeShapes Go.WideShapes Go.RowKit Go.Deep
set_option maxRecDepth 100000
structure As where
 ix : Int
 cl : Int
 ep : Int
deriving DecidableEq, Inhabited
def As.row (v : As) : List Value := [.int .i64 v.ix, .int .i64 v.cl, .int .i64 v.ep]
theorem As.row_one (v : As) : ∀ u ∈ v.row, u.oneCell' = true := by
 intro u hu
 simp only [As.row, List.mem_cons, List.not_mem_nil, or_false] at hu
 rcases hu with rfl | rfl | rfl <;> rfl
end
section
open Go Go.ChangeShapes Go.WideShapes Go.RowKit Go.Deep
set_option maxRecDepth 100000
structure Pm where
 ix : Int
 am : Int
 fl : Bool
deriving DecidableEq, Inhabited
def Pm.row (v : Pm) : List Value := [.int .i64 v.ix, .int .u64 v.am, .bool v.fl]
theorem Pm.row_one (v : Pm) : ∀ u ∈ v.row, u.oneCell' = true := by
 intro u hu
 simp only [Pm.row, List.mem_cons, List.not_mem_nil, or_false] at hu
 rcases hu with rfl | rfl | rfl <;> rfl
end
section
open Go Go.ChangeShapes Go.WideShapes Go.RowKit Go.Deep
set_option maxRecDepth 100000
structure Oq where
 kd : Int
 ix : Int
 tg : Int
 am : Int
deriving DecidableEq, Inhabited
def Oq.row (v : Oq) : List Value := [.int .i64 v.kd, .int .i64 v.ix, .int .i64 v.tg, .int .u64 v.am]
def FitsOq (v : Oq) : Prop := (Lit.int .i64 v.kd).wf = true ∧ (Lit.int .i64 v.ix).wf = true ∧ (Lit.int .i64 v.tg).wf = true ∧ (Lit.int .u64 v.am).wf = true
theorem Oq.row_one (v : Oq) : ∀ u ∈ v.row, u.oneCell' = true := by
 intro u hu
 simp only [Oq.row, List.mem_cons, List.not_mem_nil, or_false] at hu
 rcases hu with rfl | rfl | rfl | rfl <;> rfl
end
section
set_option maxRecDepth 100000
open Go Go.ChangeShapes Go.WideShapes Go.RowKit Go.Deep
abbrev Ent := Int × Int
def rowE (v : Ent) : List Value := [.int .i64 v.1, .int .i64 v.2]
def cellsE (v : Ent) : Array Value := (rowE v).toArray
theorem row_len_08 (v : Ent) : (rowE v).length = 2 := rfl
theorem row_one_08 (v : Ent) : ∀ u ∈ rowE v, u.oneCell' = true := by
 intro u hu
 simp only [rowE, List.mem_cons, List.not_mem_nil, or_false] at hu
 rcases hu with rfl | rfl <;> rfl
theorem cellsE_one (v : Ent) : (cellsE v).all (·.oneCell') = true := by
 refine Array.all_eq_true_iff_forall_mem.2 (fun u hu => row_one_08 v u (by simpa [cellsE] using hu))
theorem infoE_08 : (Tryz.prog.info? 271).map (·.size) = some 2 := by kernel_rfl
theorem infoE3 : (Tryz.prog.info? 271).map (fun i => (i.zero, i.size, i.bytes)) = some (some (.agg #[.int .i64 0, .int .i64 0]), 2, 16) := by kernel_rfl
def flat_08 (l : List Ent) : List Value := l.flatMap rowE
theorem flat_len_08 (l : List Ent) : (flat_08 l).length = l.length * 2 := by
 induction l with
 | nil => rfl
 | cons x l ih => simp only [flat_08, List.flatMap_cons, List.length_append, row_len_08, List.length_cons] at ih ⊢; omega
theorem flat_append_08 (l m : List Ent) : flat_08 (l ++ m) = flat_08 l ++ flat_08 m := by simp [flat_08]
theorem flat_one_08 (v : Ent) : flat_08 [v] = (rowE v) := by simp [flat_08]
theorem flat_at_08 {l : List Ent} {i : Nat} {v : Ent} (h : l[i]? = some v) {j : Nat} (hj : j < 2) : (flat_08 l)[i * 2 + j]? = (rowE v)[j]? := by
 induction l generalizing i with
 | nil => simp at h
 | cons x l ih =>
  cases i with
  | zero =>
   simp at h
   subst h
   simp only [flat_08, List.flatMap_cons, Nat.zero_mul, Nat.zero_add]
   rw [List.getElem?_append_left (by rw [row_len_08]; exact hj)]
  | succ i =>
   simp only [List.getElem?_cons_succ] at h
   have := ih h
   simp only [flat_08, List.flatMap_cons] at this ⊢
   rw [List.getElem?_append_right (by rw [row_len_08]; omega), row_len_08, show (i + 1) * 2 + j - 2 = i * 2 + j by omega]
   exact this
theorem range_of_flat_08 {w : World} {b off : Nat} {l : List Ent} (h : ∀ j u, (flat_08 l)[j]? = some u → w.cell? ⟨b, off + j, none⟩ = some u) {i : Nat} {v : Ent} (hi : l[i]? = some v) : w.rangeAt b (off + i * 2) (rowE v) := by
 intro j u hu
 have hj : j < 2 := (List.getElem?_eq_some_iff.1 hu).1
 rw [Nat.add_assoc]
 exact h _ _ ((flat_at_08 hi hj).trans hu)
section
variable {P : Program} {ops : Array Oper} {rest : List Oper} {op : Oper} {a : Act} {w : World} {Q : Exit → Act → World → Prop}
theorem wpList_load_ent (hgd : op.guard = none) (ty : TypeId) (x : Operand) (ho : op.op = .load ty x)
  (b o : Nat) (hx : a.eval x = .pointer (some ⟨b, o, none⟩)) (v : Ent) (d : TypeDesc) (hc : w.rangeAt b o (rowE v))
  (hu : P.underlying ty = some d) (hd : d.isRow = true) (hi : (P.info? ty).map (·.size) = some 2)
  (h : wpList P ops Q rest (a.put op.dst (.agg (cellsE v))) w) : wpList P ops Q (op :: rest) a w :=
 wpList_load_mid hgd ty x ho b o hx (rowE v) d hc hu hd hi h
end
structure OpV where
 due : Bool
 ep : Int
 it : Int
deriving Inhabited
def opRow (x : OpV) : List Value := [.bool x.due, .int .i64 x.ep, .int .i64 x.it]
def opCells (x : OpV) : Array Value := (opRow x).toArray
theorem Blk.op {w : World} {g t : Nat} {x : OpV} (h : Blk w g t (opCells x)) : w.rangeAt g 0 (opRow x) := fun j u hu => by
 rw [Nat.zero_add, h.cell j]
 simpa [opCells] using hu
end
section
set_option maxRecDepth 100000
open Go Go.RowKit Go.Deep
section
variable {w w' a : World} {g t : Nat} {S : Nat → Prop}
def Row (w : World) (g cap n : Nat) (l : List Ent) : Prop :=
 l.length = n ∧ n ≤ cap ∧ cap ≤ maxLen ∧ ∃ rest : List Value, rest.length = (cap - n) * 2 ∧ Blk w g 271 (flat_08 l ++ rest).toArray
theorem row_of_owns {base cap n : Nat} {l : List Ent} (h : w.ownsRow base 271 2 (.slice (some ⟨g, 0, none⟩) n cap) n (flat_08 l)) : Row w g cap n l := by
 have hl := h.1
 rw [flat_len_08] at hl
 rcases h.2 with ⟨h1, _⟩ | ⟨g', cp', cur, h1, h2, h3, h4, h5, h6, h7⟩
 ·cases h1
 ·injection h1 with h1 _ hcp
  injection h1 with h1
  injection h1 with h1
  subst h1 hcp
  have e : cur = (flat_08 l ++ cur.toList.drop (n * 2)).toArray := by rw [← h7, List.take_append_drop]
  refine ⟨by omega, h4, h5, cur.toList.drop (n * 2), ?_, by rw [← e]; exact h3⟩
  rw [List.length_drop, Array.length_toList, h6, Nat.sub_mul]
theorem Row.owns {base cap n : Nat} {l : List Ent} (h : Row w g cap n l) (hb : base ≤ g) : w.ownsRow base 271 2 (.slice (some ⟨g, 0, none⟩) n cap) n (flat_08 l) := by
 obtain ⟨h1, h2, h3, rest, h4, h5⟩ := h
 refine ⟨by rw [flat_len_08, h1], .inr ⟨g, cap, _, rfl, hb, h5, h2, h3, ?_, ?_⟩⟩
 ·simp only [List.size_toArray, List.length_append, flat_len_08, h4, h1]
  have : n * 2 ≤ cap * 2 := Nat.mul_le_mul_right 2 h2
  rw [Nat.sub_mul]; omega
 ·rw [List.toList_toArray, List.take_left' (by rw [flat_len_08, h1])]
section
variable {cap n i j : Nat} {l : List Ent} {x y v old : Ent} {X Y L R Q : List Ent}
theorem Row.lt (h : Row w g cap n l) : g < w.heap.size := by
 obtain ⟨_, _, _, rest, _, h5⟩ := h
 exact h5.lt
theorem Row.same (h : Row w g cap n l) (hb : w'.heap[g]? = w.heap[g]?) : Row w' g cap n l := by
 obtain ⟨h1, h2, h3, rest, h4, h5⟩ := h
 exact ⟨h1, h2, h3, rest, h4, hb.trans h5⟩
theorem Row.drew (h : Row w g cap n l) : Row w.drew g cap n l := h
theorem Row.drewN (h : Row w g cap n l) (m : Nat) : Row (w.drewN m) g cap n l := h
theorem Row.below (h : Row w g cap n l) (hb : Below w.heap.size w w') : Row w' g cap n l := h.same (hb.block g h.lt)
theorem Row.at (h : Row w g cap n l) (hi : l[i]? = some x) : w.rangeAt g (i * 2) (rowE x) := by
 obtain ⟨h1, h2, h3, rest, h4, h5⟩ := h
 have := range_of_flat_08 (w := w) (b := g) (off := 0) (l := l) (fun k u hu => by
  rw [h5.cell, Nat.zero_add, List.getElem?_toArray, List.getElem?_append_left (List.getElem?_eq_some_iff.1 hu).1]
  exact hu) hi
 rwa [Nat.zero_add] at this
theorem Row.set (h : Row w g cap n (X ++ old :: Y)) (hi : X.length = i) (v : Ent) : Row (w.setCells g (i * 2) (rowE v)) g cap n (X ++ v :: Y) ∧ w.there g (i * 2) 2 := by
 obtain ⟨h1, h2, h3, rest, h4, h5⟩ := h
 have e1 : flat_08 (X ++ old :: Y) ++ rest = flat_08 X ++ rowE old ++ (flat_08 Y ++ rest) := by simp [flat_08]
 have e2 : flat_08 (X ++ v :: Y) ++ rest = flat_08 X ++ rowE v ++ (flat_08 Y ++ rest) := by simp [flat_08]
 rw [e1] at h5
 have hX : (flat_08 X).length = i * 2 := by rw [flat_len_08, hi]
 have hb2 := blk_setCells (rowE v) (flat_08 X) (rowE old) (flat_08 Y ++ rest) w rfl h5
 rw [hX] at hb2
 refine ⟨⟨by simpa using h1, h2, h3, rest, h4, by rw [e2]; exact hb2⟩, fun j hj => ⟨?_, h5.frozen _⟩⟩
 rw [h5.cell, Array.getElem?_eq_getElem (by simp [flat_len_08, hi, row_len_08]; omega)]
 rfl
end
end
end
section
set_option maxRecDepth 100000
open Go Go.RowKit Go.Deep
def bk (n : Nat) (L : List Ent) (j : Nat) : List Ent := L.filter fun e => e.1 % (n : Int) == (j : Int)
def OkE (L : List Ent) : Prop := ∀ e ∈ L, 0 ≤ e.1 ∧ e.1 ≤ 1099511627776
theorem bk_len (n : Nat) (L : List Ent) (j : Nat) : (bk n L j).length ≤ L.length := List.length_filter_le _ _
theorem bk_append (n : Nat) (L M : List Ent) (j : Nat) : bk n (L ++ M) j = bk n L j ++ bk n M j := List.filter_append _ _
theorem bk_one {n j : Nat} {e : Ent} (h : e.1 % (n : Int) = (j : Int)) (i : Nat) : bk n [e] i = if i = j then [e] else [] := by
 unfold bk
 by_cases hi : i = j
 ·subst hi; simp [h]
 ·rw [if_neg hi]
  have : ¬ e.1 % (n : Int) = (i : Int) := by omega
  simp [this]
theorem bk_filter (n : Nat) (L : List Ent) (j : Nat) (p : Ent → Bool) : bk n (L.filter p) j = (bk n L j).filter p := by
 unfold bk
 rw [List.filter_filter, List.filter_filter]
 congr 1
 funext e
 rw [Bool.and_comm]
theorem bk_epoch {n j : Nat} {ep : Int} (h : ep % (n : Int) = (j : Int)) (L : List Ent) : (bk n L j).filter (fun e => e.1 == ep) = L.filter fun e => e.1 == ep := by
 unfold bk
 rw [List.filter_filter]
 congr 1
 funext e
 by_cases he : e.1 = ep
 ·simp [he, h]
 ·simp [he]
theorem bk_other {n i j : Nat} {ep : Int} (h : ep % (n : Int) = (j : Int)) (hi : i ≠ j) (L : List Ent) : (bk n L i).filter (fun e => !(e.1 == ep)) = bk n L i := by
 rw [List.filter_eq_self]
 intro e he
 have := (List.mem_filter.1 he).2
 simp only [beq_iff_eq] at this
 simp only [Bool.not_eq_true', beq_eq_false_iff_ne, ne_eq]
 rintro rfl
 omega
structure RingP (w : World) (b B n : Nat) (ss : List Value) (L : List Ent) : Prop where
 own : Blk w b 191 #[.slice (some ⟨B, 0, none⟩) n n]
 bks : Blk w B 165 ss.toArray
 len : ss.length = n
 pos : 1 ≤ n
 top : n ≤ 4096
 row : ∀ (j : Nat) (s : Value), ss[j]? = some s → w.ownsRow 0 271 2 s (bk n L j).length (flat_08 (bk n L j))
 apart : ∀ (i j : Nat) (s t : Value) (q : Nat), i ≠ j → ss[i]? = some s → ss[j]? = some t → s.ownBlock = some q → t.ownBlock ≠ some q
 ok : OkE L
def Ring (w : World) (b : Nat) (S : Nat → Prop) (n : Nat) (L : List Ent) : Prop :=
 ∃ B ss, RingP w b B n ss L ∧ ∀ i, S i ↔ i = b ∨ i = B ∨ ∃ s : Value, s ∈ ss ∧ s.ownBlock = some i
theorem owns_slice_08 {w : World} {s : Value} {n : Nat} {xs : List Value} (h : w.ownsRow 0 271 2 s n xs) : ∃ a cp, s = .slice a n cp ∧ n ≤ cp ∧ cp ≤ maxLen := by
 rcases h.2 with ⟨rfl, rfl⟩ | ⟨g, cp, cur, rfl, _, _, h1, h2, _⟩
 ·exact ⟨none, 0, rfl, by omega, by unfold maxLen; omega⟩
 ·exact ⟨_, cp, rfl, h1, h2⟩
theorem owns_same_08 {w w' : World} {base e k : Nat} {s : Value} {n : Nat} {xs : List Value} (h : w.ownsRow base e k s n xs) (hb : ∀ i, s.ownBlock = some i → w'.heap[i]? = w.heap[i]?) : w'.ownsRow base e k s n xs := by
 refine ⟨h.1, h.2.imp id ?_⟩
 rintro ⟨g, cp, cur, rfl, h1, h2, h3⟩
 exact ⟨g, cp, cur, rfl, h1, (hb g rfl).trans h2, h3⟩
theorem owns_tag {w : World} {base e k : Nat} {s : Value} {n : Nat} {xs : List Value} {q t : Nat} {cs : Array Value} (h : w.ownsRow base e k s n xs) (hq : s.ownBlock = some q) (hb : Blk w q t cs) : t = e := by
 rcases h.2 with ⟨rfl, _⟩ | ⟨g, cp, cur, rfl, _, h3, _⟩
 ·cases hq
 ·injection hq with hq
  have hq : g = q := hq
  subst hq
  unfold Blk at hb
  rw [h3] at hb
  injection hb with hb
  injection hb with _ hb
  exact hb.symm
section
variable {w w' : World} {b B n j : Nat} {s s' : Value} {ss : List Value} {L L' : List Ent} {S T : Nat → Prop}
theorem RingP.ne (h : RingP w b B n ss L) : b ≠ B := h.own.ne_ h.bks (by decide)
theorem RingP.not (h : RingP w b B n ss L) (hs : ss[j]? = some s) : s.ownBlock ≠ some b ∧ s.ownBlock ≠ some B :=
 ⟨fun e => absurd (owns_tag (h.row j s hs) e h.own) (by decide), fun e => absurd (owns_tag (h.row j s hs) e h.bks) (by decide)⟩
theorem RingP.get (h : RingP w b B n ss L) (hj : j < n) : ∃ s, ss[j]? = some s := ⟨_, List.getElem?_eq_getElem (by rw [h.len]; exact hj)⟩
theorem RingP.cells (h : RingP w b B n ss L) (hs : ss[j]? = some s) : w.cell? ⟨b, 0, none⟩ = some (.slice (some ⟨B, 0, none⟩) n n) ∧ w.cell? ⟨B, j, none⟩ = some s :=
 ⟨h.own.cell 0, by rw [h.bks.cell j, List.getElem?_toArray]; exact hs⟩
theorem RingP.same (h : RingP w b B n ss L) (hb : w'.heap[b]? = w.heap[b]?) (hB : w'.heap[B]? = w.heap[B]?) (hs : ∀ s : Value, s ∈ ss → ∀ i, s.ownBlock = some i → w'.heap[i]? = w.heap[i]?) : RingP w' b B n ss L :=
 ⟨hb.trans h.own, hB.trans h.bks, h.len, h.pos, h.top, fun j s hj => owns_same_08 (h.row j s hj) (hs s (List.mem_of_getElem? hj)), h.apart, h.ok⟩
theorem RingP.lt (h : RingP w b B n ss L) (hs : s ∈ ss) {i : Nat} (hi : s.ownBlock = some i) : i < w.heap.size := by
 obtain ⟨j, hj⟩ := List.mem_iff_getElem?.1 hs
 exact ((h.row j s hj).lt i hi).2
theorem RingP.upd (h : RingP w b B n ss L) (hj : ss[j]? = some s) (hb : w'.heap[b]? = w.heap[b]?) (hB : Blk w' B 165 (ss.set j s').toArray)
  (hs : ∀ (i : Nat) (t : Value), i ≠ j → ss[i]? = some t → ∀ q, t.ownBlock = some q → w'.heap[q]? = w.heap[q]?) (hr : w'.ownsRow 0 271 2 s' (bk n L' j).length (flat_08 (bk n L' j))) (ho : ∀ i, i ≠ j → bk n L' i = bk n L i)
  (hn : s'.ownBlock = s.ownBlock ∨ ∃ q, s'.ownBlock = some q ∧ w.heap.size ≤ q) (hok : OkE L') : RingP w' b B n (ss.set j s') L' := by
 have hjl := (List.getElem?_eq_some_iff.1 hj).1
 have pick : ∀ {i t}, (ss.set j s')[i]? = some t → (i = j ∧ t = s') ∨ (i ≠ j ∧ ss[i]? = some t) := fun {i t} hi => by
  by_cases e : j = i
  ·subst e
   rw [List.getElem?_set_self hjl] at hi
   exact .inl ⟨rfl, (Option.some.inj hi).symm⟩
  ·rw [List.getElem?_set_ne e] at hi
   exact .inr ⟨fun h => e h.symm, hi⟩
 refine ⟨hb.trans h.own, hB, by rw [List.length_set]; exact h.len, h.pos, h.top, fun i t hi => ?_, fun i k x y q hik hx hy hq => ?_, hok⟩
 ·rcases pick hi with ⟨rfl, rfl⟩ | ⟨hne, hi⟩
  ·exact hr
  ·rw [ho i hne]
   exact owns_same_08 (h.row i t hi) (hs i t hne hi)
 ·rcases pick hx with ⟨rfl, rfl⟩ | ⟨hne, hx2⟩
  ·rcases pick hy with ⟨rfl, rfl⟩ | ⟨hne2, hy⟩
   ·exact absurd rfl hik
   ·rcases hn with hn | ⟨q', hn, hl⟩
    ·exact h.apart _ _ _ _ q hik hj hy (by rw [← hn]; exact hq)
    ·intro e
     have := h.lt (List.mem_of_getElem? hy) e
     rw [hn] at hq
     injection hq with hq
     omega
  ·rcases pick hy with ⟨rfl, rfl⟩ | ⟨hne2, hy⟩
   ·rcases hn with hn | ⟨q', hn, hl⟩
    ·intro e
     exact h.apart _ _ _ _ q hik hx2 hj hq (by rw [← hn]; exact e)
    ·intro e
     have := h.lt (List.mem_of_getElem? hx2) hq
     rw [hn] at e
     injection e with e
     omega
   ·exact h.apart _ _ _ _ q hik hx2 hy hq
theorem Ring.lt (h : Ring w b S n L) : ∀ i, S i → i < w.heap.size := fun i hi => by
 obtain ⟨B, ss, hp, hS⟩ := h
 rcases (hS i).1 hi with rfl | rfl | ⟨s, hs, hq⟩
 ·exact hp.own.lt
 ·exact hp.bks.lt
 ·exact hp.lt hs hq
theorem Ring.same (h : Ring w b S n L) (hb : ∀ i, S i → w'.heap[i]? = w.heap[i]?) : Ring w' b S n L := by
 obtain ⟨B, ss, hp, hS⟩ := h
 exact ⟨B, ss, hp.same (hb b ((hS b).2 (.inl rfl))) (hb B ((hS B).2 (.inr (.inl rfl)))) (fun s hs i hi => hb i ((hS i).2 (.inr (.inr ⟨s, hs, hi⟩)))), hS⟩
theorem Ring.kept (h : Ring w b S n L) (k : Kept T w w') (hT : ∀ i, S i → ¬ T i) : Ring w' b S n L := h.same fun i hi => k.block i (h.lt i hi) (hT i hi)
theorem Ring.below (h : Ring w b S n L) (k : Below w.heap.size w w') : Ring w' b S n L := h.same fun i hi => k.block i (h.lt i hi)
theorem Ring.alloc (h : Ring w b S n L) (o : Obj) : Ring (w.alloc o) b S n L := h.below ((Below.refl _ _).alloc (Nat.le_refl _) o)
theorem Ring.drewN (h : Ring w b S n L) (m : Nat) : Ring (w.drewN m) b S n L := h.same fun _ _ => rfl
theorem Ring.drew (h : Ring w b S n L) : Ring w.drew b S n L := h.same fun _ _ => rfl
theorem Ring.fits (h : Ring w b S n L) : 1 ≤ n ∧ n ≤ 4096 ∧ OkE L := by
 obtain ⟨B, ss, hp, hS⟩ := h
 exact ⟨hp.pos, hp.top, hp.ok⟩
end
end
section
set_option maxRecDepth 100000
open Go Go.RowKit Go.Deep
theorem made_nils (n : Nat) : madeCells #[.slice none 0 0] n = (List.replicate n (Value.slice none 0 0)).toArray := by
 apply Array.ext
 ·simp [madeCells]
 ·intro i h1 h2
  simp [madeCells, Nat.mod_one]
theorem slice_info : ∃ i, Tryz.prog.info? 165 = some i ∧ i.zero = some (.slice none 0 0) ∧ i.size = 1 ∧ i.bytes = 24 := by
 have h : (Tryz.prog.info? 165).map (fun i => (i.zero, i.size, i.bytes)) = some (some (.slice none 0 0), 1, 24) := by kernel_rfl
 cases hi : Tryz.prog.info? 165 with
 | none => rw [hi] at h; cases h
 | some i =>
  rw [hi] at h
  simp at h
  exact ⟨i, rfl, h.1, h.2.1, h.2.2⟩
theorem new_raw_08 (n : Nat) (w : World) (h1 : 1 ≤ n) (h2 : n ≤ 4096) :
  Calls Tryz.prog 80 #[.int .i64 n] w fun e w' => e = .returned (.pointer (some ⟨w.heap.size + 1, 0, none⟩)) ∧ (w.alloc (.cells (List.replicate n (Value.slice none 0 0)).toArray 165)).alloc (.cells #[.slice (some ⟨w.heap.size, 0, none⟩) n n] 191) = w' := by
 obtain ⟨i, hi, hz, hs, hby⟩ := slice_info
 have hmk := fun w => run_make_rowN (P := Tryz.prog) 189 165 i _ Tryz.underlying189 hi hz .i64 .i64 n n (Nat.le_refl _) (by rw [hby]; omega) (by omega) w
 rw [hs, Nat.mul_one] at hmk
 have hz' : (Value.slice none 0 0).cells = #[.slice none 0 0] := rfl
 rw [hz', made_nils] at hmk
 have h0 : ¬ (n : Int) < 1 := by omega
 have h3 : ¬ (4096 : Int) < (n : Int) := by omega
 generalize (List.replicate n (Value.slice none 0 0)).toArray = cs at *
 clear hi hz hs hby hz' h1 h2
 go_enter Tryz.func80, Tryz.ntmps80
 go_wp2
 go_ret
 exact ⟨rfl, rfl⟩
theorem new_any_08 (n : Nat) (w : World) (h1 : 1 ≤ n) (h2 : n ≤ 4096) :
  Calls Tryz.prog 80 #[.int .i64 n] w fun e w' => ∃ b S, e = .returned (.pointer (some ⟨b, 0, none⟩)) ∧ Ring w' b S n [] ∧ (∀ i, S i → w.heap.size ≤ i) ∧ Below w.heap.size w w' := by
 refine (new_raw_08 n w h1 h2).mono ?_
 rintro e w' ⟨rfl, rfl⟩
 refine ⟨w.heap.size + 1, fun i => i = w.heap.size + 1 ∨ i = w.heap.size, rfl, ?_, fun i hi => by omega, ((Below.refl _ _).alloc (Nat.le_refl _) _).alloc (by simp) _⟩
 refine ⟨w.heap.size, List.replicate n (.slice none 0 0), ⟨?_, ?_, by simp, h1, h2, fun j s hj => ?_, fun i j s t q _ hs _ hq => ?_, fun e he => by simp at he⟩, fun i => ?_⟩
 ·have := Blk.new (w.alloc (.cells (List.replicate n (Value.slice none 0 0)).toArray 165)) 191 #[.slice (some ⟨w.heap.size, 0, none⟩) n n]
  rwa [World.size_alloc] at this
 ·exact Blk.alloc (Blk.new w _ _) _
 ·obtain ⟨_, rfl⟩ := List.mem_replicate.1 (List.mem_of_getElem? hj)
  exact World.ownsRow_nil _ _ _ _
 ·obtain ⟨_, rfl⟩ := List.mem_replicate.1 (List.mem_of_getElem? hs)
  cases hq
 ·constructor
  ·rintro (h | h)
   ·exact .inl h
   ·exact .inr (.inl h)
  ·rintro (h | h | ⟨s, hs, hq⟩)
   ·exact .inl h
   ·exact .inr h
   ·obtain ⟨_, rfl⟩ := List.mem_replicate.1 hs
    cases hq
theorem number_any (b n j cp : Nat) (a : Option Addr) (ep : Int) (w : World) (hb : w.cell? ⟨b, 0, none⟩ = some (.slice a n cp)) (hn : 1 ≤ n) (hn2 : n ≤ 4096) (h0 : 0 ≤ ep) (h1 : ep ≤ 1099511627776) (hj : ep % (n : Int) = (j : Int)) :
  CallW 229 #[.pointer (some ⟨b, 0, none⟩), .int .i64 ep] w (.tuple #[.int .i64 j, .bool true]) := by
 have h2 : ¬ ep < 0 := by omega
 have h3 : ¬ 1099511627776 < ep := by omega
 have hnz : ((n : Int) == 0) = false := by simp; omega
 have hnz2 : ¬ (n : Int) = 0 := by omega
 have hnz3 : (0 : Int) < (n : Int) := by omega
 go_enter Tryz.func229, Tryz.ntmps229
 go_wp2
 go_ret2
 exact ⟨rfl, rfl⟩
end
section
set_option maxRecDepth 100000
open Go Go.RowKit Go.Deep
theorem ent_app : ∃ i, Tryz.prog.info? 271 = some i ∧ i.zero = some (.agg #[.int .i64 0, .int .i64 0]) ∧ i.size = 2 ∧ i.bytes = 16 := by
 have h := infoE3
 cases hi : Tryz.prog.info? 271 with
 | none => rw [hi] at h; cases h
 | some i =>
  rw [hi] at h
  simp at h
  exact ⟨i, rfl, h.1, h.2.1, h.2.2⟩
theorem ent_info2 : (Tryz.prog.info? 271).map (fun i => (i.zero, i.size)) = some (some (.agg #[.int .i64 0, .int .i64 0]), 2) := by
 obtain ⟨i, hi, h1, h2, h3⟩ := ent_app
 rw [hi]
 simp [h1, h2]
theorem new_row (w : World) (e : Ent) (t : TypeId) : ∀ j u, (rowE e)[j]? = some u → (w.alloc (.cells (cellsE e) t)).cell? ((⟨w.heap.size, 0, none⟩ : Addr).add j) = some u := fun j u hu => by
 rw [add_plain, Nat.zero_add, (Blk.new w t (cellsE e)).cell j]
 simpa [cellsE] using hu
theorem put_ring {w w3 : World} {b B n j : Nat} {s s' : Value} {ss : List Value} {L : List Ent} {e : Ent} (h : RingP w b B n ss L) (hs : ss[j]? = some s) (hj : e.1 % (n : Int) = (j : Int)) (he : 0 ≤ e.1 ∧ e.1 ≤ 1099511627776)
  (hk : Kept (fun i => s.ownBlock = some i) w w3) (ho : w3.ownsRow 0 271 2 s' ((bk n L j).length + 1) (flat_08 (bk n L j) ++ rowE e)) (hn : s'.ownBlock = s.ownBlock ∨ ∃ q, s'.ownBlock = some q ∧ w.heap.size ≤ q) :
  RingP (w3.setCell ⟨B, j, none⟩ s') b B n (ss.set j s') (L ++ [e]) := by
 have hnot := h.not hs
 have hjl := (List.getElem?_eq_some_iff.1 hs).1
 have hBne : ∀ q, s'.ownBlock = some q → q ≠ B := fun q hq e => by
  rcases hn with hn | ⟨q', hn, hl⟩
  ·exact hnot.2 (by rw [← hn, hq, e])
  ·rw [hq] at hn
   injection hn with hn
   have := h.bks.lt
   omega
 have hBk : w3.heap[B]? = w.heap[B]? := hk.block B h.bks.lt hnot.2
 have e1 : bk n (L ++ [e]) j = bk n L j ++ [e] := by rw [bk_append, bk_one hj, if_pos rfl]
 refine h.upd hs ?_ ?_ (fun i t hij ht q hq => ?_) ?_ (fun i hi => by rw [bk_append, bk_one hj, if_neg hi, List.append_nil]) hn (fun x hx => ?_)
 ·rw [Below.heap_setCell _ _ _ _ h.ne]
  exact hk.block b h.own.lt hnot.1
 ·have := Blk.set_ (w := w3) (g := B) (t := 165) (cs := ss.toArray) (hBk.trans h.bks) j s'
  simpa using this
 ·rw [Below.heap_setCell _ _ _ _ (fun e => (h.not ht).2 (by rw [hq, e]))]
  exact hk.block q (h.lt (List.mem_of_getElem? ht) hq) (fun e => h.apart _ _ _ _ q hij ht hs hq e)
 ·rw [e1]
  refine owns_same_08 (w := w3) ?_ (fun q hq => Below.heap_setCell _ _ _ _ (hBne q hq))
  rw [List.length_append, List.length_singleton, flat_append_08, flat_one_08]
  exact ho
 ·rcases List.mem_append.1 hx with hx | hx
  ·exact h.ok x hx
  ·rw [List.mem_singleton.1 hx]; exact he
set_option maxHeartbeats 1600000 in
theorem put_yes (b B n j : Nat) (ss : List Value) (s : Value) (L : List Ent) (ep it : Int) (w : World) (h : RingP w b B n ss L) (hs : ss[j]? = some s) (h0 : 0 ≤ ep) (h1 : ep ≤ 1099511627776) (hj : ep % (n : Int) = (j : Int)) (hL : L.length ≤ 100000) :
  Calls Tryz.prog 185 #[.pointer (some ⟨b, 0, none⟩), .int .i64 ep, .int .i64 it] w fun e w' => e = .returned (.bool true) ∧ ∃ s', RingP w' b B n (ss.set j s') (L ++ [(ep, it)]) ∧ (s'.ownBlock = s.ownBlock ∨ ∃ q, s'.ownBlock = some q ∧ w.heap.size ≤ q) ∧ Kept (fun i => i = B ∨ s.ownBlock = some i) w w' := by
 have hjn : j < n := by have := (List.getElem?_eq_some_iff.1 hs).1; have := h.len; omega
 have hrow := h.row j s hs
 have hq := bk_len n L j
 obtain ⟨a, cp, rfl, hcp, hcp2⟩ := owns_slice_08 hrow
 obtain ⟨x0, x1⟩ := h.cells hs
 have hnot := h.not hs
 have HN := Lib.hid (number_any b n j n (some ⟨B, 0, none⟩) ep w x0 h.pos h.top h0 h1 hj)
 have HLT : Hid (∀ i, (Value.slice a (bk n L j).length cp).ownBlock = some i → i < w.heap.size) := Lib.hid (fun i hi => (hrow.lt i hi).2)
 have hbl := h.own.lt
 have hBl := h.bks.lt
 have HH := Lib.hid h
 have HS := Lib.hid hs
 have HJ := Lib.hid hj
 have HR := Lib.hid hrow
 have HE := Lib.hid (And.intro h0 h1)
 have HNOT := Lib.hid hnot
 have hj1 : ¬ (j : Int) < 0 := by omega
 have hj2 : ¬ (n : Int) ≤ (j : Int) := by omega
 have hj3 : (j : Int) < (n : Int) := by omega
 obtain ⟨q, hqe⟩ := named ((bk n L j).length)
 rw [hqe] at hq HLT HR HNOT hcp x1
 have HQ := Lib.hid hqe
 clear h hs hrow hnot hj hqe
 rw [HQ.out] at HS ⊢
 obtain ⟨n0, hn0⟩ := named (w.heap.size)
 go_enter Tryz.func185, Tryz.ntmps185
 go_wp2_with fail
 refine HN.out.mono ?_
 rintro e w' ⟨rfl, rfl⟩
 go_wp2_with fail
 refine wrF (fun _ => True) 18 18 [] trivial ?_
 refine wpQuiet_nil ?_
 refine headF_takes (fun w' => w'.cell? ⟨b, 0, none⟩ = some (.slice (some ⟨B, 0, none⟩) n n) ∧ w'.cell? ⟨B, j, none⟩ = some (.slice a q cp)) (m := 18) (f := 3) [0, 1, 2, 3, 4, 5, 6, 7, 8, 9, 10, 11, 12, 13, 14] (fun _ _ => trivial) (by kernel_rfl) ⟨x0, x1⟩ ?_
 simp only [List.filterMap_cons, List.filterMap_nil, List.getElem?_toArray, List.getElem?_cons_zero, List.getElem?_cons_succ]
 show wpQuiet _ _ _ _ [_, _, _, _, _, _, _, _, _, _, _, _, _, _, _] _
 iterate 3 (go_big_quiet_step ((intros; rfl)))
 refine qce 189 _ (.slice (some ⟨B, 0, none⟩) n n) (fun w h => h.1) ?_
 simp only [Act.put, List.setIfInBounds_toArray, List.set_cons_zero, List.set_cons_succ]
 iterate 4 (go_big_quiet_step ((intros; rfl)))
 refine qce 189 _ (.slice (some ⟨B, 0, none⟩) n n) (fun w h => h.1) ?_
 simp only [Act.put, List.setIfInBounds_toArray, List.set_cons_zero, List.set_cons_succ]
 iterate 2 (go_big_quiet_step ((intros; rfl)))
 refine qce 165 _ (.slice a q cp) (fun w h => h.2) ?_
 simp only [Act.put, List.setIfInBounds_toArray, List.set_cons_zero, List.set_cons_succ]
 iterate 3 (go_big_quiet_step ((intros; rfl)))
 refine wpQuiet_nil ?_
 refine hfO (i := 15) ?_
 refine wpOp_at rfl rfl (wp_buildSlice_pair 165 271 (.tmp 31) _ (.int .i64 ep) (.int .i64 it) rfl rfl Tryz.underlying165 ent_info2 ⟨⟨cell_alloc_some _ x0, cell_alloc_some _ x1⟩, ?_⟩)
 refine hfO (i := 16) ?_
 simp only [Act.put, List.getElem_toArray, List.getElem_cons_zero, List.getElem_cons_succ, List.setIfInBounds_toArray, List.set_cons_zero, List.set_cons_succ]
 obtain ⟨i, hi, hz, hs2, hby⟩ := ent_app
 refine wpOp_at rfl rfl (wp_append_src _ (.tmp 28) (.tmp 32) 165 rfl 0 271 i _ 2 16 Tryz.underlying165 hi hz hs2 hby rfl (by omega) (.slice a q cp) q (flat_08 (bk n L j)) rfl (World.ownsRow.alloc (w := w.drew) HR.out _)
  (some ⟨w.drew.heap.size, 0, none⟩) 1 1 (rowE (ep, it)) rfl rfl (fun _ => ⟨_, rfl, new_row w.drew (ep, it) _⟩) (row_one_08 _) (by unfold maxLen; omega) (by omega) (by omega) ?_)
 intro s' w3 ho3 hg3 hs3
 have HK3 : Hid (Kept (fun i => (Value.slice a q cp).ownBlock = some i) w w3) := Lib.hid (((Kept.refl _ w).drew.alloc _).trans (Kept.of_grown hg3 (S := fun i => (Value.slice a q cp).ownBlock = some i) (fun i hi => hi.symm)) (fun _ _ h => h))
 have HO3 : Hid (w3.ownsRow 0 271 2 s' (q + 1) (flat_08 (bk n L j) ++ rowE (ep, it))) := Lib.hid ho3
 have HS3 : Hid (s'.ownBlock = (Value.slice a q cp).ownBlock ∨ ∃ p, s'.ownBlock = some p ∧ w.heap.size ≤ p) := Lib.hid (hs3.imp id (fun h => ⟨_, h, by simp⟩))
 have y0 := HK3.out.cell (p := ⟨b, 0, none⟩) HNOT.out.1 x0
 have y1 := HK3.out.cell (p := ⟨B, j, none⟩) HNOT.out.2 x1
 obtain ⟨a', cp', rfl, -, -⟩ := owns_slice_08 ho3
 refine ⟨⟨y0, y1⟩, ?_⟩
 clear ho3 hg3 hs3 hi hz hs2 hby
 simp only [Act.put, List.getElem_toArray, List.getElem_cons_zero, List.getElem_cons_succ, List.setIfInBounds_toArray, List.set_cons_zero, List.set_cons_succ]
 refine hfT (fun w' => w'.cell? ⟨b, 0, none⟩ = some (.slice (some ⟨B, 0, none⟩) n n) ∧ w'.cell? ⟨B, j, none⟩ = some (.slice a q cp)) (m := 1) (f := 0) [17] ⟨y0, y1⟩ ?_
 simp only [List.filterMap_cons, List.filterMap_nil, List.getElem?_toArray, List.getElem?_cons_zero, List.getElem?_cons_succ]
 show wpQuiet _ _ _ _ [_] _
 iterate 1 (go_big_quiet_step ((intros; rfl)))
 refine wpQuiet_nil ?_
 show Region.seqB _ _ _ _ _ = true ∧ _
 refine ⟨by kernel_rfl, ?_⟩
 simp only [Act.put, List.getElem_toArray, List.getElem_cons_zero, List.getElem_cons_succ, List.setIfInBounds_toArray, List.set_cons_zero, List.set_cons_succ, List.drop_succ_cons, List.drop_zero]
 have z1 : w3.frozen? ⟨B, j, none⟩ = false := by
  rw [HK3.out.frozen (p := ⟨B, j, none⟩) HNOT.out.2 hBl]
  exact HH.out.bks.frozen j
 go_wp2
 refine NoPanic.normal ?_
 go_wp2
 go_ret
 refine ⟨rfl, .slice a' (q + 1) cp', ?_, HS3.out, ?_⟩
 ·have hhs := HS.out
  exact put_ring HH.out hhs HJ.out HE.out HK3.out (by rw [HQ.out]; exact HO3.out) HS3.out
 ·exact (HK3.out.more (fun _ _ h => .inr h)).setCell (.inl (.inl rfl)) _
theorem put_any_08 (b n : Nat) (S : Nat → Prop) (L : List Ent) (ep it : Int) (w : World) (h : Ring w b S n L) (h0 : 0 ≤ ep) (h1 : ep ≤ 1099511627776) (hL : L.length ≤ 100000) :
  Calls Tryz.prog 185 #[.pointer (some ⟨b, 0, none⟩), .int .i64 ep, .int .i64 it] w fun e w' => e = .returned (.bool true) ∧ ∃ S', Ring w' b S' n (L ++ [(ep, it)]) ∧ (∀ i, S' i → S i ∨ w.heap.size ≤ i) ∧ Kept S w w' := by
 obtain ⟨B, ss, hp, hS⟩ := h
 obtain ⟨j, hj⟩ : ∃ j : Nat, ep % (n : Int) = (j : Int) := ⟨(ep % (n : Int)).toNat, by have := Int.emod_nonneg ep (b := (n : Int)) (by have := hp.pos; omega); omega⟩
 have hjn : j < n := by have := Int.emod_lt_of_pos ep (b := (n : Int)) (by have := hp.pos; omega); omega
 obtain ⟨s, hs⟩ := hp.get hjn
 refine (put_yes b B n j ss s L ep it w hp hs h0 h1 hj hL).mono ?_
 rintro e w' ⟨he, s', h2, h3, h4⟩
 refine ⟨he, fun i => i = b ∨ i = B ∨ ∃ s : Value, s ∈ ss.set j s' ∧ s.ownBlock = some i, ⟨B, _, h2, fun _ => Iff.rfl⟩, ?_, h4.more (fun i _ hi => ?_)⟩
 ·rintro i (rfl | rfl | ⟨t, ht, hq⟩)
  ·exact .inl ((hS _).2 (.inl rfl))
  ·exact .inl ((hS _).2 (.inr (.inl rfl)))
  ·rcases List.mem_or_eq_of_mem_set ht with ht | rfl
   ·exact .inl ((hS i).2 (.inr (.inr ⟨t, ht, hq⟩)))
   ·rcases h3 with h3 | ⟨q, h3, hl⟩
    ·exact .inl ((hS i).2 (.inr (.inr ⟨s, List.mem_of_getElem? hs, by rw [← h3]; exact hq⟩)))
    ·rw [hq] at h3
     injection h3 with h3
     exact .inr (by omega)
 ·rcases hi with rfl | hi
  ·exact (hS _).2 (.inr (.inl rfl))
  ·exact (hS _).2 (.inr (.inr ⟨s, List.mem_of_getElem? hs, hi⟩))
end
section
set_option maxRecDepth 100000
open Go.RowKit
theorem balance_led {b : Nat} {D P B C : Int} {w : World} (h : LedAt w b D P B C) (hF : Fits_06 D P B C) :
  CallD 212 #[.pointer (some ⟨b, 0, none⟩)] w (.int .u64 (D - P - B)) :=
 balance_any b D P B w h.cells.1 h.cells.2.1 h.cells.2.2.1 hF.1 hF.2.1 hF.2.2.1 hF.2.2.2.1
theorem entry_info : (Tryz.prog.info? 260).map (fun i => (i.zero, i.size)) = some (some (.agg #[.int .i64 0, .int .u64 0]), 2) := by kernel_rfl
set_option maxHeartbeats 800000 in
theorem withdraw_yes (b s : Nat) (D P B C D' P' B' x y : Int) (w : World) (h : LedAt w b D P B C) (hF : Fits_06 D P B C) (hx : x ≤ D - P - B) (x0 : 0 ≤ x) (hs : s < 3)
  (hy : (#[.int .u64 D, .int .u64 P, .int .u64 B] : Array Value)[s]? = some (.int .u64 y)) (hup : (#[.int .u64 D, .int .u64 P, .int .u64 B] : Array Value).setIfInBounds s (.int .u64 (y + x)) = #[.int .u64 D', .int .u64 P', .int .u64 B'])
  (y0 : 0 ≤ y) (hsum : y + x ≤ 18446744073709551615) :
  Calls Tryz.prog 228 #[.pointer (some ⟨b, 0, none⟩), .agg #[.int .i64 s, .int .u64 x]] w fun e w' => e = .returned (.int .i64 0) ∧ LedAt w' b D' P' B' C ∧ w.grownBy w' (some b) := by
 have HK : Hid (∀ (g : Nat) (w : World), LedAt w b D P B C → Blk w g 260 #[.int .i64 s, .int .u64 x] → Calls Tryz.prog 213 #[.pointer (some ⟨b, 0, none⟩), .slice (some ⟨g, 0, none⟩) 1 1] w fun e w' => e = .returned (.bool true) ∧ LedAt w' b D' P' B' C ∧ w.grownBy w' (some b)) :=
  Lib.hid (fun g w hl hg => book_yes s b g D P B C D' P' B' x y w hl hg hs hy hup y0 x0 hsum)
 have HNE : Hid (some w.heap.size ≠ some b) := Lib.hid (by have := Blk.lt h; intro e; injection e with e; omega)
 have HF := Lib.hid hF
 have H1 : Hid (LedAt (w.alloc (.cells #[.int .i64 s, .int .u64 x] 260)) b D P B C) := Lib.hid (Blk.alloc h _)
 have HE : Hid (Blk (w.alloc (.cells #[.int .i64 s, .int .u64 x] 260)) w.heap.size 260 #[.int .i64 s, .int .u64 x]) := Lib.hid (Blk.new _ _ _)
 have HG : Hid (w.grownBy (w.alloc (.cells #[.int .i64 s, .int .u64 x] 260)) (some b)) := Lib.hid (only_alloc (only_refl _ _) _)
 clear h hF hy hup hsum
 go_enter Tryz.func228, Tryz.ntmps228
 go_wp2
 generalize w.alloc (.cells #[.int .i64 s, .int .u64 x] 260) = W at *
 refine wrF (fun w' => Blk w' w.heap.size 260 #[.int .i64 s, .int .u64 x]) 14 9 [0, 1, 2, 3, 4] (Blk.drew HE.out) ?_
 simp only [List.filterMap_cons, List.filterMap_nil, List.getElem?_toArray, List.getElem?_cons_zero, List.getElem?_cons_succ]
 show wpQuiet _ _ _ _ [_, _, _, _, _] _
 iterate 1 (go_big_quiet_step ((intros; rfl)))
 refine qce 23 _ (.int .u64 x) (fun w h => Blk.cell h 1) ?_
 simp only [Act.put, List.setIfInBounds_toArray, List.set_cons_zero, List.set_cons_succ]
 iterate 3 (go_big_quiet_step ((intros; rfl)))
 refine wpQuiet_nil ?_
 refine hfO (i := 5) ?_
 refine wcA #[.pointer (some ⟨b, 0, none⟩)] Tryz.call212 ((balance_led (Blk.drew H1.out) HF.out).mono ?_)
 rintro e w1 ⟨rfl, m, rfl⟩
 refine ⟨_, rfl, Blk.drewN (Blk.drew HE.out) m, ?_⟩
 have HX : Hid (decide (D - P - B < x) = false) := Lib.hid (by simpa using hx)
 simp only [Act.put, List.getElem_toArray, List.getElem_cons_zero, List.getElem_cons_succ, List.setIfInBounds_toArray, List.set_cons_zero, List.set_cons_succ]
 refine hfT (fun w' => Blk w' w.heap.size 260 #[.int .i64 s, .int .u64 x]) (m := 8) (f := 2) [6, 7, 8, 9, 10, 11] (Blk.drewN (Blk.drew HE.out) m) ?_
 simp only [List.filterMap_cons, List.filterMap_nil, List.getElem?_toArray, List.getElem?_cons_zero, List.getElem?_cons_succ]
 show wpQuiet _ _ _ _ [_, _, _, _, _, _] _
 iterate 1 (go_big_quiet_step ((intros; rfl)))
 rw [HX.out]
 iterate 4 (go_big_quiet_step ((intros; rfl)))
 refine q_load 260 (.tmp 3) w.heap.size 260 _ _ (by kernel_rfl) rfl rfl (fun _ h => h) Tryz.underlying260 rfl infoE ?_
 simp only [Act.put, List.setIfInBounds_toArray, List.set_cons_zero, List.set_cons_succ]
 refine wpQuiet_nil ?_
 refine hfO (i := 12) ?_
 refine wpOp_atG rfl (by kernel_rfl) (wp_buildSlice_pair 298 260 (.tmp 18) _ (.int .i64 s) (.int .u64 x) rfl rfl Tryz.underlying298 entry_info ⟨Blk.alloc (Blk.drewN (Blk.drew HE.out) m) _, ?_⟩)
 simp only [Act.put, List.getElem_toArray, List.getElem_cons_zero, List.getElem_cons_succ, List.setIfInBounds_toArray, List.set_cons_zero, List.set_cons_succ]
 refine hfO (i := 13) ?_
 refine wpOp_atG rfl (by kernel_rfl) (wp_call_at rfl #[.pointer (some ⟨b, 0, none⟩), .slice (some ⟨(W.drew.drewN m).heap.size, 0, none⟩) 1 1] (by kernel_rfl) Tryz.call213 ((HK.out (W.drew.drewN m).heap.size _ (Blk.alloc (Blk.drewN (Blk.drew H1.out) m) _) (Blk.new (W.drew.drewN m) _ _)).mono ?_))
 rintro e w2 ⟨rfl, hl2, hg2⟩
 have hE2 := (Blk.alloc (Blk.drewN (Blk.drew HE.out) m) (.cells #[.int .i64 s, .int .u64 x] 260)).grown hg2 HNE.out
 have HZ := Lib.hid (And.intro hl2 (only_trans (only_alloc (only_drewN (only_drew HG.out) m) _) hg2))
 refine ⟨_, rfl, hE2, ?_⟩
 clear hl2 hg2 hE2
 show Region.seqB _ _ _ _ _ = true ∧ _
 refine ⟨by kernel_rfl, ?_⟩
 simp only [Act.put, List.getElem_toArray, List.getElem_cons_zero, List.getElem_cons_succ, List.setIfInBounds_toArray, List.set_cons_zero, List.set_cons_succ, List.drop_succ_cons, List.drop_zero]
 go_wp2
 refine NoPanic.normal ?_
 go_wp2
 go_ret
 exact ⟨rfl, HZ.out⟩
end
section
set_option maxRecDepth 100000
open Go.RowKit
section
variable (b : Nat) (D P B C x : Int) (w : World) (h : LedAt w b D P B C) (hF : Fits_06 D P B C)
include h hF
theorem pay_yes (x0 : 0 ≤ x) (hx : x ≤ D - P - B) : Calls Tryz.prog 247 #[.pointer (some ⟨b, 0, none⟩), .int .u64 x] w fun e w' => e = .returned (.int .i64 0) ∧ LedAt w' b D (P + x) B C ∧ w.grownBy w' (some b) := by
 have H := Lib.hid (withdraw_yes b 1 D P B C D (P + x) B x P w h hF hx x0 (by omega) rfl rfl hF.1 (by unfold Fits_06 at hF; omega))
 clear h hF hx
 go_enter Tryz.func247, Tryz.ntmps247
 go_wp2_with fail
 refine H.out.mono ?_
 rintro e w1 ⟨rfl, hb⟩
 have HB := Lib.hid hb
 clear hb
 go_wp2_with fail
 go_ret
 exact ⟨rfl, HB.out⟩
end
end
section
open Go Go.RowKit
section
variable {α : Type} {row : α → List Value} {k : Nat} {w w' : World} {a : Option Addr} {l : List α} {S T : Nat → Prop}
theorem LstR.drop {b off : Nat} (h : LstR row k w S (some ⟨b, off, none⟩) l) (n : Nat) : LstR row k w S (some ⟨b, off + n * k, none⟩) (l.drop n) := fun h0 => by
 obtain ⟨b', off', h1, h2, h3, h4⟩ := h (by rw [List.length_drop] at h0; omega)
 obtain ⟨rfl, rfl⟩ : b = b' ∧ off = off' := by
  have := Option.some.inj h1
  injection this with e1 e2
  exact ⟨e1, e2⟩
 refine ⟨b, off + n * k, rfl, h2, h3, fun i v hi => ?_⟩
 rw [List.getElem?_drop] at hi
 have := h4 (n + i) v hi
 rwa [show off + (n + i) * k = off + n * k + i * k by rw [Nat.add_mul]; omega] at this
end
end
section
open Go Go.RowKit Go.Deep
set_option maxRecDepth 100000
theorem q_nev {C : World → Prop} {Qa : Act → Prop} {ops : Array Oper} {rest : List Oper} {a : Act} {dst : Option Tmp} {yt ty : TypeId} {x y : Operand} {pos : String} {after : Array Edge} {guard : Option (Nat × Bool)} (p q : Val) (r : Bool) (hw : Region.wanted { dst, op := .binOp .neq 68 x y yt, type := ty, pos, after, guard } (yielded ops a.tmps) = true) (hx : a.eval x = .agg (cellsV p)) (hy : a.eval y = .agg (cellsV q)) (hr : (!decide (p = q)) = r)
  (h : wpQuiet Tryz.prog ops C Qa rest (a.put dst (.bool r))) : wpQuiet Tryz.prog ops C Qa ({ dst, op := .binOp .neq 68 x y yt, type := ty, pos, after, guard } :: rest) a :=
 q_val (.bool r) hw (fun w => exec_nev hx hy hr) h
end
end Go.Proofs.YtobgbcdgffgdhaaGreat
