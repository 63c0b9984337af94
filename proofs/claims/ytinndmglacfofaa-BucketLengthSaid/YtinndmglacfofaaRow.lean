/- A slice of entries that is the program's own row, its cells known; an entry stored over another one; two entries change places (memory alone). Two loads of a drawn region in whichever order. -/
import Derived.Test.YtinndmglacfofaaSortM
import Derived.Test.YtinndmglacfofaaFirst
import Derived.Test.YtinndmglacfofaaAppend
import Derived.Test.YtinndmglacfofaaBuild
namespace Go.Proofs.Ytinndmglacfofaa
open Go Go.RowKit Go.Deep
set_option linter.unusedVariables false
set_option linter.unusedSimpArgs false

section
variable {w w' a : World} {g t : Nat} {S : Nat → Prop}
theorem blk_setCells : ∀ (vs X Y Z : List Value) (w : World), Y.length = vs.length → Blk w g t (X ++ Y ++ Z).toArray → Blk (w.setCells g X.length vs) g t (X ++ vs ++ Z).toArray
  | [], X, Y, Z, w, hl, h => by
    obtain rfl := List.eq_nil_of_length_eq_zero hl
    exact h
  | v :: vs, X, [], Z, w, hl, h => by simp at hl
  | v :: vs, X, y :: Y, Z, w, hl, h => by
    have h1 := h.set_ X.length v
    have e : ((X ++ (y :: Y) ++ Z).toArray).setIfInBounds X.length v = ((X ++ [v]) ++ Y ++ Z).toArray := by
      simp [List.set_append]
    rw [e] at h1
    have := blk_setCells vs (X ++ [v]) Y Z _ (by simpa using hl) h1
    simpa [World.setCells] using this
theorem Kept.setCells (vs : List Value) : ∀ (o : Nat) (w : World), Kept S a w → S g ∨ a.heap.size ≤ g → Kept S a (w.setCells g o vs) := by
  induction vs with
  | nil => exact fun o w h _ => h
  | cons v vs ih => exact fun o w h hg => ih (o + 1) _ (h.setCell hg v) hg

/-- Block g is a row of cap entries, of which the first n are l. -/
def Row (w : World) (g cap n : Nat) (l : List Ent) : Prop :=
  l.length = n ∧ n ≤ cap ∧ cap ≤ maxLen ∧ ∃ rest : List Value, rest.length = (cap - n) * 2 ∧ Blk w g 46 (flat l ++ rest).toArray
theorem row_of_owns {base cap n : Nat} {l : List Ent} (h : w.ownsRow base 46 2 (.slice (some ⟨g, 0, none⟩) n cap) n (flat l)) : Row w g cap n l := by
  have hl := h.1
  rw [flat_len] at hl
  rcases h.2 with ⟨h1, _⟩ | ⟨g', cp', cur, h1, h2, h3, h4, h5, h6, h7⟩
  · cases h1
  · injection h1 with h1 _ hcp
    injection h1 with h1
    injection h1 with h1
    subst h1 hcp
    have e : cur = (flat l ++ cur.toList.drop (n * 2)).toArray := by rw [← h7, List.take_append_drop]
    refine ⟨by omega, h4, h5, cur.toList.drop (n * 2), ?_, by rw [← e]; exact h3⟩
    rw [List.length_drop, Array.length_toList, h6, Nat.sub_mul]
theorem Row.owns {base cap n : Nat} {l : List Ent} (h : Row w g cap n l) (hb : base ≤ g) : w.ownsRow base 46 2 (.slice (some ⟨g, 0, none⟩) n cap) n (flat l) := by
  obtain ⟨h1, h2, h3, rest, h4, h5⟩ := h
  refine ⟨by rw [flat_len, h1], .inr ⟨g, cap, _, rfl, hb, h5, h2, h3, ?_, ?_⟩⟩
  · simp only [List.size_toArray, List.length_append, flat_len, h4, h1]
    have : n * 2 ≤ cap * 2 := Nat.mul_le_mul_right 2 h2
    rw [Nat.sub_mul]; omega
  · rw [List.toList_toArray, List.take_left' (by rw [flat_len, h1])]
section
variable {cap n i j : Nat} {l : List Ent} {x y v old : Ent} {X Y L R Q : List Ent}
theorem Row.lt (h : Row w g cap n l) : g < w.heap.size := by
  obtain ⟨_, _, _, rest, _, h5⟩ := h
  exact h5.lt
theorem Row.same (h : Row w g cap n l) (hb : w'.heap[g]? = w.heap[g]?) : Row w' g cap n l := by
  obtain ⟨h1, h2, h3, rest, h4, h5⟩ := h
  exact ⟨h1, h2, h3, rest, h4, hb.trans h5⟩
theorem Row.drew (h : Row w g cap n l) : Row w.drew g cap n l := h
theorem Row.drewN (h : Row w g cap n l) (m : Nat) : Row (w.drewN m) g cap n l := h
theorem Row.below (h : Row w g cap n l) (hb : Below w.heap.size w w') : Row w' g cap n l := h.same (hb.block g h.lt)
theorem Row.at (h : Row w g cap n l) (hi : l[i]? = some x) : w.rangeAt g (i * 2) (rowE x) := by
  obtain ⟨h1, h2, h3, rest, h4, h5⟩ := h
  have := range_of_flat (w := w) (b := g) (off := 0) (l := l) (fun k u hu => by
    rw [h5.cell, Nat.zero_add, List.getElem?_toArray, List.getElem?_append_left (List.getElem?_eq_some_iff.1 hu).1]
    exact hu) hi
  rwa [Nat.zero_add] at this
theorem Row.set (h : Row w g cap n (X ++ old :: Y)) (hi : X.length = i) (v : Ent) : Row (w.setCells g (i * 2) (rowE v)) g cap n (X ++ v :: Y) ∧ w.there g (i * 2) 2 := by
  obtain ⟨h1, h2, h3, rest, h4, h5⟩ := h
  have e1 : flat (X ++ old :: Y) ++ rest = flat X ++ rowE old ++ (flat Y ++ rest) := by simp [flat]
  have e2 : flat (X ++ v :: Y) ++ rest = flat X ++ rowE v ++ (flat Y ++ rest) := by simp [flat]
  rw [e1] at h5
  have hX : (flat X).length = i * 2 := by rw [flat_len, hi]
  have hb2 := blk_setCells (rowE v) (flat X) (rowE old) (flat Y ++ rest) w rfl h5
  rw [hX] at hb2
  refine ⟨⟨by simpa using h1, h2, h3, rest, h4, by rw [e2]; exact hb2⟩, fun j hj => ⟨?_, h5.frozen _⟩⟩
  rw [h5.cell, Array.getElem?_eq_getElem (by simp [flat_len, hi, row_len]; omega)]
  rfl
/-- Two entries change places. -/
theorem Row.swap (h : Row w g cap n (L ++ x :: (R ++ y :: Q))) (hi : L.length = i) (hj : i + 1 + R.length = j) :
    w.there g (i * 2) 2 ∧ (w.setCells g (i * 2) (rowE y)).there g (j * 2) 2 ∧ Row ((w.setCells g (i * 2) (rowE y)).setCells g (j * 2) (rowE x)) g cap n (L ++ y :: (R ++ x :: Q)) := by
  obtain ⟨h1, t1⟩ := h.set hi y
  have e : L ++ y :: (R ++ y :: Q) = (L ++ y :: R) ++ y :: Q := by simp
  rw [e] at h1
  obtain ⟨h2, t2⟩ := h1.set (i := j) (by simp; omega) x
  exact ⟨t1, t2, by simpa using h2⟩
/-- The same, the later one stored first. -/
theorem Row.swap' (h : Row w g cap n (L ++ x :: (R ++ y :: Q))) (hi : L.length = i) (hj : i + 1 + R.length = j) :
    w.there g (j * 2) 2 ∧ (w.setCells g (j * 2) (rowE x)).there g (i * 2) 2 ∧ Row ((w.setCells g (j * 2) (rowE x)).setCells g (i * 2) (rowE y)) g cap n (L ++ y :: (R ++ x :: Q)) := by
  have e : L ++ x :: (R ++ y :: Q) = (L ++ x :: R) ++ y :: Q := by simp
  rw [e] at h
  obtain ⟨h1, t1⟩ := h.set (i := j) (by simp; omega) x
  have e : (L ++ x :: R) ++ x :: Q = L ++ x :: (R ++ x :: Q) := by simp
  rw [e] at h1
  obtain ⟨h2, t2⟩ := h1.set hi y
  exact ⟨t1, t2, h2⟩
end
end

section
variable {P : Program} {ops : Array Oper} {Q : Exit → Act → World → Prop} {md : Region.Mode} {S : World → Prop}
/-- Two operations that only read come up in whichever order. -/
theorem headF_pair {n f i k : Nat} {oi ok : Oper} {vi vk : Value} {L : Array Bool → Act → World → Prop} {listed : Array Bool} {a : Act} {w : World} (hr : Region.ready md ops listed = [i, k]) (hr1 : Region.ready md ops (listed.setIfInBounds i true) = [k]) (hr2 : Region.ready md ops (listed.setIfInBounds k true) = [i])
    (hi : i < n) (hk : k < n) (hik : i ≠ k) (hoi : ops[i]? = some oi) (hok : ops[k]? = some ok) (gi : oi.guard = none) (gk : ok.guard = none)
    (yi : (execOp a.eval oi).run P w = .ok (.value vi) w) (yk : (execOp a.eval ok).run P w = .ok (.value vk) w)
    (yi' : (execOp (a.put ok.dst vk).eval oi).run P w = .ok (.value vi) w) (yk' : (execOp (a.put oi.dst vi).eval ok).run P w = .ok (.value vk) w)
    (hput : (a.put ok.dst vk).put oi.dst vi = (a.put oi.dst vi).put ok.dst vk) (hS : S w)
    (h : wpHeadF P md ops Q S n L f ((listed.setIfInBounds i true).setIfInBounds k true) ((a.put oi.dst vi).put ok.dst vk) w) : wpHeadF P md ops Q S n L (f + 1 + 1) listed a w := by
  have one : ∀ {j : Nat} {o : Oper} {v : Value} {a : Act} {K : Act → World → Prop}, ops[j]? = some o → o.guard = none → (execOp a.eval o).run P w = .ok (.value v) w → K (a.put o.dst v) w → wpOp P ops Q j K a w := fun ho hg hy hK =>
    wpOp_at ho hg (by unfold Oper.wp; rw [hy]; exact hK)
  refine headF_two hr hi hk ?_ ?_
  · exact one hoi gi yi ⟨hS, headF_one hr1 hk (one hok gk yk' ⟨hS, h⟩)⟩
  · refine one hok gk yk ⟨hS, headF_one hr2 hi (one hoi gi yi' ⟨hS, ?_⟩)⟩
    rw [hput, Array.setIfInBounds_comm _ _ (Ne.symm hik)]
    exact h
end
theorem exec_load_ent {w : World} {a : Act} {dst : Option Tmp} {ty : TypeId} {x : Operand} {pos : String} {after : Array Edge} {guard : Option (Nat × Bool)} {b o : Nat} (v : Ent) (hx : a.eval x = .pointer (some ⟨b, o, none⟩)) (hc : w.rangeAt b o (rowE v)) :
    (execOp a.eval { dst, op := .load 46 x, type := ty, pos, after, guard }).run Try.prog w = .ok (.value (.agg (cellsE v))) w := by
  simp only [execOp, hx, Instr.loadAt, Instr.sureAddr, Sem.run_bind, Sem.run_pure, Result.andThen_ok, run_loadVar_mid w b o 46 (rowE v) _ hc Try.underlying46 rfl infoE]
  rfl
end Go.Proofs.Ytinndmglacfofaa
