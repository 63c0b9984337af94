/- Two arrays of two lists each, beside lanes: what was pushed, what was popped. -/
import Derived.Test.YtlmjhggnecmggaaLive
namespace Go.Proofs.Ytlmjhggnecmggaa
open Go Go.RowKit
set_option linter.unusedVariables false
set_option linter.unusedSimpArgs false

def upd {α : Type} (f : Nat → α) (m : Nat) (v : α) (j : Nat) : α := if j = m then v else f j
theorem upd_at {α : Type} (f : Nat → α) (m : Nat) (v : α) : upd f m v m = v := by simp [upd]
theorem upd_ne {α : Type} (f : Nat → α) {m j : Nat} (v : α) (h : j ≠ m) : upd f m v j = f j := by simp [upd, h]
theorem owns_any {w : World} {base n : Nat} {v : Value} {xs : List Value} (h : w.ownsRow base 3 1 v n xs) : ∃ a cp, v = .slice a n cp := by
  rcases h.2 with ⟨rfl, rfl⟩ | ⟨g, cp, cur, rfl, _⟩
  · exact ⟨none, 0, rfl⟩
  · exact ⟨_, cp, rfl⟩
/-- The arrays in bp and bq hold four rows of the law's own; none of it is the lanes' or another's. -/
def Held (w : World) (S : Nat → Prop) (L bp bq : Nat) (val : Nat → Value) (lst : Nat → List Int) : Prop :=
  Blk w bp 41 #[val 0, val 1] ∧ Blk w bq 41 #[val 2, val 3] ∧ L ≤ bp ∧ bp < bq ∧ ¬ S bp ∧ ¬ S bq ∧
  (∀ j, w.ownsRow (bq + 1) 3 1 (val j) (lst j).length ((lst j).map (Value.int .i64))) ∧ (∀ j i, (val j).ownBlock = some i → ¬ S i) ∧
  (∀ j k i, j ≠ k → (val j).ownBlock = some i → (val k).ownBlock ≠ some i)
def arrOf (bp bq m : Nat) : Addr := if m < 2 then ⟨bp, m, none⟩ else ⟨bq, m - 2, none⟩
section
variable {w w' w2 : World} {S S' T : Nat → Prop} {L bp bq m : Nat} {val : Nat → Value} {lst : Nat → List Int} {v : Value} {x : Int}
theorem Held.kept (h : Held w S L bp bq val lst) (k : Kept T w w') (h1 : ¬ T bp) (h2 : ¬ T bq) (h3 : ∀ j i, (val j).ownBlock = some i → ¬ T i) : Held w' S L bp bq val lst := by
  obtain ⟨a, b, c, d, e, f, g, i⟩ := h
  exact ⟨a.kept k h1, b.kept k h2, c, d, e, f, fun j => owns_kept (g j) k (h3 j), i⟩
theorem Held.below (h : Held w S L bp bq val lst) (k : Below w.heap.size w w') : Held w' S L bp bq val lst := h.kept (Kept.of_below (S := fun _ => False) k) id id (fun _ _ _ => id)
theorem Held.alloc (h : Held w S L bp bq val lst) (o : Obj) : Held (w.alloc o) S L bp bq val lst := h.below ((Below.refl _ _).alloc (Nat.le_refl _) o)
theorem Held.goes (h : Held w S L bp bq val lst) (g : Goes S S' w w') : Held w' S' L bp bq val lst := by
  have ha := h.1.lt
  have hb := h.2.1.lt
  have hr := h.2.2.2.2.2.2.1
  obtain ⟨a, b, c, d, e, f, r, s, t⟩ := h.kept g.1 h.2.2.2.2.1 h.2.2.2.2.2.1 h.2.2.2.2.2.2.2.1
  have new : ∀ i, i < w.heap.size → ¬ S i → ¬ S' i := fun i hi hn hs => (g.2 i hs).elim hn (fun h => by omega)
  exact ⟨a, b, c, d, new _ ha e, new _ hb f, r, fun j i hi => new _ ((hr j).lt i hi).2 (s j i hi), t⟩
theorem Held.cells (h : Held w S L bp bq val lst) : w.cell? ⟨bp, 0, none⟩ = some (val 0) ∧ w.cell? ⟨bp, 1, none⟩ = some (val 1) ∧ w.cell? ⟨bq, 0, none⟩ = some (val 2) ∧ w.cell? ⟨bq, 1, none⟩ = some (val 3) ∧
    w.frozen? ⟨bp, 0, none⟩ = false ∧ w.frozen? ⟨bp, 1, none⟩ = false ∧ w.frozen? ⟨bq, 0, none⟩ = false ∧ w.frozen? ⟨bq, 1, none⟩ = false :=
  ⟨h.1.cell 0, h.1.cell 1, h.2.1.cell 0, h.2.1.cell 1, h.1.frozen 0, h.1.frozen 1, h.2.1.frozen 0, h.2.1.frozen 1⟩
/-- One row has got an element more; its array's cell holds it. -/
theorem Held.app (h : Held w S L bp bq val lst) (hm : m < 4) (hS : ∀ i, S i → i < w.heap.size) (ho : w2.ownsRow (bq + 1) 3 1 v ((lst m).length + 1) ((lst m).map (Value.int .i64) ++ [.int .i64 x])) (hg : (w.alloc (.cells #[.int .i64 x] 3)).grownBy w2 (val m).ownBlock)
    (ha : v.ownBlock = (val m).ownBlock ∨ v.ownBlock = some (w.alloc (.cells #[.int .i64 x] 3)).heap.size) :
    Held (w2.setCell (arrOf bp bq m) v) S L bp bq (upd val m v) (upd lst m (lst m ++ [x])) ∧ Kept (fun i => some i = (val m).ownBlock ∨ i = bp ∨ i = bq) w (w2.setCell (arrOf bp bq m) v) := by
  obtain ⟨h1, h2, h3, h4, h5, h6, h7, h8, h9⟩ := h
  have hz : (w.alloc (.cells #[.int .i64 x] 3)).heap.size = w.heap.size + 1 := by simp
  rw [hz] at ha
  have k2 : Kept (fun i => some i = (val m).ownBlock) w w2 := ((Kept.refl _ w).alloc _).trans (Kept.of_grown (S := fun i => some i = (val m).ownBlock) hg (fun i hi => hi)) (fun _ _ h => h)
  have hbl : ∀ j i, (val j).ownBlock = some i → bq + 1 ≤ i ∧ i < w.heap.size := fun j i hi => (h7 j).lt i hi
  have hbq := h2.lt
  have B1 := h1.kept k2 (fun e => by have := (hbl m _ (Eq.symm e)).1; omega)
  have B2 := h2.kept k2 (fun e => by have := (hbl m _ (Eq.symm e)).1; omega)
  have rows : ∀ j, w2.ownsRow (bq + 1) 3 1 (upd val m v j) (upd lst m (lst m ++ [x]) j).length ((upd lst m (lst m ++ [x]) j).map (Value.int .i64)) := fun j => by
    by_cases e : j = m
    · subst e
      rw [upd_at, upd_at]
      simpa using ho
    · rw [upd_ne _ _ e, upd_ne _ _ e]
      exact owns_kept (h7 j) k2 (fun g hg e' => h9 j m g e hg (Eq.symm e'))
  have noS : ∀ j i, (upd val m v j).ownBlock = some i → ¬ S i := fun j i hi => by
    by_cases e : j = m
    · subst e
      rw [upd_at] at hi
      rcases ha with ha | ha
      · rw [ha] at hi; exact h8 j i hi
      · rw [ha] at hi
        injection hi with hi
        exact fun hs => by have := hS i hs; omega
    · rw [upd_ne _ _ e] at hi
      exact h8 j i hi
  have apart : ∀ j k i, j ≠ k → (upd val m v j).ownBlock = some i → (upd val m v k).ownBlock ≠ some i := fun j k i hjk hi hk => by
    by_cases e : j = m
    · subst e
      rw [upd_at] at hi
      rw [upd_ne _ _ (Ne.symm hjk)] at hk
      rcases ha with ha | ha
      · rw [ha] at hi; exact h9 j k i hjk hi hk
      · rw [ha] at hi
        injection hi with hi
        have := (hbl k i hk).2
        omega
    · rw [upd_ne _ _ e] at hi
      by_cases e2 : k = m
      · subst e2
        rw [upd_at] at hk
        rcases ha with ha | ha
        · rw [ha] at hk; exact h9 j k i hjk hi hk
        · rw [ha] at hk
          injection hk with hk
          have := (hbl j i hi).2
          omega
      · rw [upd_ne _ _ e2] at hk
        exact h9 j k i hjk hi hk
  have keep : ∀ b o, b = bp ∨ b = bq → Kept (fun i => some i = (val m).ownBlock ∨ i = bp ∨ i = bq) w (w2.setCell ⟨b, o, none⟩ v) := fun b o hb =>
    (k2.more (T := fun i => some i = (val m).ownBlock ∨ i = bp ∨ i = bq) (fun i _ e => .inl e)).trans (kept_set w2 b o v) (fun i _ e => by
      have e : i = b := e
      subst e
      exact .inr hb)
  have rows2 : ∀ b o, b ≤ bq → ∀ j, (w2.setCell ⟨b, o, none⟩ v).ownsRow (bq + 1) 3 1 (upd val m v j) (upd lst m (lst m ++ [x]) j).length ((upd lst m (lst m ++ [x]) j).map (Value.int .i64)) := fun b o hb j =>
    owns_kept (rows j) (kept_set w2 b o v) (fun g hg e => by have := ((rows j).lt g hg).1; have : g = b := e; omega)
  have hc : m = 0 ∨ m = 1 ∨ m = 2 ∨ m = 3 := by omega
  rcases hc with rfl | rfl | rfl | rfl
  · exact ⟨⟨B1.set_ 0 v, B2.far (by show bq ≠ bp; omega) v, h3, h4, h5, h6, rows2 _ _ (by omega), noS, apart⟩, keep _ _ (.inl rfl)⟩
  · exact ⟨⟨B1.set_ 1 v, B2.far (by show bq ≠ bp; omega) v, h3, h4, h5, h6, rows2 _ _ (by omega), noS, apart⟩, keep _ _ (.inl rfl)⟩
  · exact ⟨⟨B1.far (by show bp ≠ bq; omega) v, B2.set_ 0 v, h3, h4, h5, h6, rows2 _ _ (Nat.le_refl _), noS, apart⟩, keep _ _ (.inr rfl)⟩
  · exact ⟨⟨B1.far (by show bp ≠ bq; omega) v, B2.set_ 1 v, h3, h4, h5, h6, rows2 _ _ (Nat.le_refl _), noS, apart⟩, keep _ _ (.inr rfl)⟩
end

/-- Lanes and the arrays, all made since w0. -/
def Pos (w0 w : World) (b bp bq n : Nat) (F V : List Int) (val : Nat → Value) (lst : Nat → List Int) : Prop := ∃ S, Own w0 w b S n F V ∧ Held w S w0.heap.size bp bq val lst
section
variable {w0 w w' w2 : World} {b bp bq n m : Nat} {F V : List Int} {val : Nat → Value} {lst : Nat → List Int} {v : Value} {x : Int}
theorem Pos.below (h : Pos w0 w b bp bq n F V val lst) (k : Below w.heap.size w w') : Pos w0 w' b bp bq n F V val lst := by
  obtain ⟨S, h1, h2⟩ := h
  exact ⟨S, h1.below k, h2.below k⟩
theorem Pos.alloc (h : Pos w0 w b bp bq n F V val lst) (o : Obj) : Pos w0 (w.alloc o) b bp bq n F V val lst := h.below ((Below.refl _ _).alloc (Nat.le_refl _) o)
theorem Pos.drewN (h : Pos w0 w b bp bq n F V val lst) (m : Nat) : Pos w0 (w.drewN m) b bp bq n F V val lst := by
  obtain ⟨S, h1, h2⟩ := h
  exact ⟨S, h1.drewN m, h2⟩
theorem Pos.bel (h : Pos w0 w b bp bq n F V val lst) : Below w0.heap.size w0 w := by
  obtain ⟨S, h1, h2⟩ := h
  exact h1.2.2
theorem Pos.cells (h : Pos w0 w b bp bq n F V val lst) : w.cell? ⟨bp, 0, none⟩ = some (val 0) ∧ w.cell? ⟨bp, 1, none⟩ = some (val 1) ∧ w.cell? ⟨bq, 0, none⟩ = some (val 2) ∧ w.cell? ⟨bq, 1, none⟩ = some (val 3) ∧
    w.frozen? ⟨bp, 0, none⟩ = false ∧ w.frozen? ⟨bp, 1, none⟩ = false ∧ w.frozen? ⟨bq, 0, none⟩ = false ∧ w.frozen? ⟨bq, 1, none⟩ = false := by
  obtain ⟨S, h1, h2⟩ := h
  exact h2.cells
theorem Pos.row (h : Pos w0 w b bp bq n F V val lst) (j : Nat) : w.ownsRow (bq + 1) 3 1 (val j) (lst j).length ((lst j).map (Value.int .i64)) := by
  obtain ⟨S, h1, h2⟩ := h
  exact h2.2.2.2.2.2.2.1 j
theorem Pos.lt (h : Pos w0 w b bp bq n F V val lst) : bq + 1 ≤ w.heap.size := by
  obtain ⟨S, h1, h2⟩ := h
  exact h2.2.1.lt
theorem Pos.push (h : Pos w0 w b bp bq n F V val lst) (o : Obj) (c x : Int) : Calls Try.prog 13 #[.pointer (some ⟨b, 0, none⟩), .int .i64 c, .int .i64 x] (w.alloc o) fun e w' => e = .returned (.int .i64 (errP n F V c)) ∧ Hid (Pos w0 w' b bp bq n (pushF n F c x) (pushV n V c x) val lst) ∧ Hid (∀ t cs, Blk (w.alloc o) w.heap.size t cs → Blk w' w.heap.size t cs) := by
  obtain ⟨S, h1, h2⟩ := h
  refine ((h1.alloc o).push c x).mono ?_
  rintro e w' ⟨he, S', o', g⟩
  exact ⟨he, Lib.hid ⟨S', o'.out, (h2.alloc o).goes g.out⟩, Lib.hid (fun t cs hb => Blk.kept (w := w.alloc o) hb g.out.1 (fun hs => Nat.lt_irrefl _ (h1.1.lt _ hs)))⟩
/-- Behind the append the array's cell is there still, to be stored to. -/
theorem Pos.ready (h : Pos w0 w b bp bq n F V val lst) (hm : m < 4) (o : Obj) (hg : (w.alloc o).grownBy w2 (val m).ownBlock) : w2.cell? (arrOf bp bq m) = some (val m) ∧ w2.frozen? (arrOf bp bq m) = false := by
  obtain ⟨S, h1, h2⟩ := h
  have hr := (h2.2.2.2.2.2.2.1 m).lt
  have hlt := h2.2.2.2.1
  have k : Kept (fun i => some i = (val m).ownBlock) w w2 := ((Kept.refl _ w).alloc o).trans (Kept.of_grown (S := fun i => some i = (val m).ownBlock) hg (fun i hi => hi)) (fun _ _ h => h)
  have B1 := h2.1.kept k (fun e => by have := (hr _ (Eq.symm e)).1; omega)
  have B2 := h2.2.1.kept k (fun e => by have := (hr _ (Eq.symm e)).1; omega)
  have hc : m = 0 ∨ m = 1 ∨ m = 2 ∨ m = 3 := by omega
  rcases hc with rfl | rfl | rfl | rfl
  · exact ⟨B1.cell 0, B1.frozen 0⟩
  · exact ⟨B1.cell 1, B1.frozen 1⟩
  · exact ⟨B2.cell 0, B2.frozen 0⟩
  · exact ⟨B2.cell 1, B2.frozen 1⟩
theorem Pos.box (h : Pos w0 w b bp bq n F V val lst) {g : Nat} {t : TypeId} {cs : Array Value} (hb : Blk w g t cs) (hn : (val m).ownBlock ≠ some g) (o : Obj) (hg : (w.alloc o).grownBy w2 (val m).ownBlock) : Blk w2 g t cs :=
  Blk.grown (w := w.alloc o) (hb.alloc o) hg (fun e => hn e.symm)
theorem Pos.bound (h : Pos w0 w b bp bq n F V val lst) (j g : Nat) (hg : w.heap.size ≤ g) : (val j).ownBlock ≠ some g := fun e => by
  obtain ⟨S, h1, h2⟩ := h
  have := ((h2.2.2.2.2.2.2.1 j).lt g e).2
  omega
theorem Pos.pop (h : Pos w0 w b bp bq n F V val lst) : Calls Try.prog 15 #[.pointer (some ⟨b, 0, none⟩)] w fun e w' => e = .returned (.tuple #[.int .i64 (hdI F V), .int .i64 (hdC F V), .bool (hdB F V)]) ∧ Hid (Pos w0 w' b bp bq n (popF F) (popV F V) val lst) := by
  obtain ⟨S, h1, h2⟩ := h
  refine h1.pop.mono ?_
  rintro e w' ⟨he, S', o, g⟩
  exact ⟨he, Lib.hid ⟨S', o.out, h2.goes g.out⟩⟩
theorem Pos.app (h : Pos w0 w b bp bq n F V val lst) (hm : m < 4) (ho : w2.ownsRow (bq + 1) 3 1 v ((lst m).length + 1) ((lst m).map (Value.int .i64) ++ [.int .i64 x])) (hg : (w.alloc (.cells #[.int .i64 x] 3)).grownBy w2 (val m).ownBlock)
    (ha : v.ownBlock = (val m).ownBlock ∨ v.ownBlock = some (w.alloc (.cells #[.int .i64 x] 3)).heap.size) : Pos w0 (w2.setCell (arrOf bp bq m) v) b bp bq n F V (upd val m v) (upd lst m (lst m ++ [x])) := by
  obtain ⟨S, h1, h2⟩ := h
  obtain ⟨k1, k2⟩ := h2.app hm h1.1.lt ho hg ha
  refine ⟨S, h1.kept k2 (fun i hi e => ?_) (fun i e => ?_), k1⟩
  · rcases e with e | rfl | rfl
    · exact h2.2.2.2.2.2.2.2.1 m i (Eq.symm e) hi
    · exact h2.2.2.2.2.1 hi
    · exact h2.2.2.2.2.2.1 hi
  · have := h2.2.2.1
    have := h2.2.2.2.1
    rcases e with e | rfl | rfl
    · have := ((h2.2.2.2.2.2.2.1 m).lt i (Eq.symm e)).1
      omega
    · omega
    · omega
end
end Go.Proofs.Ytlmjhggnecmggaa
