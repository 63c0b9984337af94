/- Lanes: two rings in a block; what is known of them. -/
import Derived.Test.YtkeclanbebiogaaPushInt
import Derived.Test.YtkeclanbebiogaaAllInt
import Derived.Test.YtkeclanbebiogaaOneInt
import Derived.Test.YtkeclanbebiogaaStructs
import Derived.Test.YtkeclanbebiogaaInts
namespace Go.Proofs.Ytkeclanbebiogaa
open Go Go.RowKit
set_option linter.unusedVariables false
set_option maxRecDepth 100000

/-- The queue of a class; how many it may still take; what is ahead of a new exit. -/
def laneL (F V : List Int) (c : Int) : List Int := if c = 0 then F else if c = 1 then V else []
def freeN (n : Nat) (F V : List Int) (c : Int) : Nat := if c = 0 then n - F.length else if c = 1 then n - V.length else 0
def aheadL (F V : List Int) (c : Int) : List Int := if c = 0 then F else if c = 1 then F ++ V else []
/-- Push: the answer, and both queues behind it. -/
def errP (n : Nat) (F V : List Int) (c : Int) : Int := if c = 0 then (if F.length < n then 0 else 6) else if c = 1 then (if V.length < n then 0 else 6) else 11
def pushF (n : Nat) (F : List Int) (c x : Int) : List Int := if c = 0 ∧ F.length < n then F ++ [x] else F
def pushV (n : Nat) (V : List Int) (c x : Int) : List Int := if c = 1 ∧ V.length < n then V ++ [x] else V
/-- Pop and Head: the exit, its class, whether there is one; both queues behind Pop. -/
def hdI : List Int → List Int → Int
  | x :: _, _ => x
  | [], x :: _ => x
  | [], [] => 0
def hdC : List Int → List Int → Int
  | _ :: _, _ => 0
  | [], _ :: _ => 1
  | [], [] => 0
def hdB : List Int → List Int → Bool
  | _ :: _, _ => true
  | [], _ :: _ => true
  | [], [] => false
def popF : List Int → List Int
  | _ :: F => F
  | [] => []
def popV : List Int → List Int → List Int
  | _ :: _, V => V
  | [], _ :: V => V
  | [], [] => []

/-- Lanes in block b: the forced exits F in the ring f (slots gf), the voluntary ones V in the ring v. -/
def LnAt (w : World) (b f v : Nat) (gf gv : Option Nat) (n : Nat) (F V : List Int) : Prop :=
  Blk w b 76 #[.pointer (some ⟨f, 0, none⟩), .pointer (some ⟨v, 0, none⟩)] ∧
  RingAt 104 3 1 w f gf n F.length (F.map (Value.int .i64)) ∧ RingAt 104 3 1 w v gv n V.length (V.map (Value.int .i64)) ∧
  (∀ i, Foot f gf i → ¬ Foot v gv i) ∧ (¬ Foot f gf b) ∧ (¬ Foot v gv b)
/-- Lanes whose blocks are those of S. -/
def Ln (w : World) (b : Nat) (S : Nat → Prop) (n : Nat) (F V : List Int) : Prop :=
  ∃ f v gf gv, LnAt w b f v gf gv n F V ∧ ∀ i, S i ↔ (i = b ∨ Foot f gf i ∨ Foot v gv i)
/-- Only blocks of S and new ones have turned; the blocks of S' are such. -/
def Goes (S S' : Nat → Prop) (w w' : World) : Prop := Kept S w w' ∧ ∀ i, S' i → S i ∨ w.heap.size ≤ i

section
variable {w w' : World} {S S' T : Nat → Prop} {b f v n : Nat} {gf gv g' : Option Nat} {F V : List Int}
theorem Ln.kept (h : Ln w b S n F V) (k : Kept T w w') (hT : ∀ i, S i → ¬ T i) : Ln w' b S n F V := by
  obtain ⟨f, v, gf, gv, ⟨h1, h2, h3, h4⟩, h5⟩ := h
  exact ⟨f, v, gf, gv, ⟨h1.kept k (hT _ ((h5 _).2 (.inl rfl))), h2.kept k (fun i hi => hT i ((h5 i).2 (.inr (.inl hi)))), h3.kept k (fun i hi => hT i ((h5 i).2 (.inr (.inr hi)))), h4⟩, h5⟩
theorem Ln.lt (h : Ln w b S n F V) : ∀ i, S i → i < w.heap.size := by
  obtain ⟨f, v, gf, gv, ⟨h1, h2, h3, h4⟩, h5⟩ := h
  intro i hi
  rcases (h5 i).1 hi with rfl | hi | hi
  · exact h1.lt
  · exact h2.lt i hi
  · exact h3.lt i hi
theorem Ln.drewN (h : Ln w b S n F V) (m : Nat) : Ln (w.drewN m) b S n F V := h
theorem Ln.below (h : Ln w b S n F V) (hb : Below w.heap.size w w') : Ln w' b S n F V := h.kept (Kept.of_below (S := fun _ => False) hb) (fun _ _ h => h)
theorem Ln.size (h : Ln w b S n F V) : F.length ≤ n ∧ V.length ≤ n ∧ n ≤ 1048576 := by
  obtain ⟨f, v, gf, gv, ⟨h1, h2, h3, h4⟩, h5⟩ := h
  exact ⟨h2.size_le.1, h3.size_le.1, h2.size_le.2.2⟩
theorem LnAt.cells (h : LnAt w b f v gf gv n F V) : w.cell? ⟨b, 0, none⟩ = some (.pointer (some ⟨f, 0, none⟩)) ∧ w.cell? ⟨b, 1, none⟩ = some (.pointer (some ⟨v, 0, none⟩)) := ⟨h.1.cell 0, h.1.cell 1⟩
theorem Goes.refl (S : Nat → Prop) (w : World) : Goes S S w w := ⟨Kept.refl _ _, fun _ h => .inl h⟩
/-- The first ring has turned, or the second. -/
theorem LnAt.setF {F' : List Int} (h : LnAt w b f v gf gv n F V) (hr : RingAt 104 3 1 w' f g' n F'.length (F'.map (Value.int .i64))) (hm : Moved w gf g') (hk : Kept (Foot f gf) w w') :
    ∃ S', Ln w' b S' n F' V ∧ Goes (fun i => i = b ∨ Foot f gf i ∨ Foot v gv i) S' w w' := by
  obtain ⟨h1, h2, h3, h4, h5, h6⟩ := h
  have new : ∀ i, Foot f g' i → Foot f gf i ∨ w.heap.size ≤ i := by
    rintro i (rfl | hi)
    · exact .inl (.inl rfl)
    · exact (hm i hi.symm).imp (fun e => .inr e.symm) id
  refine ⟨_, ⟨f, v, g', gv, ⟨h1.kept hk h5, hr, h3.kept hk (fun i hi hf => h4 i hf hi), ?_, ?_, h6⟩, fun i => Iff.rfl⟩, hk.more (fun i _ hi => .inr (.inl hi)), ?_⟩
  · intro i hi hv
    rcases new i hi with h | h
    · exact h4 i h hv
    · have := h3.lt i hv; omega
  · intro hb
    rcases new b hb with h | h
    · exact h5 h
    · have := h1.lt; omega
  · rintro i (rfl | hi | hi)
    · exact .inl (.inl rfl)
    · exact (new i hi).imp (fun h => .inr (.inl h)) id
    · exact .inl (.inr (.inr hi))
theorem LnAt.setV {V' : List Int} (h : LnAt w b f v gf gv n F V) (hr : RingAt 104 3 1 w' v g' n V'.length (V'.map (Value.int .i64))) (hm : Moved w gv g') (hk : Kept (Foot v gv) w w') :
    ∃ S', Ln w' b S' n F V' ∧ Goes (fun i => i = b ∨ Foot f gf i ∨ Foot v gv i) S' w w' := by
  obtain ⟨h1, h2, h3, h4, h5, h6⟩ := h
  have new : ∀ i, Foot v g' i → Foot v gv i ∨ w.heap.size ≤ i := by
    rintro i (rfl | hi)
    · exact .inl (.inl rfl)
    · exact (hm i hi.symm).imp (fun e => .inr e.symm) id
  refine ⟨_, ⟨f, v, gf, g', ⟨h1.kept hk h6, h2.kept hk (fun i hi hf => h4 i hi hf), hr, ?_, h5, ?_⟩, fun i => Iff.rfl⟩, hk.more (fun i _ hi => .inr (.inr hi)), ?_⟩
  · intro i hi hv
    rcases new i hv with h | h
    · exact h4 i hi h
    · have := h2.lt i hi; omega
  · intro hb
    rcases new b hb with h | h
    · exact h6 h
    · have := h1.lt; omega
  · rintro i (rfl | hi | hi)
    · exact .inl (.inl rfl)
    · exact .inl (.inr (.inl hi))
    · exact (new i hi).imp (fun h => .inr (.inr h)) id
theorem Goes.iff {S2 : Nat → Prop} (h : Goes S S' w w') (hS : ∀ i, S2 i ↔ S i) : Goes S2 S' w w' := ⟨h.1.more fun i _ hi => (hS i).2 hi, fun i hi => (h.2 i hi).imp (hS i).2 id⟩
section
variable {w : World} {S : Nat → Prop} {a : Option Addr} {L : List Int}
theorem IntsAt.src (h : IntsAt w S a L) : Src w S a L.length 1 (L.map (Value.int .i64)) := by
  refine ⟨by simp, fun v hv => ?_, fun hl => ?_⟩
  · obtain ⟨x, _, rfl⟩ := List.mem_map.1 hv
    rfl
  · obtain ⟨b, off, e, hn, hb, hc⟩ := h hl
    refine ⟨_, e, hn, fun j v hv => ?_⟩
    rw [List.getElem?_map] at hv
    have hj : j < L.length := by
      rcases Nat.lt_or_ge j L.length with h1 | h1
      · exact h1
      · rw [List.getElem?_eq_none h1] at hv; cases hv
    rw [add_plain, hc j hj]
    rw [List.getElem?_eq_getElem hj] at hv
    rw [List.getD_eq_getElem?_getD, List.getElem?_eq_getElem hj]
    exact hv
end
theorem owns_below {w w' : World} {base n size : Nat} {e : TypeId} {v : Value} {xs : List Value} (h : w.ownsRow base e size v n xs) (k : Below w.heap.size w w') : w'.ownsRow base e size v n xs := by
  obtain ⟨h1, h2⟩ := h
  refine ⟨h1, ?_⟩
  rcases h2 with h2 | ⟨g, cap, cur, rfl, h3, h4, h5⟩
  · exact .inl h2
  · exact .inr ⟨g, cap, cur, rfl, h3, Blk.below (w := w) h4 k (Blk.lt (w := w) h4), h5⟩
theorem owns_kept {w w' : World} {S : Nat → Prop} {base n size : Nat} {e : TypeId} {v : Value} {xs : List Value} (h : w.ownsRow base e size v n xs) (k : Kept S w w') (hn : ∀ g, v.ownBlock = some g → ¬ S g) : w'.ownsRow base e size v n xs := by
  obtain ⟨h1, h2⟩ := h
  refine ⟨h1, ?_⟩
  rcases h2 with h2 | ⟨g, cap, cur, rfl, h3, h4, h5⟩
  · exact .inl h2
  · exact .inr ⟨g, cap, cur, rfl, h3, Blk.kept (w := w) h4 k (hn g rfl), h5⟩
theorem kept_set (w : World) (b o : Nat) (u : Value) : Kept (fun i => i = b) w (w.setCell ⟨b, o, none⟩ u) := Kept.setCell (S := fun i => i = b) (Kept.refl _ _) (.inl rfl) _
theorem src_one (w : World) (x : Int) (T : Nat → Prop) (hT : ∀ i, T i → i < w.heap.size) : Src (w.alloc (.cells #[.int .i64 x] 3)) T (some ⟨w.heap.size, 0, none⟩) 1 1 [.int .i64 x] :=
  ⟨rfl, fun v hv => by simp at hv; subst hv; rfl, fun _ => ⟨_, rfl, fun hf => Nat.lt_irrefl _ (hT _ hf), fun j v hv => by
    rw [add_plain, Nat.zero_add, (Blk.new w 3 #[.int .i64 x]).cell]
    simpa using hv⟩⟩
end
end Go.Proofs.Ytkeclanbebiogaa
