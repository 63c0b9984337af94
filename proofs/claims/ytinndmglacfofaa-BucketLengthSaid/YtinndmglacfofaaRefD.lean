/- The reference's Due. -/
import Derived.Test.YtinndmglacfofaaRefN
namespace Go.Proofs.Ytinndmglacfofaa
open Go Go.RowKit Go.Deep
set_option linter.unusedVariables false
set_option linter.unusedSimpArgs false

def ints (A : List Int) : List Value := A.map (Value.int .i64)
theorem ints_snoc (A : List Int) (x : Int) : ints (A ++ [x]) = ints A ++ [.int .i64 x] := by simp [ints]
/-- A second ring at R, and a list beside it, all made since w0. -/
structure RAt (w0 w : World) (R : Nat) (te ti v : Value) (A B C : List Int) : Prop where
  own : Blk w R 29 #[te, ti]
  e : w.ownsRow w0.heap.size 3 1 te A.length (ints A)
  i : w.ownsRow w0.heap.size 3 1 ti B.length (ints B)
  o : w.ownsRow w0.heap.size 3 1 v C.length (ints C)
  d1 : ∀ q, te.ownBlock = some q → ti.ownBlock ≠ some q
  d2 : ∀ q, v.ownBlock = some q → te.ownBlock ≠ some q
  d3 : ∀ q, v.ownBlock = some q → ti.ownBlock ≠ some q
  big : w0.heap.size ≤ R
  below : Below w0.heap.size w0 w
section
variable {w0 w w1 : World} {R : Nat} {te ti v v1 : Value} {A B C : List Int} {x : Int}
theorem RAt.ne (h : RAt w0 w R te ti v A B C) : te.ownBlock ≠ some R ∧ ti.ownBlock ≠ some R ∧ v.ownBlock ≠ some R :=
  ⟨fun e => absurd (owns_tag h.e e h.own) (by decide), fun e => absurd (owns_tag h.i e h.own) (by decide), fun e => absurd (owns_tag h.o e h.own) (by decide)⟩
theorem far_of {a b : Value} {k : Nat} (h : ∀ q, a.ownBlock = some q → b.ownBlock ≠ some q) (hl : ∀ q, b.ownBlock = some q → q < k) {a1 : Value} (ha : a1.ownBlock = a.ownBlock ∨ ∃ p, a1.ownBlock = some p ∧ k ≤ p) : ∀ q, a1.ownBlock = some q → b.ownBlock ≠ some q := fun q hq e => by
  rcases ha with ha | ⟨p, ha, hp⟩
  · exact h q (by rw [← ha, hq]) e
  · have := hl q e
    rw [hq] at ha
    injection ha with ha
    omega
theorem RAt.drew (h : RAt w0 w R te ti v A B C) : RAt w0 w.drew R te ti v A B C :=
  ⟨h.own, owns_same h.e (fun _ _ => rfl), owns_same h.i (fun _ _ => rfl), owns_same h.o (fun _ _ => rfl), h.d1, h.d2, h.d3, h.big, h.below.drew⟩
theorem RAt.push_o (h : RAt w0 w R te ti v A B C) (k : Kept (fun i => v.ownBlock = some i) w w1) (ho : w1.ownsRow w0.heap.size 3 1 v1 (C.length + 1) (ints C ++ [.int .i64 x])) (hv : v1.ownBlock = v.ownBlock ∨ ∃ p, v1.ownBlock = some p ∧ w.heap.size ≤ p) :
    RAt w0 w1 R te ti v1 A B (C ++ [x]) := by
  refine ⟨h.own.kept k h.ne.2.2, owns_same h.e fun i hi => k.block i (h.e.lt i hi).2 (fun e => h.d2 i e hi), owns_same h.i fun i hi => k.block i (h.i.lt i hi).2 (fun e => h.d3 i e hi), ?_, h.d1, ?_, ?_, h.big, ?_⟩
  · rw [List.length_append, ints_snoc]; exact ho
  · exact far_of h.d2 (fun q hq => (h.e.lt q hq).2) hv
  · exact far_of h.d3 (fun q hq => (h.i.lt q hq).2) hv
  · exact Kept.below h.below k (fun i hi => (h.o.lt i hi).1) h.below.size
theorem RAt.push_e (h : RAt w0 w R te ti v A B C) (k : Kept (fun i => te.ownBlock = some i) w w1) (ho : w1.ownsRow w0.heap.size 3 1 v1 (A.length + 1) (ints A ++ [.int .i64 x])) (hv : v1.ownBlock = te.ownBlock ∨ ∃ p, v1.ownBlock = some p ∧ w.heap.size ≤ p) :
    RAt w0 (w1.setCell ⟨R, 0, none⟩ v1) R v1 ti v (A ++ [x]) B C := by
  have hR := h.own.lt
  have hB : Blk w1 R 29 #[te, ti] := h.own.kept k h.ne.1
  have hb : Below w0.heap.size w0 w1 := Kept.below h.below k (fun i hi => (h.e.lt i hi).1) h.below.size
  have hv1 : v1.ownBlock ≠ some R := fun e => absurd (owns_tag ho e hB) (by decide)
  refine ⟨?_, ?_, ?_, ?_, ?_, ?_, h.d3, h.big, hb.setCell (p := ⟨R, 0, none⟩) h.big _⟩
  · have := Blk.set_ (w := w1) (g := R) (t := 29) (cs := #[te, ti]) hB 0 v1
    simpa using this
  · rw [List.length_append, ints_snoc]
    exact owns_same ho fun i hi => Below.heap_setCell _ _ _ _ (fun e => hv1 (by rw [hi]; exact congrArg some e))
  · refine owns_same h.i fun i hi => ?_
    rw [Below.heap_setCell _ _ _ _ (fun e => h.ne.2.1 (by rw [hi]; exact congrArg some e))]
    exact k.block i (h.i.lt i hi).2 (fun e => h.d1 i e hi)
  · refine owns_same h.o fun i hi => ?_
    rw [Below.heap_setCell _ _ _ _ (fun e => h.ne.2.2 (by rw [hi]; exact congrArg some e))]
    exact k.block i (h.o.lt i hi).2 (fun e => h.d2 i hi e)
  · exact far_of h.d1 (fun q hq => (h.i.lt q hq).2) hv
  · intro q hq e
    exact far_of (fun q he ho => h.d2 q ho he) (fun q hq => (h.o.lt q hq).2) hv q e hq
theorem RAt.push_i (h : RAt w0 w R te ti v A B C) (k : Kept (fun i => ti.ownBlock = some i) w w1) (ho : w1.ownsRow w0.heap.size 3 1 v1 (B.length + 1) (ints B ++ [.int .i64 x])) (hv : v1.ownBlock = ti.ownBlock ∨ ∃ p, v1.ownBlock = some p ∧ w.heap.size ≤ p) :
    RAt w0 (w1.setCell ⟨R, 1, none⟩ v1) R te v1 v A (B ++ [x]) C := by
  have hR := h.own.lt
  have hB : Blk w1 R 29 #[te, ti] := h.own.kept k h.ne.2.1
  have hb : Below w0.heap.size w0 w1 := Kept.below h.below k (fun i hi => (h.i.lt i hi).1) h.below.size
  have hv1 : v1.ownBlock ≠ some R := fun e => absurd (owns_tag ho e hB) (by decide)
  refine ⟨?_, ?_, ?_, ?_, ?_, h.d2, ?_, h.big, hb.setCell (p := ⟨R, 1, none⟩) h.big _⟩
  · have := Blk.set_ (w := w1) (g := R) (t := 29) (cs := #[te, ti]) hB 1 v1
    simpa using this
  · refine owns_same h.e fun i hi => ?_
    rw [Below.heap_setCell _ _ _ _ (fun e => h.ne.1 (by rw [hi]; exact congrArg some e))]
    exact k.block i (h.e.lt i hi).2 (fun e => h.d1 i hi e)
  · rw [List.length_append, ints_snoc]
    exact owns_same ho fun i hi => Below.heap_setCell _ _ _ _ (fun e => hv1 (by rw [hi]; exact congrArg some e))
  · refine owns_same h.o fun i hi => ?_
    rw [Below.heap_setCell _ _ _ _ (fun e => h.ne.2.2 (by rw [hi]; exact congrArg some e))]
    exact k.block i (h.o.lt i hi).2 (fun e => h.d3 i hi e)
  · intro q hq e
    exact far_of (fun q he ho => h.d1 q ho he) (fun q hq => (h.e.lt q hq).2) hv q e hq
  · intro q hq e
    exact far_of (fun q he ho => h.d3 q ho he) (fun q hq => (h.o.lt q hq).2) hv q e hq
theorem RAt.cells (h : RAt w0 w R te ti v A B C) : w.cell? ⟨R, 0, none⟩ = some te ∧ w.cell? ⟨R, 1, none⟩ = some ti ∧ w.frozen? ⟨R, 0, none⟩ = false ∧ w.frozen? ⟨R, 1, none⟩ = false :=
  ⟨h.own.cell 0, h.own.cell 1, h.own.frozen 0, h.own.frozen 1⟩
theorem RAt.close {r : Nat} {se si : Value} {L M : List Ent} (h : RAt w0 w R te ti v (M.map (·.1)) (M.map (·.2)) C) (hp : RefP w0 r se si L) :
    RefP ((w.setCell ⟨r, 0, none⟩ te).setCell ⟨r, 1, none⟩ ti) r te ti M ∧ ((w.setCell ⟨r, 0, none⟩ te).setCell ⟨r, 1, none⟩ ti).ownsRow w0.heap.size 3 1 v C.length (ints C) ∧ Kept (fun i => i = r) w0 ((w.setCell ⟨r, 0, none⟩ te).setCell ⟨r, 1, none⟩ ti) := by
  have hr := hp.own.lt
  have far : ∀ i, w0.heap.size ≤ i → ((w.setCell ⟨r, 0, none⟩ te).setCell ⟨r, 1, none⟩ ti).heap[i]? = w.heap[i]? := fun i hi => by
    rw [Below.heap_setCell _ _ _ _ (fun e => by have e : i = r := e; omega), Below.heap_setCell _ _ _ _ (fun e => by have e : i = r := e; omega)]
  have b0 : Blk w r 29 #[se, si] := (h.below.block r hr).trans hp.own
  have b1 := Blk.set_ (w := w) (g := r) (t := 29) (cs := #[se, si]) b0 0 te
  have b2 := Blk.set_ (w := w.setCell ⟨r, 0, none⟩ te) (g := r) (t := 29) b1 1 ti
  refine ⟨⟨by simpa using b2, ?_, ?_, h.d1⟩, owns_same h.o fun i hi => far i (h.o.lt i hi).1, ?_⟩
  · have he := h.e
    rw [List.length_map] at he
    exact owns_base (B := 0) (owns_same he fun i hi => far i (he.lt i hi).1) (Nat.zero_le _)
  · have he := h.i
    rw [List.length_map] at he
    exact owns_base (B := 0) (owns_same he fun i hi => far i (he.lt i hi).1) (Nat.zero_le _)
  · exact ((Kept.of_below (S := fun i => i = r) h.below).setCell (p := ⟨r, 0, none⟩) (.inl rfl) _).setCell (p := ⟨r, 1, none⟩) (.inl rfl) _
end

/-- What the reference's Due leaves. -/
def RefDue (w : World) (r : Nat) (S : Nat → Prop) (L : List Ent) (ep : Int) (e : Ending) (w' : World) : Prop :=
  ∃ v S', e = .returned v ∧ w'.ownsRow w.heap.size 3 1 v (goes ep L).length ((goes ep L).map (Value.int .i64)) ∧ Ref w' r S' (stay ep L) ∧ (∀ i, S' i → S i ∨ w.heap.size ≤ i) ∧ Kept S w w' ∧ ∀ i, v.ownBlock = some i → ¬ S' i
end Go.Proofs.Ytinndmglacfofaa
