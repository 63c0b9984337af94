/- What a law's loop keeps. -/
import Derived.Test.YtinndmglacfofaaLive
import Derived.Test.YtinndmglacfofaaNil
namespace Go.Proofs.Ytinndmglacfofaa
open Go Go.RowKit Go.Deep
set_option linter.unusedVariables false
set_option linter.unusedSimpArgs false

/-- A ring and the reference's, made since w0. -/
def Keep (w0 w : World) (b r n : Nat) (L : List Ent) : Prop := ∃ S T, Held w b r n S T L ∧ (∀ i, S i → w0.heap.size ≤ i) ∧ (∀ i, T i → w0.heap.size ≤ i) ∧ Below w0.heap.size w0 w
section
variable {w0 w w' : World} {b r n : Nat} {L : List Ent}
theorem Keep.below (h : Keep w0 w b r n L) (k : Below w.heap.size w w') : Keep w0 w' b r n L := by
  obtain ⟨S, T, hh, h1, h2, h3⟩ := h
  exact ⟨S, T, hh.below k, h1, h2, h3.trans (k.mono h3.size)⟩
theorem Keep.alloc (h : Keep w0 w b r n L) (o : Obj) : Keep w0 (w.alloc o) b r n L := h.below ((Below.refl _ _).alloc (Nat.le_refl _) o)
theorem Keep.drewN (h : Keep w0 w b r n L) (m : Nat) : Keep w0 (w.drewN m) b r n L := h.below (below_drewN (Below.refl _ _) m)
theorem Keep.bel (h : Keep w0 w b r n L) : Below w0.heap.size w0 w := by
  obtain ⟨S, T, hh, h1, h2, h3⟩ := h
  exact h3
theorem Keep.ring (h : Keep w0 w b r n L) : ∃ S, Ring w b S n L := by
  obtain ⟨S, T, hh, h1, h2, h3⟩ := h
  exact ⟨S, hh.1⟩
theorem Keep.ref (h : Keep w0 w b r n L) : ∃ T, Ref w r T L := by
  obtain ⟨S, T, hh, h1, h2, h3⟩ := h
  exact ⟨T, hh.2.1⟩
theorem Keep.doit (h : Keep w0 w b r n L) (o : OpV) (hL : L.length ≤ 100000) :
    Calls Try.prog 11 #[.pointer (some ⟨b, 0, none⟩), .pointer (some ⟨r, 0, none⟩), .agg (opCells o)] w fun e w' => e = .returned (.bool true) ∧ Hid (Keep w0 w' b r n (stepL L o)) := by
  obtain ⟨S, T, hh, h1, h2, h3⟩ := h
  refine (do_any b r n S T L o w hh hL).mono ?_
  rintro e w' ⟨S', T', rfl, hh', q1, q2, q3⟩
  have hsz := h3.size
  exact ⟨rfl, Lib.hid ⟨S', T', hh', fun i hi => (q1 i hi).elim (h1 i) (fun h => by omega), fun i hi => (q2 i hi).elim (h2 i) (fun h => by omega), Kept.below h3 q3 (fun i hi => hi.elim (h1 i) (h2 i)) hsz⟩⟩
/-- do, with its operand's own block. -/
theorem Keep.doit_op (h : Keep w0 w b r n L) (o : OpV) (hL : L.length ≤ 100000) :
    Calls Try.prog 11 #[.pointer (some ⟨b, 0, none⟩), .pointer (some ⟨r, 0, none⟩), .agg (opCells o)] (w.alloc (.cells (opCells o) 31)).drew fun e w' =>
      e = .returned (.bool true) ∧ Keep w0 w' b r n (stepL L o) ∧ Blk w' w.heap.size 31 (opCells o) := by
  obtain ⟨S, T, hh, h1, h2, h3⟩ := h
  have hsz := h3.size
  have hS : ¬ S w.heap.size := fun e => by have := hh.1.lt _ e; omega
  have hT : ¬ T w.heap.size := fun e => by have := hh.2.1.lt _ e; omega
  have hB : Below w.heap.size w (w.alloc (.cells (opCells o) 31)).drew := ((Below.refl _ _).alloc (Nat.le_refl _) _).drew
  have hE : Blk (w.alloc (.cells (opCells o) 31)).drew w.heap.size 31 (opCells o) := Blk.new w 31 (opCells o)
  refine (do_any b r n S T L o _ (hh.below hB) hL).mono ?_
  rintro e w' ⟨S', T', rfl, hh', q1, q2, q3⟩
  have hb2 := hB.size
  exact ⟨rfl, ⟨S', T', hh', fun i hi => (q1 i hi).elim (h1 i) (fun h => by omega), fun i hi => (q2 i hi).elim (h2 i) (fun h => by omega), Kept.below (h3.trans (hB.mono hsz)) q3 (fun i hi => hi.elim (h1 i) (h2 i)) (by omega)⟩, hE.kept q3 (fun e => e.elim hS hT)⟩
theorem Keep.len (h : Keep w0 w b r n L) (hL : L.length ≤ 100000) :
    Calls Try.prog 12 #[.pointer (some ⟨b, 0, none⟩)] w fun e w' => e = .returned (.int .i64 L.length) ∧ Hid (Keep w0 w' b r n L) := by
  obtain ⟨S, hr⟩ := h.ring
  exact (len_any b n S L w hr hL).mono fun e w' ⟨he, hb⟩ => ⟨he, Lib.hid (h.below hb)⟩
theorem Keep.len2 (h : Keep w0 w b r n L) (hL : L.length ≤ 100000) :
    Calls Try.prog 12 #[.pointer (some ⟨b, 0, none⟩)] w fun e w' => e = .returned (.int .i64 L.length) ∧ Keep w0 w' b r n L ∧ Below w.heap.size w w' := by
  obtain ⟨S, hr⟩ := h.ring
  exact (len_any b n S L w hr hL).mono fun e w' ⟨he, hb⟩ => ⟨he, h.below hb, hb⟩
theorem Keep.next (h : Keep w0 w b r n L) (hL : L.length ≤ 100000) :
    Calls Try.prog 13 #[.pointer (some ⟨b, 0, none⟩)] w fun e w' => e = .returned (.tuple #[.int .i64 (bestF L).2, .bool (bestF L).1]) ∧ Hid (Keep w0 w' b r n L) := by
  obtain ⟨S, hr⟩ := h.ring
  exact (next_any b n S L w hr hL).mono fun e w' ⟨he, hb⟩ => ⟨he, Lib.hid (h.below hb)⟩
theorem Keep.rnext (h : Keep w0 w b r n L) (hL : L.length ≤ 100000) :
    Calls Try.prog 14 #[.pointer (some ⟨r, 0, none⟩)] w fun e w' => e = .returned (.tuple #[.int .i64 (bestF L).2, .bool (bestF L).1]) ∧ w = w' := by
  obtain ⟨T, hr⟩ := h.ref
  exact ref_next r T L w hr hL
theorem Keep.load (h : Keep w0 w b r n L) (k : Nat) (hk : k < n) :
    Calls Try.prog 15 #[.pointer (some ⟨b, 0, none⟩), .int .i64 k] w fun e w' => e = .returned (.int .i64 (bk n L k).length) ∧ w = w' := by
  obtain ⟨S, hr⟩ := h.ring
  exact load_any b n k S L w hr hk
theorem Keep.rload (h : Keep w0 w b r n L) (k : Nat) (hL : L.length ≤ 100000) :
    Calls Try.prog 16 #[.pointer (some ⟨r, 0, none⟩), .int .i64 n, .int .i64 k] w fun e w' => e = .returned (.int .i64 (bk n L k).length) ∧ w = w' := by
  obtain ⟨S, hs⟩ := h.ring
  obtain ⟨T, hr⟩ := h.ref
  obtain ⟨f1, f2, f3⟩ := hs.fits
  exact ref_load r n k T L w hr f1 f2 f3 hL
theorem Keep.new {S : Nat → Prop} (hr : Ring w b S n []) (hS : ∀ i, S i → w0.heap.size ≤ i) (hb : Below w0.heap.size w0 w) :
    Keep w0 (w.alloc (.cells #[.slice none 0 0, .slice none 0 0] 29)) b w.heap.size n [] :=
  ⟨S, _, ⟨hr.alloc _, Ref.new w, fun i hi e => by have := hr.lt i hi; omega⟩, hS, fun i e => by have := hb.size; omega, hb.alloc hb.size _⟩
end
/-- All of a law's entries, played. -/
def plays (L : List Ent) (l : List OpV) : List Ent := l.foldl stepL L
end Go.Proofs.Ytinndmglacfofaa
