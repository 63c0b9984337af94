/- Slices of integers, nil let in; slices.Equal on two of them. -/
import Derived.Test.YthnhpmeacboljaaKept
import Derived.Test.YthnhpmeacboljaaAppend
import Derived.Test.YthnhpmeacboljaaShelf
import Derived.Shelf.Slices.Empties2
namespace Go.Proofs.Ythnhpmeacboljaa
open Go.RowKit
set_option linter.unusedVariables false

theorem int_info : (Try.prog.info? 3).map (fun i => (i.zero, i.size, i.bytes)) = some (some (.int .i64 0), 1, 8) := by kernel_rfl
/-- A slice of integers that reads as L; its block is not one of S. -/
def IntsAt (w : World) (S : Nat → Prop) (a : Option Addr) (L : List Int) : Prop :=
  0 < L.length → ∃ b off, a = some ⟨b, off, none⟩ ∧ ¬ S b ∧ b < w.heap.size ∧ ∀ j, j < L.length → w.cell? ⟨b, off + j, none⟩ = some (.int .i64 (L.getD j 0))
section
variable {w w' : World} {S T : Nat → Prop} {a : Option Addr} {L : List Int}
theorem IntsAt.nil (w : World) (S : Nat → Prop) (a : Option Addr) : IntsAt w S a [] := fun h => by simp at h
theorem IntsAt.kept (h : IntsAt w S a L) (k : Kept T w w') (hT : ∀ i, i < w.heap.size → T i → S i) : IntsAt w' S a L := fun hl => by
  obtain ⟨b, off, e, hn, hb, hc⟩ := h hl
  exact ⟨b, off, e, hn, Nat.lt_of_lt_of_le hb k.size, fun j hj => k.cell (fun ht => hn (hT _ hb ht)) (hc j hj)⟩
/-- The set may be another one, where old blocks are concerned. -/
theorem IntsAt.other (h : IntsAt w S a L) (hT : ∀ i, i < w.heap.size → T i → S i) : IntsAt w T a L := fun hl => by
  obtain ⟨b, off, e, hn, hb, hc⟩ := h hl
  exact ⟨b, off, e, fun ht => hn (hT _ hb ht), hb, hc⟩
theorem IntsAt.below (h : IntsAt w S a L) (hb : Below w.heap.size w w') : IntsAt w' S a L := fun hl => by
  obtain ⟨b, off, e, hn, hb2, hc⟩ := h hl
  exact ⟨b, off, e, hn, Nat.lt_of_lt_of_le hb2 hb.size, fun j hj => (hb.cell (p := ⟨b, off + j, none⟩) hb2).trans (hc j hj)⟩
theorem IntsAt.drewN (h : IntsAt w S a L) (n : Nat) : IntsAt (w.drewN n) S a L := h
theorem IntsAt.of_blk {g : Nat} {t : TypeId} (h : Blk w g t (L.map (Value.int .i64)).toArray) (hn : ¬ S g) : IntsAt w S (some ⟨g, 0, none⟩) L := fun hl =>
  ⟨g, 0, rfl, hn, h.lt, fun j hj => by
    rw [Nat.zero_add, h.cell, List.getElem?_toArray, List.getElem?_map, List.getD_eq_getElem?_getD, List.getElem?_eq_getElem hj]
    rfl⟩
theorem IntsAt.of_row {len cap : Nat} {z : List Int} (h : IsRow .i64 w a len cap z) (hn : ∀ i, i < w.heap.size → ¬ S i) : IntsAt w S a (z.take len) ∧ (z.take len).length = len ∧ len ≤ cap ∧ cap ≤ 9223372036854775807 := by
  have hl : (z.take len).length = len ∧ len ≤ cap ∧ cap ≤ 9223372036854775807 := by
    rcases h with ⟨_, h1, h2, h3⟩ | ⟨x, _, h1, h2, h3, _, _⟩
    · subst h1 h2; simp
    · unfold maxLen at h2; simp; omega
  refine ⟨fun h0 => ?_, hl⟩
  rw [hl.1] at h0 ⊢
  obtain ⟨b, off, e, hb, _, hc⟩ := row_cells h h0
  refine ⟨b, off, e, hn b hb, hb, fun j hj => ?_⟩
  rw [(hc j hj).1]
  simp [List.getD_eq_getElem?_getD, List.getElem?_take_of_lt hj]
theorem equal_lens (a1 a2 : Option Addr) (n c m d : Nat) (w : World) (hnm : n ≠ m) :
    Calls Try.prog 20 #[.slice a1 n c, .slice a2 m d] w fun e w' => e = .returned (.bool false) ∧ w' = w := Any.slices_Equal_int_lens Try.lays111 a1 a2 n c m d w hnm
theorem equal_any {a2 : Option Addr} {L2 : List Int} {c d n m : Nat} {S2 : Nat → Prop} (h1 : IntsAt w S a L) (h2 : IntsAt w S2 a2 L2) (hn : L.length = n) (hm : L2.length = m) (bn : n ≤ 9223372036854775807) (bm : m ≤ 9223372036854775807) :
    Calls Try.prog 20 #[.slice a n c, .slice a2 m d] w fun e w' => e = .returned (.bool (decide (L = L2))) ∧ ∃ q, w' = w.drewN q := by
  subst hn hm
  by_cases e : L.length = L2.length
  · by_cases h0 : L.length = 0
    · have x1 : L = [] := List.eq_nil_of_length_eq_zero h0
      have x2 : L2 = [] := List.eq_nil_of_length_eq_zero (by omega)
      subst x1 x2
      exact (Try.slices_Equal_int_empty a a2 c 0 d w (by omega)).mono fun e w' ⟨he, hw⟩ => ⟨by simpa using he, 0, hw⟩
    · obtain ⟨b1, o1, rfl, _, _, c1⟩ := h1 (by omega)
      obtain ⟨b2', o2, rfl, _, _, c2⟩ := h2 (by omega)
      exact (Try.slices_Equal_int b1 o1 L.length c b2' o2 L2.length d L L2 w (by omega) (by omega) bn bm c1 c2).mono fun e w' ⟨he, hw⟩ => ⟨by rw [he, List.take_length, List.take_length]; exact ret_bool (by rw [Bool.eq_iff_iff]; simp), hw⟩
  · exact (equal_lens a a2 L.length c L2.length d w e).mono fun e' w' ⟨he, hw⟩ => ⟨by rw [he]; exact ret_bool (by symm; simp; rintro rfl; exact e rfl), 0, hw⟩
theorem equal_same {a2 : Option Addr} {c d n : Nat} {S2 : Nat → Prop} (h1 : IntsAt w S a L) (h2 : IntsAt w S2 a2 L) (hn : L.length = n) (b1 : n ≤ 9223372036854775807) :
    Calls Try.prog 20 #[.slice a n c, .slice a2 n d] w fun e w' => e = .returned (.bool true) ∧ ∃ q, w' = w.drewN q := by
  have := equal_any h1 h2 hn hn b1 b1 (c := c) (d := d)
  simpa using this
/-- An owned row of integers reads so. -/
theorem ints_of_owns {base n : Nat} {v : Value} (h : w.ownsRow base 3 1 v n (L.map (Value.int .i64))) (hS : ∀ i, v.ownBlock = some i → ¬ S i) : ∃ a cp, v = .slice a n cp ∧ L.length = n ∧ n ≤ cp ∧ cp ≤ maxLen ∧ IntsAt w S a L := by
  have hl := h.1
  rw [List.length_map, Nat.mul_one] at hl
  rcases h.2 with ⟨rfl, h2⟩ | ⟨g, cp, cur, rfl, h1, h3, h4, h5, h6, h7⟩
  · subst h2
    obtain rfl := List.eq_nil_of_length_eq_zero hl
    exact ⟨none, 0, rfl, rfl, by omega, by unfold maxLen; omega, IntsAt.nil _ _ _⟩
  · refine ⟨_, cp, rfl, hl, h4, h5, fun h0 => ⟨g, 0, rfl, hS g rfl, (Array.getElem?_eq_some_iff.1 h3).1, fun j hj => ?_⟩⟩
    have := h.cells (g := g) rfl j (.int .i64 (L.getD j 0)) (by rw [List.getElem?_map, List.getD_eq_getElem?_getD, List.getElem?_eq_getElem hj]; rfl)
    rwa [add_plain] at this
theorem int_app : ∃ i, Try.prog.info? 3 = some i ∧ i.zero = some (.int .i64 0) ∧ i.size = 1 ∧ i.bytes = 8 := by
  have h := int_info
  cases hi : Try.prog.info? 3 with
  | none => rw [hi] at h; cases h
  | some i =>
    rw [hi] at h
    simp at h
    exact ⟨i, rfl, h.1, h.2.1, h.2.2⟩
end
end Go.Proofs.Ythnhpmeacboljaa
