/- Weights: a slice of amounts; the weight of an index. (After stage 13.) -/
import Derived.Test.YtjleklhajmhekaaInts
import Derived.Test.YtjleklhajmhekaaRd
namespace Go.Proofs.Ytjleklhajmhekaa
open Go Go.RowKit Go.Lib
set_option linter.unusedVariables false
set_option linter.unusedSimpArgs false
set_option maxRecDepth 100000

/-- A slice of amounts that reads as L; its block is not one of S. -/
def UAt (w : World) (S : Nat → Prop) (a : Option Addr) (L : List Int) : Prop :=
  0 < L.length → ∃ b off, a = some ⟨b, off, none⟩ ∧ ¬ S b ∧ b < w.heap.size ∧ ∀ j, j < L.length → w.cell? ⟨b, off + j, none⟩ = some (.int .u64 (L.getD j 0))
def Amts (L : List Int) : Prop := ∀ j, 0 ≤ L.getD j 0 ∧ L.getD j 0 ≤ 18446744073709551615
/-- The weight of an index. -/
def wOf (L : List Int) (i : Int) : Int := if 0 ≤ i ∧ i < (L.length : Int) then L.getD i.toNat 0 else 0
section
variable {w w' : World} {S T : Nat → Prop} {a : Option Addr} {L : List Int}
theorem UAt.nil (w : World) (S : Nat → Prop) (a : Option Addr) : UAt w S a [] := fun h => by simp at h
theorem UAt.kept (h : UAt w S a L) (k : Kept T w w') (hT : ∀ i, i < w.heap.size → T i → S i) : UAt w' S a L := fun hl => by
  obtain ⟨b, off, e, hn, hb, hc⟩ := h hl
  exact ⟨b, off, e, hn, Nat.lt_of_lt_of_le hb k.size, fun j hj => k.cell (fun ht => hn (hT _ hb ht)) (hc j hj)⟩
theorem UAt.other (h : UAt w S a L) (hT : ∀ i, i < w.heap.size → T i → S i) : UAt w T a L := fun hl => by
  obtain ⟨b, off, e, hn, hb, hc⟩ := h hl
  exact ⟨b, off, e, fun ht => hn (hT _ hb ht), hb, hc⟩
theorem UAt.below (h : UAt w S a L) (hb : Below w.heap.size w w') : UAt w' S a L := fun hl => by
  obtain ⟨b, off, e, hn, hb2, hc⟩ := h hl
  exact ⟨b, off, e, hn, Nat.lt_of_lt_of_le hb2 hb.size, fun j hj => (hb.cell (p := ⟨b, off + j, none⟩) hb2).trans (hc j hj)⟩
theorem UAt.drewN (h : UAt w S a L) (n : Nat) : UAt (w.drewN n) S a L := h
theorem UAt.of_blk {g : Nat} {t : TypeId} (h : Blk w g t (L.map (Value.int .u64)).toArray) (hn : ¬ S g) : UAt w S (some ⟨g, 0, none⟩) L := fun hl =>
  ⟨g, 0, rfl, hn, h.lt, fun j hj => by
    rw [Nat.zero_add, h.cell, List.getElem?_toArray, List.getElem?_map, List.getD_eq_getElem?_getD, List.getElem?_eq_getElem hj]
    rfl⟩
theorem u64_of {x : Int} (h : (Lit.int .u64 x).wf = true) : 0 ≤ x ∧ x ≤ 18446744073709551615 := by
  simp [Lit.wf, IntKind.min, IntKind.max, IntKind.signed, IntKind.bits] at h
  omega
theorem UAt.of_row {len cap : Nat} {z : List Int} (h : IsRow .u64 w a len cap z) : UAt w (fun i => w.heap.size ≤ i) a (z.take len) ∧ (z.take len).length = len ∧ len ≤ 9223372036854775807 ∧ Amts (z.take len) := by
  have hl : (z.take len).length = len ∧ len ≤ 9223372036854775807 := by
    rcases h with ⟨_, h1, h2, h3⟩ | ⟨x, _, h1, h2, h3, _, _⟩
    · subst h1 h2; simp
    · unfold maxLen at h2; simp; omega
  have hget : ∀ j, j < len → (z.take len).getD j 0 = z.getD j 0 := fun j hj => by simp [List.getD_eq_getElem?_getD, List.getElem?_take_of_lt hj]
  refine ⟨fun h0 => ?_, hl.1, hl.2, fun j => ?_⟩
  · rw [hl.1] at h0 ⊢
    obtain ⟨b, off, e, hb, _, hc⟩ := row_cells h h0
    refine ⟨b, off, e, by omega, hb, fun j hj => ?_⟩
    rw [(hc j hj).1, hget j hj]
  · rcases Nat.lt_or_ge j len with hj | hj
    · obtain ⟨b, off, e, hb, _, hc⟩ := row_cells h (by omega)
      rw [hget j hj]
      exact u64_of (hc j hj).2
    · rw [List.getD_eq_getElem?_getD, List.getElem?_eq_none (by omega)]
      exact ⟨by decide, by decide⟩
theorem wOf_out {i : Int} (h : i < 0 ∨ (L.length : Int) ≤ i) : wOf L i = 0 := by rw [wOf, if_neg (by omega)]
theorem wOf_in {k : Nat} (h : k < L.length) : wOf L k = L.getD k 0 := by rw [wOf, if_pos (by omega)]; simp
theorem wOf_amt (h : Amts L) (i : Int) : 0 ≤ wOf L i ∧ wOf L i ≤ 18446744073709551615 := by
  unfold wOf
  split
  · exact h _
  · exact ⟨by decide, by decide⟩
theorem of_any (cap : Nat) (i : Int) (w : World) (h : UAt w S a L) (hl : L.length ≤ 9223372036854775807) :
    Calls Try.prog 41 #[.slice a L.length cap, .int .i64 i] w fun e w' => e = .returned (.int .u64 (wOf L i)) ∧ w = w' := by
  by_cases h1 : i < 0
  · have HE := Lib.hid (wOf_out (L := L) (.inl h1))
    go_enter Try.func41, Try.ntmps41
    go_wp2
    go_ret
    exact ⟨by rw [HE.out]; rfl, rfl⟩
  · by_cases h2 : (L.length : Int) ≤ i
    · have HE := Lib.hid (wOf_out (L := L) (.inr h2))
      go_enter Try.func41, Try.ntmps41
      go_wp2
      go_ret
      exact ⟨by rw [HE.out]; rfl, rfl⟩
    · obtain ⟨k, rfl, hk⟩ : ∃ k : Nat, i = k ∧ k < L.length := ⟨i.toNat, by omega, by omega⟩
      have he := wOf_in hk
      obtain ⟨b, off, rfl, _, _, hc⟩ := h (by omega)
      have hcell := hc k hk
      generalize L.getD k 0 = x at hcell he
      have HE := Lib.hid he
      clear hc he
      go_enter Try.func41, Try.ntmps41
      go_wp2
      go_ret
      exact ⟨by rw [HE.out]; rfl, rfl⟩
end
end Go.Proofs.Ytjleklhajmhekaa
