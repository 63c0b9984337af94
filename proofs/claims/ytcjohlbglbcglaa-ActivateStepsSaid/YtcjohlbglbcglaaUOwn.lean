/- Owned rows of amounts, read; parts of rows of integers. -/
import Derived.Test.YtcjohlbglbcglaaInts
import Derived.Test.YtcjohlbglbcglaaRow
import Derived.Test.YtcjohlbglbcglaaAmts
namespace Go.Proofs.Ytcjohlbglbcglaa
open Go Go.RowKit
set_option linter.unusedVariables false
set_option linter.unusedSimpArgs false
set_option maxRecDepth 100000

section
variable {w : World} {S : Nat → Prop} {L : List Int} {a : Option Addr} {n : Nat}
theorem amts_of_owns {base n : Nat} {v : Value} (h : w.ownsRow base 23 1 v n (L.map (Value.int .u64))) (hS : ∀ i, v.ownBlock = some i → ¬ S i) : ∃ a cp, v = .slice a n cp ∧ L.length = n ∧ n ≤ cp ∧ UAt w S a L := by
  have hl := h.1
  rw [List.length_map, Nat.mul_one] at hl
  rcases h.2 with ⟨rfl, h2⟩ | ⟨g, cp, cur, rfl, h1, h3, h4, h5, h6, h7⟩
  · subst h2
    obtain rfl := List.eq_nil_of_length_eq_zero hl
    exact ⟨none, 0, rfl, rfl, by omega, UAt.nil _ _ _⟩
  · refine ⟨_, cp, rfl, hl, h4, fun h0 => ⟨g, 0, rfl, hS g rfl, (Array.getElem?_eq_some_iff.1 h3).1, fun j hj => ?_⟩⟩
    have := h.cells (g := g) rfl j (.int .u64 (L.getD j 0)) (by rw [List.getElem?_map, List.getD_eq_getElem?_getD, List.getElem?_eq_getElem hj]; rfl)
    rwa [add_plain] at this
/-- The first n elements. -/
theorem IntsAt.take (h : IntsAt w S a L) (hn : n ≤ L.length) : IntsAt w S a (L.take n) := fun h0 => by
  have hl : (L.take n).length = n := by simp; omega
  rw [hl] at h0 ⊢
  obtain ⟨b, off, e, hs, hb, hc⟩ := h (by omega)
  refine ⟨b, off, e, hs, hb, fun j hj => ?_⟩
  rw [hc j (by omega)]
  simp [List.getD_eq_getElem?_getD, List.getElem?_take_of_lt hj]
end
end Go.Proofs.Ytcjohlbglbcglaa
