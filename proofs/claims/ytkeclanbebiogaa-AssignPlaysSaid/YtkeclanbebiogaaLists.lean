/- Lanes: All, Ahead. -/
import Derived.Test.YtkeclanbebiogaaOps
namespace Go.Proofs.Ytkeclanbebiogaa
open Go Go.RowKit
set_option linter.unusedVariables false
set_option maxRecDepth 100000
set_option linter.unusedSimpArgs false

section
variable {w : World} {b n : Nat} {S : Nat → Prop} {F V : List Int}
theorem owns_blk {w : World} {g base : Nat} {L : List Int} (h : Blk w g 3 (L.map (Value.int .i64)).toArray) (hb : base ≤ g) (hl : L.length ≤ 9223372036854775807) : w.ownsRow base 3 1 (.slice (some ⟨g, 0, none⟩) L.length L.length) L.length (L.map (Value.int .i64)) :=
  ⟨by simp, .inr ⟨g, L.length, _, rfl, hb, h, Nat.le_refl _, by unfold maxLen; omega, by simp, List.take_of_length_le (by simp)⟩⟩
theorem ring_all {r size : Nat} {g : Option Nat} {L : List Int} (h : RingAt 104 3 1 w r g size L.length (L.map (Value.int .i64))) :
    Calls Try.prog 44 #[.pointer (some ⟨r, 0, none⟩)] w (ListPost w L) := by
  refine (ri_all_any r size L.length g _ w h).mono ?_
  rintro e w' ⟨he, hb, hw⟩
  exact ⟨_, he, owns_blk hb (Nat.le_refl _) (by have := h.size_le; omega), hw⟩
theorem all_any (c : Int) (h : Ln w b S n F V) : Calls Try.prog 19 #[.pointer (some ⟨b, 0, none⟩), .int .i64 c] w (ListPost w (laneL F V c)) := by
  have HQ := Lib.hid (queue_any c h)
  clear h
  go_enter Try.func19, Try.ntmps19
  go_wp2_with fail
  refine HQ.out.mono ?_
  rintro e w' ⟨rfl, ⟨rfl, h0, h1⟩ | ⟨r, g, rfl, hc, hr⟩⟩
  · have HE := Lib.hid (laneL_none (F := F) (V := V) h0 h1)
    clear h0 h1
    go_wp2_with fail
    refine (ri_all_nil _).mono ?_
    rintro e w' ⟨rfl, rfl⟩
    go_wp2
    go_ret
    exact ⟨_, rfl, by rw [HE.out]; exact World.ownsRow_nil _ _ _ _, Below.refl _ _⟩
  · have HR := Lib.hid (ring_all hr)
    clear hr hc
    go_wp2_with fail
    refine HR.out.mono ?_
    rintro e w' ⟨v, rfl, ho, hb⟩
    have HO := Lib.hid ho
    have HB := Lib.hid hb
    clear ho hb
    go_wp2
    go_ret
    exact ⟨_, rfl, HO.out, HB.out⟩
theorem below_grown {w0 w1 w2 : World} {v : Value} {B n : Nat} {xs : List Value} {t : TypeId} (h : Below B w0 w1) (hB : B ≤ w1.heap.size) (hg : w1.grownBy w2 v.ownBlock) (ho : w1.ownsRow B t 1 v n xs) : Below B w0 w2 := h.grown hg hB (fun q hq => (ho.lt q hq).1)
end
end Go.Proofs.Ytkeclanbebiogaa
