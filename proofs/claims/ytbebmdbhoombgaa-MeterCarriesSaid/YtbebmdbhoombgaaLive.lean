/- A law's own meter; the chapter's example. -/
import Derived.Test.YtbebmdbhoombgaaDo
namespace Go.Proofs.Ytbebmdbhoombgaa
open Go Go.RowKit
set_option linter.unusedVariables false
set_option linter.unusedSimpArgs false

/-- A meter made since w0. -/
def Own (w0 w : World) (b : Nat) (B S T D : Int) : Prop := MetAt w b B S T D ∧ w0.heap.size ≤ b ∧ Below w0.heap.size w0 w ∧ Fits B S T D
section
variable {w0 w w' : World} {b : Nat} {B S T D B' S' T' D' x : Int}
theorem Own.below (h : Own w0 w b B S T D) (k : Below w.heap.size w w') : Own w0 w' b B S T D := ⟨Blk.below h.1 k (Blk.lt h.1), h.2.1, h.2.2.1.trans (k.mono h.2.2.1.size), h.2.2.2⟩
theorem Own.drewN (h : Own w0 w b B S T D) (n : Nat) : Own w0 (w.drewN n) b B S T D := ⟨h.1, h.2.1, below_drewN h.2.2.1 n, h.2.2.2⟩
theorem Own.grown (h : Own w0 w b B S T D) {c : Nat} (g : w.grownBy w' (some c)) (hc : some b ≠ some c) (hl : w0.heap.size ≤ c) : Own w0 w' b B S T D := ⟨Blk.grown h.1 g hc, h.2.1, below_only h.2.2.1 g h.2.2.1.size hl, h.2.2.2⟩
theorem Own.new (w : World) : Calls Try.prog 9 #[] w fun e w' => e = .returned (.pointer (some ⟨w.heap.size, 0, none⟩)) ∧ Hid (Own w w' w.heap.size 0 0 0 0) ∧ Hid (w'.heap.size = w.heap.size + 1) ∧ Hid (Below w.heap.size w w') :=
  (new_at w).mono fun _ _ ⟨he, h1, h2, h3⟩ => ⟨he, Lib.hid ⟨h1, Nat.le_refl _, h2, fits_zero⟩, Lib.hid h3, Lib.hid h2⟩
theorem Own.balance (h : Own w0 w b B S T D) : Calls Try.prog 12 #[.pointer (some ⟨b, 0, none⟩)] w fun e w' => e = .returned (.int .u64 B) ∧ Hid (Own w0 w' b B S T D) ∧ Hid (Below w.heap.size w w') :=
  (balance_any b B S T D w h.1 h.2.2.2).mono fun _ _ ⟨he, m, hm⟩ => ⟨he, Lib.hid (hm ▸ h.drewN m), Lib.hid (hm ▸ below_drewN (Below.refl _ _) m)⟩
theorem Own.spent (h : Own w0 w b B S T D) : Calls Try.prog 13 #[.pointer (some ⟨b, 0, none⟩)] w fun e w' => e = .returned (.int .u64 S) ∧ Hid (Own w0 w' b B S T D) ∧ Hid (Below w.heap.size w w') :=
  (spent_any b B S T D w h.1 h.2.2.2).mono fun _ _ ⟨he, m, hm⟩ => ⟨he, Lib.hid (hm ▸ h.drewN m), Lib.hid (hm ▸ below_drewN (Below.refl _ _) m)⟩
theorem Own.totals (h : Own w0 w b B S T D) : Calls Try.prog 14 #[.pointer (some ⟨b, 0, none⟩)] w fun e w' => e = .returned (.agg #[.int .u64 (gOf B T D), .int .u64 T, .int .u64 D]) ∧ Hid (Own w0 w' b B S T D) ∧ Hid (Below w.heap.size w w') :=
  (totals_any b B S T D w h.1).mono fun _ _ ⟨he, hb⟩ => ⟨he, Lib.hid (h.below hb), Lib.hid hb⟩
/-- Grant that has room. -/
theorem Own.grant (h : Own w0 w b B S T D) (x0 : 0 ≤ x) (hx : B + x ≤ 18446744073709551615) (hB : B + x = B') : Calls Try.prog 16 #[.pointer (some ⟨b, 0, none⟩), .int .u64 x] w fun e w' => e = .returned (.int .u64 B') ∧ Hid (Own w0 w' b B' 0 T D) ∧ Hid (w.grownBy w' (some b)) := by
  subst hB
  obtain ⟨p, hp, hG, hN, hb, _⟩ := grant_eq h.2.2.2 x0
  have e : p = x := by rw [← hp, if_neg (by omega)]
  subst e
  exact (grant_any b B S T D p p w h.1 h.2.2.2 hp hG hN hb).mono fun _ _ ⟨he, h1, h2⟩ => ⟨he, Lib.hid ⟨h1, h.2.1, below_only h.2.2.1 h2 h.2.2.1.size h.2.1, hN⟩, Lib.hid h2⟩
/-- Grant, in any case. -/
theorem Own.grants (h : Own w0 w b B S T D) (x0 : 0 ≤ x) : Calls Try.prog 16 #[.pointer (some ⟨b, 0, none⟩), .int .u64 x] w fun e w' => ∃ B', e = .returned (.int .u64 B') ∧ Hid (Own w0 w' b B' 0 T D) ∧ Hid (w.grownBy w' (some b)) := by
  obtain ⟨p, hp, hG, hN, hb, _⟩ := grant_eq h.2.2.2 x0
  exact (grant_any b B S T D x p w h.1 h.2.2.2 hp hG hN hb).mono fun _ _ ⟨he, h1, h2⟩ => ⟨B + p, he, Lib.hid ⟨h1, h.2.1, below_only h.2.2.1 h2 h.2.2.1.size h.2.1, hN⟩, Lib.hid h2⟩
/-- Take of what is there. -/
theorem Own.take (h : Own w0 w b B S T D) (x0 : 0 ≤ x) (hx : x ≤ B) (hB : B - x = B') (hS : S + x = S') : Calls Try.prog 15 #[.pointer (some ⟨b, 0, none⟩), .int .u64 x] w fun e w' => e = .returned (.bool true) ∧ ∃ T', Hid (Own w0 w' b B' S' T' D) ∧ Hid (w.grownBy w' (some b)) := by
  subst hB hS
  obtain ⟨T', hT, hN, hG, hb⟩ := take_eq h.2.2.2 x0 hx
  exact (take_yes b B S T D T' x w h.1 h.2.2.2 hx hT hG hb).mono fun _ _ ⟨he, h1, h2⟩ => ⟨he, T', Lib.hid ⟨h1, h.2.1, below_only h.2.2.1 h2 h.2.2.1.size h.2.1, hN⟩, Lib.hid h2⟩
theorem Own.refuse (h : Own w0 w b B S T D) (hx : x > B) : Calls Try.prog 15 #[.pointer (some ⟨b, 0, none⟩), .int .u64 x] w fun e w' => e = .returned (.bool false) ∧ Hid (Own w0 w' b B S T D) ∧ Hid (w.grownBy w' (some b)) :=
  (take_no b B S T D x w h.1 h.2.2.2 hx).mono fun _ _ ⟨he, m, hm⟩ => ⟨he, Lib.hid (hm ▸ h.drewN m), Lib.hid (hm ▸ only_drewN (only_refl _ _) m)⟩
theorem Own.drop (h : Own w0 w b B S T D) : Calls Try.prog 17 #[.pointer (some ⟨b, 0, none⟩)] w fun e w' => e = .returned (.int .u64 B) ∧ ∃ D', Hid (Own w0 w' b 0 S T D') ∧ Hid (w.grownBy w' (some b)) := by
  obtain ⟨D', hD, hN, hG⟩ := drop_eq h.2.2.2
  exact (drop_any b B S T D D' w h.1 h.2.2.2 hD hG).mono fun _ _ ⟨he, h1, h2⟩ => ⟨he, D', Lib.hid ⟨h1, h.2.1, below_only h.2.2.1 h2 h.2.2.1.size h.2.1, hN⟩, Lib.hid h2⟩
end

theorem alive_any (w : World) : Calls Try.prog 10 #[] w fun e w' => e = .returned (.bool true) ∧ Below w.heap.size w w' := by
  go_enter Try.func10, Try.ntmps10
  go_wp2_with fail
  refine (Own.new _).mono ?_
  rintro e w1 ⟨rfl, O1, _, _⟩
  go_wp2_with fail
  refine (O1.out.grant (x := 10) (B' := 10) (by decide) (by decide) (by decide)).mono ?_
  rintro e w2 ⟨rfl, O2, _⟩
  clear O1
  go_wp2_with fail
  refine (O2.out.take (x := 7) (B' := 3) (S' := 7) (by decide) (by decide) (by decide) (by decide)).mono ?_
  rintro e w3 ⟨rfl, T, O3, _⟩
  clear O2
  go_wp2_with fail
  refine O3.out.spent.mono ?_
  rintro e w4 ⟨rfl, O4, _⟩
  clear O3
  go_wp2_with fail
  refine (O4.out.grant (x := 5) (B' := 8) (by decide) (by decide) (by decide)).mono ?_
  rintro e w5 ⟨rfl, O5, _⟩
  clear O4
  go_wp2_with fail
  refine O5.out.balance.mono ?_
  rintro e w6 ⟨rfl, O6, _⟩
  clear O5
  go_wp2_with fail
  refine O6.out.spent.mono ?_
  rintro e w7 ⟨rfl, O7, _⟩
  clear O6
  go_wp2_with fail
  refine (O7.out.refuse (x := 9) (by decide)).mono ?_
  rintro e w8 ⟨rfl, O8, _⟩
  clear O7
  go_wp2_with fail
  go_ret
  exact ⟨rfl, O8.out.2.2.1⟩
end Go.Proofs.Ytbebmdbhoombgaa
