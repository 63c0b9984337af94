/- The meter's methods: rest, New, Grant, Take, Drop, Balance, Spent, Totals; the nil meter. -/
import Derived.Test.YtkeclanbebiogaaFirst
import Derived.Test.YtkeclanbebiogaaSame
import Derived.Test.YtkeclanbebiogaaStructs
import Derived.Laws.Tables
namespace Go.Proofs.Ytkeclanbebiogaa
open Go.RowKit
set_option linter.unusedVariables false
set_option maxRecDepth 100000
set_option linter.unusedSimpArgs false

/-- Granted, from the balance, Taken and Dropped. -/
def gOf (B T D : Int) : Int := (B + T + D) % 18446744073709551616
/-- Taken before the last grant. -/
def bOf (T S : Int) : Int := (T - S) % 18446744073709551616
/-- A meter: its balance, what was spent, Taken, Dropped. -/
def MetAt (w : World) (b : Nat) (B S T D : Int) : Prop := Blk w b 81 #[.int .u64 (gOf B T D), .int .u64 T, .int .u64 D, .int .u64 (bOf T S)]
/-- The reference's. -/
def MRefAt (w : World) (d : Nat) (B S T D : Int) : Prop := Blk w d 37 #[.int .u64 B, .int .u64 S, .int .u64 (gOf B T D), .int .u64 T, .int .u64 D]
/-- The values fit. -/
def Fits (B S T D : Int) : Prop := 0 ≤ B ∧ 0 ≤ S ∧ B + S ≤ 18446744073709551615 ∧ 0 ≤ T ∧ T ≤ 18446744073709551615 ∧ 0 ≤ D ∧ D ≤ 18446744073709551615
section
variable {w w' : World} {b d : Nat} {B S T D x : Int}
theorem MetAt.cells (h : MetAt w b B S T D) : w.cell? ⟨b, 0, none⟩ = some (.int .u64 (gOf B T D)) ∧ w.cell? ⟨b, 1, none⟩ = some (.int .u64 T) ∧ w.cell? ⟨b, 2, none⟩ = some (.int .u64 D) ∧ w.cell? ⟨b, 3, none⟩ = some (.int .u64 (bOf T S)) :=
  ⟨Blk.cell h 0, Blk.cell h 1, Blk.cell h 2, Blk.cell h 3⟩
theorem MRefAt.cells (h : MRefAt w d B S T D) : w.cell? ⟨d, 0, none⟩ = some (.int .u64 B) ∧ w.cell? ⟨d, 1, none⟩ = some (.int .u64 S) ∧ w.cell? ⟨d, 2, none⟩ = some (.int .u64 (gOf B T D)) ∧ w.cell? ⟨d, 3, none⟩ = some (.int .u64 T) ∧ w.cell? ⟨d, 4, none⟩ = some (.int .u64 D) :=
  ⟨Blk.cell h 0, Blk.cell h 1, Blk.cell h 2, Blk.cell h 3, Blk.cell h 4⟩
theorem rest_eq (hF : Fits B S T D) : ∃ A, IntKind.u64.wrap (gOf B T D - T) = A ∧ IntKind.u64.wrap (A - D) = B := by
  refine ⟨_, rfl, ?_⟩
  obtain ⟨f0, f1, f2, f3, f4, f5, f6⟩ := hF
  simp only [IntKind.wrap_u64, gOf]
  omega
theorem spent_eq (hF : Fits B S T D) : IntKind.u64.wrap (T - bOf T S) = S := by
  obtain ⟨f0, f1, f2, f3, f4, f5, f6⟩ := hF
  simp only [IntKind.wrap_u64, bOf]
  omega
/-- Behind Take. -/
theorem take_eq (hF : Fits B S T D) (x0 : 0 ≤ x) (hx : x ≤ B) : ∃ T', IntKind.u64.wrap (T + x) = T' ∧ Fits (B - x) (S + x) T' D ∧ gOf (B - x) T' D = gOf B T D ∧ bOf T' (S + x) = bOf T S := by
  refine ⟨_, rfl, ?_⟩
  obtain ⟨f0, f1, f2, f3, f4, f5, f6⟩ := hF
  simp only [IntKind.wrap_u64, bOf, gOf, Fits]
  omega
/-- Behind Drop. -/
theorem drop_eq (hF : Fits B S T D) : ∃ D', IntKind.u64.wrap (D + B) = D' ∧ Fits 0 S T D' ∧ gOf 0 T D' = gOf B T D := by
  refine ⟨_, rfl, ?_⟩
  obtain ⟨f0, f1, f2, f3, f4, f5, f6⟩ := hF
  simp only [IntKind.wrap_u64, gOf, Fits]
  omega
/-- What a grant adds. -/
theorem grant_eq (hF : Fits B S T D) (x0 : 0 ≤ x) : ∃ p, (if 18446744073709551615 - B < x then 18446744073709551615 - B else x) = p ∧ IntKind.u64.wrap (gOf B T D + p) = gOf (B + p) T D ∧ Fits (B + p) 0 T D ∧ bOf T 0 = T ∧ 0 ≤ p := by
  refine ⟨_, rfl, ?_⟩
  obtain ⟨f0, f1, f2, f3, f4, f5, f6⟩ := hF
  simp only [IntKind.wrap_u64, gOf, bOf, Fits]
  split <;> omega
theorem MetAt.range (h : MetAt w b B S T D) : w.rangeAt b 0 [.int .u64 (gOf B T D), .int .u64 T, .int .u64 D] := by
  intro j v hv
  have hj : j < 3 := (List.getElem?_eq_some_iff.1 hv).1
  rw [Nat.zero_add, Blk.cell h j]
  obtain rfl | rfl | rfl : j = 0 ∨ j = 1 ∨ j = 2 := by omega
  all_goals exact hv
end

theorem rest_any (b : Nat) (B S T D : Int) (w : World) (h : MetAt w b B S T D) (hF : Fits B S T D) :
    Calls Try.prog 42 #[.pointer (some ⟨b, 0, none⟩)] w fun e w' => e = .returned (.int .u64 B) ∧ ∃ m, w' = w.drewN m := by
  obtain ⟨c0, c1, c2, c3⟩ := h.cells
  obtain ⟨A, eA, eB⟩ := rest_eq hF
  clear h hF c3
  generalize gOf B T D = G at *
  go_enter Try.func42, Try.ntmps42
  go_wp2
  go_quiet (skip)
  go_wp2
  go_ret
  exact ⟨rfl, _, rfl⟩
theorem balance_any (b : Nat) (B S T D : Int) (w : World) (h : MetAt w b B S T D) (hF : Fits B S T D) :
    Calls Try.prog 17 #[.pointer (some ⟨b, 0, none⟩)] w fun e w' => e = .returned (.int .u64 B) ∧ ∃ m, w' = w.drewN m := by
  have H := Lib.hid (rest_any b B S T D w h hF)
  clear h hF
  go_enter Try.func17, Try.ntmps17
  go_wp2_with fail
  refine H.out.mono ?_
  rintro e w' ⟨rfl, m, rfl⟩
  go_wp2_with fail
  go_ret
  exact ⟨rfl, _, rfl⟩
theorem spent_any (b : Nat) (B S T D : Int) (w : World) (h : MetAt w b B S T D) (hF : Fits B S T D) :
    Calls Try.prog 22 #[.pointer (some ⟨b, 0, none⟩)] w fun e w' => e = .returned (.int .u64 S) ∧ ∃ m, w' = w.drewN m := by
  obtain ⟨c0, c1, c2, c3⟩ := h.cells
  have eS := spent_eq hF
  clear h hF c0 c2
  generalize bOf T S = G at *
  go_enter Try.func22, Try.ntmps22
  go_wp2
  go_quiet (skip)
  go_wp2
  go_ret
  exact ⟨rfl, _, rfl⟩
theorem balance_nil (w : World) : Calls Try.prog 17 #[.pointer none] w fun e w' => e = .returned (.int .u64 0) ∧ w = w' := by
  go_enter Try.func17, Try.ntmps17
  go_wp2
  go_ret
  exact ⟨rfl, rfl⟩
theorem spent_nil (w : World) : Calls Try.prog 22 #[.pointer none] w fun e w' => e = .returned (.int .u64 0) ∧ w = w' := by
  go_enter Try.func22, Try.ntmps22
  go_wp2
  go_ret
  exact ⟨rfl, rfl⟩
theorem drop_nil (w : World) : Calls Try.prog 34 #[.pointer none] w fun e w' => e = .returned (.int .u64 0) ∧ w = w' := by
  go_enter Try.func34, Try.ntmps34
  go_wp2
  go_ret
  exact ⟨rfl, rfl⟩
theorem grant_nil (x : Int) (w : World) : Calls Try.prog 31 #[.pointer none, .int .u64 x] w fun e w' => e = .returned (.int .u64 0) ∧ w = w' := by
  go_enter Try.func31, Try.ntmps31
  go_wp2
  go_ret
  exact ⟨rfl, rfl⟩
theorem take_nil (x : Int) (w : World) : Calls Try.prog 33 #[.pointer none, .int .u64 x] w fun e w' => e = .returned (.bool false) ∧ w = w' := by
  go_enter Try.func33, Try.ntmps33
  go_wp2
  go_ret
  exact ⟨rfl, rfl⟩
theorem new_any (w : World) :
    Calls Try.prog 12 #[] w fun e w' => e = .returned (.pointer (some ⟨w.heap.size, 0, none⟩)) ∧ w.alloc (.cells #[.int .u64 0, .int .u64 0, .int .u64 0, .int .u64 0] 81) = w' := by
  go_enter Try.func12, Try.ntmps12
  go_wp2
  go_ret
  exact ⟨rfl, rfl⟩
theorem fits_zero : Fits 0 0 0 0 := by unfold Fits; omega
theorem new_at (w : World) :
    Calls Try.prog 12 #[] w fun e w' => e = .returned (.pointer (some ⟨w.heap.size, 0, none⟩)) ∧ MetAt w' w.heap.size 0 0 0 0 ∧ Below w.heap.size w w' ∧ w'.heap.size = w.heap.size + 1 :=
  (new_any w).mono fun e w' ⟨he, hw⟩ => ⟨he, hw ▸ Blk.new _ _ _, hw ▸ (Below.refl _ _).alloc (Nat.le_refl _) _, by rw [← hw]; simp⟩

end Go.Proofs.Ytkeclanbebiogaa
