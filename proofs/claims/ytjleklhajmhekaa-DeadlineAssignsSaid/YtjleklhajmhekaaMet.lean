/- The reference's meter in plain numbers. (After stage 13.) -/
import Derived.Test.YtjleklhajmhekaaFirst
import Derived.Test.YtjleklhajmhekaaStructs
import Derived.Laws.Tables
namespace Go.Proofs.Ytjleklhajmhekaa
open Go.RowKit
set_option linter.unusedVariables false
set_option maxRecDepth 100000
set_option linter.unusedSimpArgs false

/-- Granted, from the balance, Taken and Dropped. -/
def gOf (B T D : Int) : Int := (B + T + D) % 18446744073709551616
/-- Taken before the last grant. -/
def bOf (T S : Int) : Int := (T - S) % 18446744073709551616
/-- The reference's. -/
def MRefAt (w : World) (d : Nat) (B S T D : Int) : Prop := Blk w d 46 #[.int .u64 B, .int .u64 S, .int .u64 (gOf B T D), .int .u64 T, .int .u64 D]
/-- The values fit. -/
def FitsM (B S T D : Int) : Prop := 0 ≤ B ∧ 0 ≤ S ∧ B + S ≤ 18446744073709551615 ∧ 0 ≤ T ∧ T ≤ 18446744073709551615 ∧ 0 ≤ D ∧ D ≤ 18446744073709551615
section
variable {w w' : World} {b d : Nat} {B S T D x : Int}
theorem MRefAt.cells (h : MRefAt w d B S T D) : w.cell? ⟨d, 0, none⟩ = some (.int .u64 B) ∧ w.cell? ⟨d, 1, none⟩ = some (.int .u64 S) ∧ w.cell? ⟨d, 2, none⟩ = some (.int .u64 (gOf B T D)) ∧ w.cell? ⟨d, 3, none⟩ = some (.int .u64 T) ∧ w.cell? ⟨d, 4, none⟩ = some (.int .u64 D) :=
  ⟨Blk.cell h 0, Blk.cell h 1, Blk.cell h 2, Blk.cell h 3, Blk.cell h 4⟩
/-- Behind Take. -/
theorem take_eq (hF : FitsM B S T D) (x0 : 0 ≤ x) (hx : x ≤ B) : ∃ T', IntKind.u64.wrap (T + x) = T' ∧ FitsM (B - x) (S + x) T' D ∧ gOf (B - x) T' D = gOf B T D ∧ bOf T' (S + x) = bOf T S := by
  refine ⟨_, rfl, ?_⟩
  obtain ⟨f0, f1, f2, f3, f4, f5, f6⟩ := hF
  simp only [IntKind.wrap_u64, bOf, gOf, FitsM]
  omega
/-- Behind Drop. -/
theorem drop_eq (hF : FitsM B S T D) : ∃ D', IntKind.u64.wrap (D + B) = D' ∧ FitsM 0 S T D' ∧ gOf 0 T D' = gOf B T D := by
  refine ⟨_, rfl, ?_⟩
  obtain ⟨f0, f1, f2, f3, f4, f5, f6⟩ := hF
  simp only [IntKind.wrap_u64, gOf, FitsM]
  omega
/-- What a grant adds. -/
theorem grant_eq (hF : FitsM B S T D) (x0 : 0 ≤ x) : ∃ p, (if 18446744073709551615 - B < x then 18446744073709551615 - B else x) = p ∧ IntKind.u64.wrap (gOf B T D + p) = gOf (B + p) T D ∧ FitsM (B + p) 0 T D ∧ bOf T 0 = T ∧ 0 ≤ p := by
  refine ⟨_, rfl, ?_⟩
  obtain ⟨f0, f1, f2, f3, f4, f5, f6⟩ := hF
  simp only [IntKind.wrap_u64, gOf, bOf, FitsM]
  split <;> omega
theorem fits_zero : FitsM 0 0 0 0 := by unfold FitsM; omega
end
end Go.Proofs.Ytjleklhajmhekaa
