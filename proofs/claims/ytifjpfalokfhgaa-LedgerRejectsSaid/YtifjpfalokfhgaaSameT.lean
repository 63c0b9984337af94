/- Totals are equal to themselves; the room's facts. -/
import Derived.Test.YtifjpfalokfhgaaDo
namespace Go.Proofs.Ytifjpfalokfhgaa
open Go.RowKit
theorem totals_same (D P B : Int) (w : World) : (Op.equalIn 10000 36 (.agg #[.int .u64 D, .int .u64 P, .int .u64 B]) (.agg #[.int .u64 D, .int .u64 P, .int .u64 B])).run Try.prog w = .ok true w := by
  refine equal_struct_same w _ Try.underlying36 (by kernel_rfl) (fun f hf => ?_)
  simp only [List.mem_cons, List.not_mem_nil, or_false] at hf
  rcases hf with rfl | rfl | rfl
  · exact ⟨.u64, D, Try.underlying22, rfl⟩
  · exact ⟨.u64, P, Try.underlying22, rfl⟩
  · exact ⟨.u64, B, Try.underlying22, rfl⟩
theorem room_le {D P B C x : Int} : x ≤ roomOf D P B C ↔ x ≤ C - (D - P - B) ∧ D + x ≤ 18446744073709551615 := by
  unfold roomOf
  split <;> omega
end Go.Proofs.Ytifjpfalokfhgaa
