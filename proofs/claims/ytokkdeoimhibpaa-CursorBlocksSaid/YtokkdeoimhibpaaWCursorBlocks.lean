/- The walk of CursorBlocks. -/
import Derived.Test.YtokkdeoimhibpaaLive
namespace Go.Proofs.Ytokkdeoimhibpaa
open Go Go.RowKit
set_option linter.unusedVariables false
set_option linter.unusedSimpArgs false

theorem i64_wf {x : Int} (h : (Lit.int .i64 x).wf = true) : -9223372036854775808 ≤ x ∧ x ≤ 9223372036854775807 := by
  simp [Lit.wf, IntKind.min, IntKind.max, IntKind.signed, IntKind.bits] at h
  omega
theorem walk_CursorBlocks (a0 a1 a2 : Int) (w : World) (w0 : (Lit.int .i64 a0).wf = true) (w1 : (Lit.int .i64 a1).wf = true) (w2 : (Lit.int .i64 a2).wf = true) :
    Calls Try.prog 6 #[.int .i64 a0, .int .i64 a1, .int .i64 a2] w fun e w' => e = .returned (.bool true) ∧ Below w.heap.size w w' := by
  have h0 := i64_wf w0
  clear w0 w1 w2
  obtain ⟨r, hp, hr⟩ : ∃ r : Int, (∀ w, Calls Try.prog 17 #[.int .i64 a0, .int .i64 a1, .int .i64 a2] w fun e w' => e = .returned (.int .i64 r) ∧ w = w') ∧ ∀ w, Calls Try.prog 18 #[.int .i64 a0, .int .i64 a1, .int .i64 a2] w fun e w' => e = .returned (.int .i64 r) ∧ w = w' := by
    by_cases h : a0 < 1 ∨ a1 < 1 ∨ a2 < 1
    · exact ⟨0, fun w => blocks_none a0 a1 a2 w h, fun w => rblocks_none a0 a1 a2 w h⟩
    · exact ⟨_, fun w => blocks_any a0 a1 a2 w (by omega) (by omega) (by omega) (by omega), fun w => rblocks_any a0 a1 a2 w (by omega) (by omega) (by omega) (by omega)⟩
  have HP := Lib.hid hp
  have HR := Lib.hid hr
  clear hp hr h0
  go_enter Try.func6, Try.ntmps6
  go_wp2_with fail
  refine (alive_any _).mono ?_
  rintro e w1 ⟨rfl, hb⟩
  have HB := Lib.hid hb
  clear hb
  go_wp2_with fail
  refine (HP.out _).mono ?_
  rintro e w2 ⟨rfl, rfl⟩
  go_wp2_with fail
  refine (HR.out _).mono ?_
  rintro e w2 ⟨rfl, rfl⟩
  go_wp2_with fail
  go_ret
  exact ⟨rfl, HB.out⟩
end Go.Proofs.Ytokkdeoimhibpaa
