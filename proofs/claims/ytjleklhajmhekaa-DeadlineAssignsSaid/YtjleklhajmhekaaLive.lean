/- The chapter's example holds. -/
import Derived.Test.YtjleklhajmhekaaRefPay
namespace Go.Proofs.Ytjleklhajmhekaa
open Go Go.RowKit
set_option linter.unusedVariables false
set_option linter.unusedSimpArgs false
set_option maxRecDepth 100000

theorem live_b (w : World) : Calls Try.prog 11 #[.int .u64 64, .int .u64 32, .agg (cellsOf dflt)] w fun o w' => o = .returned (.tuple #[.int .i64 5, .bool true]) ∧ Below w.heap.size w w' := by
  have h := boundaries_any (a := 64) (x := 32) dflt_good ⟨by decide, by decide⟩ ⟨by decide, by decide⟩ w
  rwa [show bnd 64 32 dflt = some 5 by decide +kernel] at h
theorem live_x (w : World) : Calls Try.prog 13 #[.int .i64 5, .int .u64 64, .int .u64 32, .agg (cellsOf dflt)] w fun o w' => o = .returned (.tuple #[.int .i64 11, .bool true]) ∧ Below w.heap.size w w' := by
  have h := exit_at (a := 64) (x := 32) dflt_good ⟨by decide, by decide⟩ ⟨by decide, by decide⟩ 5 w
  rwa [show exitG 64 32 dflt 5 = some 11 by decide +kernel] at h
theorem live_w (w : World) : Calls Try.prog 15 #[.int .i64 5, .int .u64 64, .int .u64 32, .agg (cellsOf dflt)] w fun o w' => o = .returned (.tuple #[.int .i64 13, .bool true]) ∧ Below w.heap.size w w' := by
  have h := withdraw_at (a := 64) (x := 32) dflt_good ⟨by decide, by decide⟩ ⟨by decide, by decide⟩ 5 w
  rwa [show withdrawG 64 32 dflt 5 = some 13 by decide +kernel] at h
theorem live_p (w : World) : Calls Try.prog 16 #[.int .i64 5, .int .u64 64, .int .u64 32, .agg (cellsOf dflt)] w fun o w' => o = .returned (.tuple #[.int .i64 14, .bool true]) ∧ Below w.heap.size w w' := by
  have h := pay_at (a := 64) (x := 32) dflt_good ⟨by decide, by decide⟩ ⟨by decide, by decide⟩ 5 w
  rwa [show payG 64 32 dflt 5 = some 14 by decide +kernel] at h
theorem live_s (w : World) : Calls Try.prog 18 #[.agg (cellsOf dflt)] w fun o w' => o = .returned (.int .i64 1) ∧ Below w.heap.size w w' := by
  have h := sweep_any dflt dflt_good w
  rwa [show sweepN dflt = 1 by decide +kernel] at h
theorem alive_any (w : World) : Calls Try.prog 10 #[] w fun e w' => e = .returned (.bool true) ∧ Below w.heap.size w w' := by
  go_enter Try.func10, Try.ntmps10
  go_wp2_with (first
    | (go_at_call 24; refine (default_any _).mono ?_; rintro e w1 ⟨rfl, hb1⟩; have K1 := Keeps.new (t := 26) (cs := cellsOf dflt) hb1 hb1.size)
    | (refine wpList_store_row rfl _ _ _ rfl w1.heap.size (cellsOf dflt) rfl rfl 26 _ (heap_alloc_new w1 _) info24 rfl (cells_one _) ?_; rw [World.setRow_alloc_new])
    | (refine wpList_load_rowG rfl 26 _ rfl w1.heap.size rfl 26 (cellsOf dflt) (0, 0) _ (Keeps.heap (by assumption)) Try.underlying26 rfl info24 ?_)
    | (go_at_call 11; refine (Keeps.call (by assumption) (live_b _)).mono ?_; rintro e w2 ⟨rfl, K2⟩)
    | (go_at_call 13; refine (Keeps.call (by assumption) (live_x _)).mono ?_; rintro e w3 ⟨rfl, K3⟩)
    | (go_at_call 15; refine (Keeps.call (by assumption) (live_w _)).mono ?_; rintro e w4 ⟨rfl, K4⟩)
    | (go_at_call 16; refine (Keeps.call (by assumption) (live_p _)).mono ?_; rintro e w5 ⟨rfl, K5⟩)
    | (go_at_call 18; refine (Keeps.call (by assumption) (live_s _)).mono ?_; rintro e w6 ⟨rfl, K6⟩))
  go_ret
  exact ⟨rfl, K6.2.1⟩
end Go.Proofs.Ytjleklhajmhekaa
