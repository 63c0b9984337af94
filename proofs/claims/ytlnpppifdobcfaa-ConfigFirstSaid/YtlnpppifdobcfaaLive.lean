/- The chapter's example holds. -/
import Derived.Test.YtlnpppifdobcfaaBlocks
namespace Go.Proofs.Ytlnpppifdobcfaa
open Go.RowKit
set_option linter.unusedVariables false

def zeroC : Nat → Int := fun _ => 0
theorem zero_chk : chk zeroC = 1 := by decide +kernel
theorem dflt_good : Good dflt := good_of_chk dflt_chk
theorem dflt_visits (w : World) : Calls Try.prog 18 #[.agg (cellsOf dflt)] w fun e w' => e = .returned (.int .i64 4) ∧ Below w.heap.size w w' := visits_any dflt dflt_good w
theorem dflt_payments (w : World) : Calls Try.prog 19 #[.agg (cellsOf dflt)] w fun e w' => e = .returned (.int .i64 2) ∧ Below w.heap.size w w' := payments_any dflt dflt_good w
theorem dflt_blocks (w : World) : Calls Try.prog 20 #[.agg (cellsOf dflt)] w fun e w' => e = .returned (.int .i64 8) ∧ Below w.heap.size w w' := by
  have h := sweepBlocks_any dflt dflt_good w
  rwa [show blocks dflt = 8 by decide +kernel] at h
theorem dflt_valid (w : World) : Calls Try.prog 12 #[.agg (cellsOf dflt)] w fun e w' => e = .returned (.bool true) ∧ Below w.heap.size w w' := by
  have h := valid_any dflt w
  rwa [dflt_chk] at h
theorem zero_check (w : World) : Calls Try.prog 11 #[.agg (cellsOf zeroC)] w fun e w' => e = .returned (.int .i64 1) ∧ Below w.heap.size w w' := by
  have h := check_any zeroC w
  rwa [zero_chk] at h

theorem alive_any (w : World) : Calls Try.prog 10 #[] w fun e w' => e = .returned (.bool true) ∧ Below w.heap.size w w' := by
  go_enter Try.func10, Try.ntmps10
  go_wp2_with (first
    | (go_at_call 16; refine (default_any _).mono ?_; rintro e w1 ⟨rfl, hb1⟩; have K1 := Keeps.new (t := 24) (cs := cellsOf dflt) hb1 hb1.size)
    | (refine wpList_store_row rfl _ _ _ rfl w1.heap.size (cellsOf dflt) rfl rfl 24 _ (heap_alloc_new w1 _) info24 rfl (cells_one _) ?_; rw [World.setRow_alloc_new])
    | (refine wpList_load_rowG rfl 24 _ rfl w1.heap.size rfl 24 (cellsOf dflt) (0, 0) _ (Keeps.heap (by assumption)) Try.underlying24 rfl info24 ?_)
    | (refine wpList_valG (o := ⟨some 21, _, _, _, _, _⟩) (.agg (cellsOf zeroC)) rfl (by kernel_rfl) ?_)
    | (go_at_call 18; refine (Keeps.call (by assumption) (dflt_visits _)).mono ?_; rintro e w2 ⟨rfl, K2⟩)
    | (go_at_call 19; refine (Keeps.call (by assumption) (dflt_payments _)).mono ?_; rintro e w3 ⟨rfl, K3⟩)
    | (go_at_call 20; refine (Keeps.call (by assumption) (dflt_blocks _)).mono ?_; rintro e w4 ⟨rfl, K4⟩)
    | (go_at_call 12; refine (Keeps.call (by assumption) (dflt_valid _)).mono ?_; rintro e w5 ⟨rfl, K5⟩)
    | (go_at_call 11; refine (Keeps.call (by assumption) (zero_check _)).mono ?_; rintro e w6 ⟨rfl, K6⟩))
  go_ret
  exact ⟨rfl, K6.2.1⟩
end Go.Proofs.Ytlnpppifdobcfaa
