/- The walk of ConfigChecks. -/
import Derived.Test.YtlnpppifdobcfaaLive
namespace Go.Proofs.Ytlnpppifdobcfaa
open Go.RowKit
set_option linter.unusedVariables false

theorem walk_ConfigChecks (a0 : Nat → Int) (w : World) (w0 : Fits a0) : Calls Try.prog 3 #[.agg (cellsOf a0)] w fun e w' => e = .returned (.bool true) ∧ Below w.heap.size w w' := by
  have R := Lib.hid (refCheck_any a0)
  have L := Lib.hid alive_any
  have C := Lib.hid (check_any a0)
  have V := Lib.hid (valid_any a0)
  have K0 : Keeps w.heap.size w.heap.size 24 (cellsOf a0) w (w.alloc (.cells (cellsOf a0) 24)) := Keeps.new (Below.refl _ _) (Nat.le_refl _)
  have hr : (chk a0 == chk a0) = true := by simp
  have hr2 : ((chk a0 == 0) == (chk a0 == 0)) = true := by simp
  unfold cellsOf
  go_enter Try.func3, Try.ntmps3
  go_wp2_with (first
    | (refine wpList_load_rowG rfl 24 _ rfl w.heap.size rfl 24 (cellsOf a0) (0, 0) _ (Keeps.heap (by assumption)) Try.underlying24 rfl info24 ?_)
    | (go_at_call 9; refine (Keeps.call (by assumption) (R.out _)).mono ?_; rintro e w2 ⟨rfl, K2⟩)
    | (go_at_call 10; refine (Keeps.call (by assumption) (L.out _)).mono ?_; rintro e w3 ⟨rfl, K3⟩)
    | (go_at_call 11; refine (Keeps.call (by assumption) (C.out _)).mono ?_; rintro e w4 ⟨rfl, K4⟩)
    | (go_at_call 12; refine (Keeps.call (by assumption) (V.out _)).mono ?_; rintro e w5 ⟨rfl, K5⟩))
  go_ret
  exact ⟨rfl, K5.2.1⟩
end Go.Proofs.Ytlnpppifdobcfaa
