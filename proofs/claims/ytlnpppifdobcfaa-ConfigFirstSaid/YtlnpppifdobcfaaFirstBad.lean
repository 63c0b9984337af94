/- The walk of ConfigFirst: a case. -/
import Derived.Test.YtlnpppifdobcfaaSetI
import Derived.Test.YtlnpppifdobcfaaSetN
import Derived.Deep.DeepCutAuto
namespace Go.Proofs.Ytlnpppifdobcfaa
open Go.RowKit
set_option linter.unusedVariables false

set_option maxHeartbeats 1000000 in
theorem first_bad (a0 : Nat → Int) (a1 a2 : Int) (w : World) (hz : ¬ chk a0 = 0) : Calls Try.prog 4 #[.agg (cellsOf a0), .int .i64 a1, .int .u64 a2] w fun e w' => e = .returned (.bool true) ∧ Below w.heap.size w w' := by
  have R := Lib.hid (refCheck_any a0)
  have L := Lib.hid alive_any
  have hn : (chk a0 == 0) = false := by simpa using hz
  have hn2 : (chk a0 != 0) = true := by simpa using hz
  clear hz
  have K0 : Keeps w.heap.size w.heap.size 24 (cellsOf a0) w (w.alloc (.cells (cellsOf a0) 24)) := Keeps.new (Below.refl _ _) (Nat.le_refl _)
  unfold cellsOf
  go_enter Try.func4, Try.ntmps4
  go_wp2_with (first
    | (refine wpList_load_rowG (o := ⟨_, .load 24 _, _, _, _, _⟩) rfl 24 _ rfl w.heap.size rfl 24 (cellsOf a0) (0, 0) _ K0.heap Try.underlying24 rfl info24 ?_)
    | (go_at_call 9; refine (Keeps.call K0 (R.out _)).mono ?_; rintro e w1 ⟨rfl, K1⟩)
    | (go_at_call 10; refine (Keeps.call K1 (L.out _)).mono ?_; rintro e w3 ⟨rfl, K3⟩))
  go_ret
  exact ⟨rfl, K3.2.1⟩
end Go.Proofs.Ytlnpppifdobcfaa
