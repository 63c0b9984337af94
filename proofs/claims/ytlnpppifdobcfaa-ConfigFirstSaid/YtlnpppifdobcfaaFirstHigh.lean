/- The walk of ConfigFirst: a case. -/
import Derived.Test.YtlnpppifdobcfaaSetI
import Derived.Test.YtlnpppifdobcfaaSetN
import Derived.Deep.DeepCutAuto
namespace Go.Proofs.Ytlnpppifdobcfaa
open Go.RowKit
set_option linter.unusedVariables false

set_option maxHeartbeats 1000000 in
theorem first_high (a0 : Nat → Int) (a1 a2 : Int) (w : World) (hz : chk a0 = 0) (h1 : 20 < a1) : Calls Try.prog 4 #[.agg (cellsOf a0), .int .i64 a1, .int .u64 a2] w fun e w' => e = .returned (.bool true) ∧ Below w.heap.size w w' := by
  have R : Hid (∀ W, _) := Lib.hid (fun W => refCheck_any a0 W)
  rw [hz] at R
  have L := Lib.hid alive_any
  have S : Hid (∀ W, Calls Try.prog 13 #[.agg (cellsOf a0), .int .i64 a1, .int .u64 a2] W fun e w' => e = .returned (.tuple #[.agg (cellsOf zeroC), .bool false]) ∧ Below W.heap.size W w') := Lib.hid (fun W => set_out a0 a1 a2 W (.inr h1))
  have I : Hid (∀ W, _) := Lib.hid (fun W => isInt_any a1 W)
  have hd1 : decide (a1 < 1) = false := by simp; omega
  have hd2 : decide (20 < a1) = true := by simpa using h1
  have K0 : Keeps w.heap.size w.heap.size 24 (cellsOf a0) w (w.alloc (.cells (cellsOf a0) 24)) := Keeps.new (Below.refl _ _) (Nat.le_refl _)
  unfold cellsOf
  go_enter Try.func4, Try.ntmps4
  go_upto_region 4 with (first
    | (refine wpList_load_rowG (o := ⟨_, .load 24 _, _, _, _, _⟩) rfl 24 _ rfl w.heap.size rfl 24 (cellsOf a0) (0, 0) _ K0.heap Try.underlying24 rfl info24 ?_)
    | (go_at_call 9; refine (Keeps.call K0 (R.out _)).mono ?_; rintro e w1 ⟨rfl, K1⟩; clear K0; have K0 := K1; clear K1)
    | (go_at_call 13; refine (Keeps.call K0 (S.out _)).mono ?_; rintro e w2 ⟨rfl, K2⟩; clear K0; have KD := Keeps.new (t := 24) (cs := cellsOf zeroC) K2.2.1 K2.2.2; clear K2)
    | (refine wpList_store_row (o := ⟨_, .store 24 _ _, _, _, _, _⟩) rfl _ _ _ rfl w2.heap.size (cellsOf zeroC) rfl rfl 24 _ (heap_alloc_new w2 _) info24 rfl (cells_one _) ?_; rw [World.setRow_alloc_new]))
  go_wp2_with (first
    | (go_at_call 14; refine (I.out _).mono ?_; rintro e wI ⟨rfl, rfl⟩)
    | (go_at_call 10; refine (Keeps.call KD (L.out _)).mono ?_; rintro e w3 ⟨rfl, K3⟩)
    | (refine wpList_load_rowG (o := ⟨_, .load 24 _, _, _, _, _⟩) rfl 24 _ rfl w2.heap.size rfl 24 (cellsOf zeroC) (0, 0) _ K3.heap Try.underlying24 rfl info24 ?_)
    | (refine wpList_valG (o := ⟨some 42, _, _, _, _, _⟩) (.agg (cellsOf zeroC)) rfl (by kernel_rfl) ?_)
    | (refine wpList_valG (o := ⟨some 43, _, _, _, _, _⟩) (.bool true) rfl (exec_same _ (xs := cellsOf zeroC) rfl rfl Try.eqGuardType24 (same24 _ _)) ?_))
  go_ret
  exact ⟨rfl, K3.2.1⟩
end Go.Proofs.Ytlnpppifdobcfaa
