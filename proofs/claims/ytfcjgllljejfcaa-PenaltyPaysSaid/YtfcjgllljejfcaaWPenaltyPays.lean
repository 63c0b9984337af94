/- The walk of PenaltyPays (written by mklaws.py). -/
import Derived.Test.YtfcjgllljejfcaaLaw
namespace Go.Proofs.Ytfcjgllljejfcaa
open Go Go.RowKit
set_option linter.unusedVariables false
set_option linter.unusedSimpArgs false
set_option maxRecDepth 100000

set_option maxHeartbeats 1600000 in
theorem walk_PenaltyPays (a0 : Val) (a1 : Int) (w : World) (w0 : FitsV a0) (w1 : (Lit.int .i64 a1).wf = true) :
    Calls Try.prog 6 #[.agg (cellsV a0), .int .i64 a1] w fun e w' => e = .returned (.bool true) ∧ Below w.heap.size w w' := by
  have HV := Lib.hid alive_any
  have HA := Lib.hid (pay_lit a1 w0)
  have HB := Lib.hid (fun w => refpay_any a0 a1 w)
  have V_0 : Hid (VB (w.alloc (.cells (cellsV a0) 28)) w.heap.size a0) := Lib.hid (Blk.new _ _ _)
  have B0 : Hid (Below w.heap.size w (w.alloc (.cells (cellsV a0) 28))) := Lib.hid ((Below.refl _ _).alloc (Nat.le_refl _) _)
  by_cases h : a0.st = 5 ∧ a0.wd ≤ a1
  · rw [settle_ok h.1 h.2] at HA HB
    have e1 := fun w => same_val ({ a0 with bal := 0, st := 6 } : Val) w
    have q1 : (a0.st == 5) = true := by simpa using h.1
    have q2 : decide (a0.wd ≤ a1) = true := by simpa using h.2
    have q3 : (a0.bal == a0.bal) = true := by simp
    have q4 : (a0.bal != a0.bal) = false := by simp
    clear h w0 w1
    go_enter Try.func6, Try.ntmps6
    go_upto_region 1 with (fail)
    generalize w.alloc (.cells (cellsV a0) 28) = W at *
    go_wp2_with (first | (refine wpList_load_row rfl 28 _ rfl w.heap.size rfl 28 _ (0, 0) _ V_0.out Try.underlying28 rfl infoV ?_))
    refine (HA.out _).mono ?_
    rintro o w1 ⟨rfl, b1⟩
    have n1 : Below W.heap.size W (w1.alloc (.cells (cellsV ({ a0 with bal := 0, st := 6 } : Val)) 28)) := below_put b1 _
    have B1 := Lib.hid (B0.out.trans (n1.mono B0.out.size))
    clear B0
    have V_1 : Hid (VB (w1.alloc (.cells (cellsV ({ a0 with bal := 0, st := 6 } : Val)) 28)) w.heap.size a0) := Lib.hid (old_vb V_0.out n1)
    clear V_0
    have X_1 : Hid (VB (w1.alloc (.cells (cellsV ({ a0 with bal := 0, st := 6 } : Val)) 28)) w1.heap.size ({ a0 with bal := 0, st := 6 } : Val)) := Lib.hid (Blk.new _ _ _)
    clear b1 n1
    go_wp2_with (first | (refine wpList_store_row rfl _ _ _ rfl w1.heap.size (cellsV ({ a0 with bal := 0, st := 6 } : Val)) rfl rfl 28 _ (heap_alloc_new w1 _) infoV rfl (cellsV_one _) ?_; rw [World.setRow_alloc_new]) | (refine wpList_load_row rfl 28 _ rfl w.heap.size rfl 28 _ (0, 0) _ V_1.out Try.underlying28 rfl infoV ?_) | (refine wpList_load_row rfl 28 _ rfl w1.heap.size rfl 28 _ (0, 0) _ X_1.out Try.underlying28 rfl infoV ?_))
    refine (HB.out _).mono ?_
    rintro o w2 ⟨rfl, b2⟩
    have n2 : Below (w1.alloc (.cells (cellsV ({ a0 with bal := 0, st := 6 } : Val)) 28)).heap.size (w1.alloc (.cells (cellsV ({ a0 with bal := 0, st := 6 } : Val)) 28)) (w2.alloc (.cells (cellsV ({ a0 with bal := 0, st := 6 } : Val)) 28)) := below_put b2 _
    have B2 := Lib.hid (B1.out.trans (n2.mono B1.out.size))
    clear B1
    have V_2 : Hid (VB (w2.alloc (.cells (cellsV ({ a0 with bal := 0, st := 6 } : Val)) 28)) w.heap.size a0) := Lib.hid (old_vb V_1.out n2)
    clear V_1
    have X_2 : Hid (VB (w2.alloc (.cells (cellsV ({ a0 with bal := 0, st := 6 } : Val)) 28)) w1.heap.size ({ a0 with bal := 0, st := 6 } : Val)) := Lib.hid (old_vb X_1.out n2)
    clear X_1
    have Y_2 : Hid (VB (w2.alloc (.cells (cellsV ({ a0 with bal := 0, st := 6 } : Val)) 28)) w2.heap.size ({ a0 with bal := 0, st := 6 } : Val)) := Lib.hid (Blk.new _ _ _)
    clear b2 n2
    go_wp2_with (first | (refine wpList_store_row rfl _ _ _ rfl w2.heap.size (cellsV ({ a0 with bal := 0, st := 6 } : Val)) rfl rfl 28 _ (heap_alloc_new w2 _) infoV rfl (cellsV_one _) ?_; rw [World.setRow_alloc_new]) | (refine wpList_load_row rfl 28 _ rfl w.heap.size rfl 28 _ (0, 0) _ V_2.out Try.underlying28 rfl infoV ?_) | (refine wpList_load_row rfl 28 _ rfl w1.heap.size rfl 28 _ (0, 0) _ X_2.out Try.underlying28 rfl infoV ?_) | (refine wpList_load_row rfl 28 _ rfl w2.heap.size rfl 28 _ (0, 0) _ Y_2.out Try.underlying28 rfl infoV ?_))
    refine (HV.out _).mono ?_
    rintro o w3 ⟨rfl, b3⟩
    have n3 := b3
    have B3 := Lib.hid (B2.out.trans (n3.mono B2.out.size))
    clear B2
    have V_3 : Hid (VB w3 w.heap.size a0) := Lib.hid (old_vb V_2.out n3)
    clear V_2
    have X_3 : Hid (VB w3 w1.heap.size ({ a0 with bal := 0, st := 6 } : Val)) := Lib.hid (old_vb X_2.out n3)
    clear X_2
    have Y_3 : Hid (VB w3 w2.heap.size ({ a0 with bal := 0, st := 6 } : Val)) := Lib.hid (old_vb Y_2.out n3)
    clear Y_2
    clear b3 n3
    have x0 : w3.cell? ⟨w1.heap.size, 0, none⟩ = some (.int .u64 0) := Blk.cell X_3.out 0
    have v0 : w3.cell? ⟨w.heap.size, 0, none⟩ = some (.int .u64 a0.bal) := Blk.cell V_3.out 0
    have v1 : w3.cell? ⟨w.heap.size, 1, none⟩ = some (.int .i64 a0.st) := Blk.cell V_3.out 1
    have v5 : w3.cell? ⟨w.heap.size, 5, none⟩ = some (.int .i64 a0.wd) := Blk.cell V_3.out 5
    go_wp2
    go_ret
    exact ⟨rfl, B3.out⟩
  · rw [settle_bad h] at HA HB
    have e1 := fun w => same_val val0 w
    clear h w0 w1
    go_enter Try.func6, Try.ntmps6
    go_upto_region 1 with (fail)
    generalize w.alloc (.cells (cellsV a0) 28) = W at *
    go_wp2_with (first | (refine wpList_load_row rfl 28 _ rfl w.heap.size rfl 28 _ (0, 0) _ V_0.out Try.underlying28 rfl infoV ?_))
    refine (HA.out _).mono ?_
    rintro o w1 ⟨rfl, b1⟩
    have n1 : Below W.heap.size W (w1.alloc (.cells (cellsV val0) 28)) := below_put b1 _
    have B1 := Lib.hid (B0.out.trans (n1.mono B0.out.size))
    clear B0
    have V_1 : Hid (VB (w1.alloc (.cells (cellsV val0) 28)) w.heap.size a0) := Lib.hid (old_vb V_0.out n1)
    clear V_0
    have X_1 : Hid (VB (w1.alloc (.cells (cellsV val0) 28)) w1.heap.size val0) := Lib.hid (Blk.new _ _ _)
    clear b1 n1
    go_wp2_with (first | (refine wpList_store_row rfl _ _ _ rfl w1.heap.size (cellsV val0) rfl rfl 28 _ (heap_alloc_new w1 _) infoV rfl (cellsV_one _) ?_; rw [World.setRow_alloc_new]) | (refine wpList_load_row rfl 28 _ rfl w.heap.size rfl 28 _ (0, 0) _ V_1.out Try.underlying28 rfl infoV ?_) | (refine wpList_load_row rfl 28 _ rfl w1.heap.size rfl 28 _ (0, 0) _ X_1.out Try.underlying28 rfl infoV ?_))
    refine (HB.out _).mono ?_
    rintro o w2 ⟨rfl, b2⟩
    have n2 : Below (w1.alloc (.cells (cellsV val0) 28)).heap.size (w1.alloc (.cells (cellsV val0) 28)) (w2.alloc (.cells (cellsV val0) 28)) := below_put b2 _
    have B2 := Lib.hid (B1.out.trans (n2.mono B1.out.size))
    clear B1
    have V_2 : Hid (VB (w2.alloc (.cells (cellsV val0) 28)) w.heap.size a0) := Lib.hid (old_vb V_1.out n2)
    clear V_1
    have X_2 : Hid (VB (w2.alloc (.cells (cellsV val0) 28)) w1.heap.size val0) := Lib.hid (old_vb X_1.out n2)
    clear X_1
    have Y_2 : Hid (VB (w2.alloc (.cells (cellsV val0) 28)) w2.heap.size val0) := Lib.hid (Blk.new _ _ _)
    clear b2 n2
    go_wp2_with (first | (refine wpList_store_row rfl _ _ _ rfl w2.heap.size (cellsV val0) rfl rfl 28 _ (heap_alloc_new w2 _) infoV rfl (cellsV_one _) ?_; rw [World.setRow_alloc_new]) | (refine wpList_load_row rfl 28 _ rfl w.heap.size rfl 28 _ (0, 0) _ V_2.out Try.underlying28 rfl infoV ?_) | (refine wpList_load_row rfl 28 _ rfl w1.heap.size rfl 28 _ (0, 0) _ X_2.out Try.underlying28 rfl infoV ?_) | (refine wpList_load_row rfl 28 _ rfl w2.heap.size rfl 28 _ (0, 0) _ Y_2.out Try.underlying28 rfl infoV ?_))
    refine (HV.out _).mono ?_
    rintro o w3 ⟨rfl, b3⟩
    have n3 := b3
    have B3 := Lib.hid (B2.out.trans (n3.mono B2.out.size))
    clear B2
    have V_3 : Hid (VB w3 w.heap.size a0) := Lib.hid (old_vb V_2.out n3)
    clear V_2
    have X_3 : Hid (VB w3 w1.heap.size val0) := Lib.hid (old_vb X_2.out n3)
    clear X_2
    have Y_3 : Hid (VB w3 w2.heap.size val0) := Lib.hid (old_vb Y_2.out n3)
    clear Y_2
    clear b3 n3
    go_wp2
    go_ret
    exact ⟨rfl, B3.out⟩
end Go.Proofs.Ytfcjgllljejfcaa
