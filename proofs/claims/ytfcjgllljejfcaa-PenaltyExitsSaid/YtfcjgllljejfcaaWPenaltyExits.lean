/- The walk of PenaltyExits (written by mklaws.py). -/
import Derived.Test.YtfcjgllljejfcaaLaw
namespace Go.Proofs.Ytfcjgllljejfcaa
open Go Go.RowKit
set_option linter.unusedVariables false
set_option linter.unusedSimpArgs false
set_option maxRecDepth 100000

set_option maxHeartbeats 1600000 in
theorem walk_PenaltyExits (a0 : Val) (a1 : Int) (a2 : Nat → Int) (w : World) (w0 : FitsV a0) (w1 : (Lit.int .i64 a1).wf = true) (w2 : Fits a2) :
    Calls Try.prog 4 #[.agg (cellsV a0), .int .i64 a1, .agg (cellsOf a2)] w fun e w' => e = .returned (.bool true) ∧ Below w.heap.size w w' := by
  have HK := Lib.hid (refCheck_any a2)
  have HV := Lib.hid alive_any
  have T0 := Lib.hid (Two.new w a0 a2)
  by_cases hc : chk a2 = 0
  · have G := good_of_chk w2 hc
    rw [hc] at HK
    have HA := Lib.hid (accept_lit a0 a1 w0.2)
    have HB := Lib.hid (assign_lit a0 a1 w0.2 G)
    have HC := Lib.hid (refaccept_lit a0 a1 w0.2)
    have HD := Lib.hid (refassign_lit a0 a1 G)
    generalize runE [requestE a1, passE 2] a0 = r1 at *
    generalize runE [scheduleE a1, holdE a1 (a2 10)] a0 = r2 at *
    have e1 := fun w => same_val r1.2 w
    have e2 := fun w => same_val r2.2 w
    have q1 : (r1.1 == r1.1) = true := by simp
    have q2 : (r2.1 == r2.1) = true := by simp
    clear w0 w1 w2 hc G
    go_enter Try.func4, Try.ntmps4
    go_upto_region 1 with (fail)
    generalize (w.alloc (.cells (cellsV a0) 28)).alloc (.cells (cellsOf a2) 30) = W at *
    go_wp2_with (first | (refine wpList_load_row rfl 28 _ rfl w.heap.size rfl 28 _ (0, 0) _ T0.out.1 Try.underlying28 rfl infoV ?_) | (refine wpList_load_row rfl 30 _ rfl (w.heap.size + 1) rfl 30 _ (0, 0) _ T0.out.2.1 Try.underlying30 rfl cfg_info ?_))
    refine (HK.out _).mono ?_
    rintro o w1 ⟨rfl, b1⟩
    have n1 := b1
    have T1 := Lib.hid (T0.out.next n1)
    clear T0
    clear b1 n1
    go_wp2_with (first | (refine wpList_load_row rfl 28 _ rfl w.heap.size rfl 28 _ (0, 0) _ T1.out.1 Try.underlying28 rfl infoV ?_) | (refine wpList_load_row rfl 30 _ rfl (w.heap.size + 1) rfl 30 _ (0, 0) _ T1.out.2.1 Try.underlying30 rfl cfg_info ?_))
    refine (HA.out _).mono ?_
    rintro o w2 ⟨rfl, b2⟩
    have n2 : Below w1.heap.size w1 (w2.alloc (.cells (cellsV r1.2) 28)) := below_put b2 _
    have T2 := Lib.hid (T1.out.next n2)
    clear T1
    have X_2 : Hid (VB (w2.alloc (.cells (cellsV r1.2) 28)) w2.heap.size r1.2) := Lib.hid (Blk.new _ _ _)
    clear b2 n2
    go_wp2_with (first | (refine wpList_store_row rfl _ _ _ rfl w2.heap.size (cellsV r1.2) rfl rfl 28 _ (heap_alloc_new w2 _) infoV rfl (cellsV_one _) ?_; rw [World.setRow_alloc_new]) | (refine wpList_load_row rfl 28 _ rfl w.heap.size rfl 28 _ (0, 0) _ T2.out.1 Try.underlying28 rfl infoV ?_) | (refine wpList_load_row rfl 30 _ rfl (w.heap.size + 1) rfl 30 _ (0, 0) _ T2.out.2.1 Try.underlying30 rfl cfg_info ?_) | (refine wpList_load_row rfl 28 _ rfl w2.heap.size rfl 28 _ (0, 0) _ X_2.out Try.underlying28 rfl infoV ?_))
    refine (HB.out _).mono ?_
    rintro o w3 ⟨rfl, b3⟩
    have n3 : Below (w2.alloc (.cells (cellsV r1.2) 28)).heap.size (w2.alloc (.cells (cellsV r1.2) 28)) (w3.alloc (.cells (cellsV r2.2) 28)) := below_put b3 _
    have T3 := Lib.hid (T2.out.next n3)
    clear T2
    have X_3 : Hid (VB (w3.alloc (.cells (cellsV r2.2) 28)) w2.heap.size r1.2) := Lib.hid (old_vb X_2.out n3)
    clear X_2
    have Y_3 : Hid (VB (w3.alloc (.cells (cellsV r2.2) 28)) w3.heap.size r2.2) := Lib.hid (Blk.new _ _ _)
    clear b3 n3
    go_wp2_with (first | (refine wpList_store_row rfl _ _ _ rfl w3.heap.size (cellsV r2.2) rfl rfl 28 _ (heap_alloc_new w3 _) infoV rfl (cellsV_one _) ?_; rw [World.setRow_alloc_new]) | (refine wpList_load_row rfl 28 _ rfl w.heap.size rfl 28 _ (0, 0) _ T3.out.1 Try.underlying28 rfl infoV ?_) | (refine wpList_load_row rfl 30 _ rfl (w.heap.size + 1) rfl 30 _ (0, 0) _ T3.out.2.1 Try.underlying30 rfl cfg_info ?_) | (refine wpList_load_row rfl 28 _ rfl w2.heap.size rfl 28 _ (0, 0) _ X_3.out Try.underlying28 rfl infoV ?_) | (refine wpList_load_row rfl 28 _ rfl w3.heap.size rfl 28 _ (0, 0) _ Y_3.out Try.underlying28 rfl infoV ?_))
    refine (HC.out _).mono ?_
    rintro o w4 ⟨rfl, b4⟩
    have n4 : Below (w3.alloc (.cells (cellsV r2.2) 28)).heap.size (w3.alloc (.cells (cellsV r2.2) 28)) (w4.alloc (.cells (cellsV r1.2) 28)) := below_put b4 _
    have T4 := Lib.hid (T3.out.next n4)
    clear T3
    have X_4 : Hid (VB (w4.alloc (.cells (cellsV r1.2) 28)) w2.heap.size r1.2) := Lib.hid (old_vb X_3.out n4)
    clear X_3
    have Y_4 : Hid (VB (w4.alloc (.cells (cellsV r1.2) 28)) w3.heap.size r2.2) := Lib.hid (old_vb Y_3.out n4)
    clear Y_3
    have Z_4 : Hid (VB (w4.alloc (.cells (cellsV r1.2) 28)) w4.heap.size r1.2) := Lib.hid (Blk.new _ _ _)
    clear b4 n4
    go_wp2_with (first | (refine wpList_store_row rfl _ _ _ rfl w4.heap.size (cellsV r1.2) rfl rfl 28 _ (heap_alloc_new w4 _) infoV rfl (cellsV_one _) ?_; rw [World.setRow_alloc_new]) | (refine wpList_load_row rfl 28 _ rfl w.heap.size rfl 28 _ (0, 0) _ T4.out.1 Try.underlying28 rfl infoV ?_) | (refine wpList_load_row rfl 30 _ rfl (w.heap.size + 1) rfl 30 _ (0, 0) _ T4.out.2.1 Try.underlying30 rfl cfg_info ?_) | (refine wpList_load_row rfl 28 _ rfl w2.heap.size rfl 28 _ (0, 0) _ X_4.out Try.underlying28 rfl infoV ?_) | (refine wpList_load_row rfl 28 _ rfl w3.heap.size rfl 28 _ (0, 0) _ Y_4.out Try.underlying28 rfl infoV ?_) | (refine wpList_load_row rfl 28 _ rfl w4.heap.size rfl 28 _ (0, 0) _ Z_4.out Try.underlying28 rfl infoV ?_))
    refine (HD.out _).mono ?_
    rintro o w5 ⟨rfl, b5⟩
    have n5 : Below (w4.alloc (.cells (cellsV r1.2) 28)).heap.size (w4.alloc (.cells (cellsV r1.2) 28)) (w5.alloc (.cells (cellsV r2.2) 28)) := below_put b5 _
    have T5 := Lib.hid (T4.out.next n5)
    clear T4
    have X_5 : Hid (VB (w5.alloc (.cells (cellsV r2.2) 28)) w2.heap.size r1.2) := Lib.hid (old_vb X_4.out n5)
    clear X_4
    have Y_5 : Hid (VB (w5.alloc (.cells (cellsV r2.2) 28)) w3.heap.size r2.2) := Lib.hid (old_vb Y_4.out n5)
    clear Y_4
    have Z_5 : Hid (VB (w5.alloc (.cells (cellsV r2.2) 28)) w4.heap.size r1.2) := Lib.hid (old_vb Z_4.out n5)
    clear Z_4
    have U_5 : Hid (VB (w5.alloc (.cells (cellsV r2.2) 28)) w5.heap.size r2.2) := Lib.hid (Blk.new _ _ _)
    clear b5 n5
    go_wp2_with (first | (refine wpList_store_row rfl _ _ _ rfl w5.heap.size (cellsV r2.2) rfl rfl 28 _ (heap_alloc_new w5 _) infoV rfl (cellsV_one _) ?_; rw [World.setRow_alloc_new]) | (refine wpList_load_row rfl 28 _ rfl w.heap.size rfl 28 _ (0, 0) _ T5.out.1 Try.underlying28 rfl infoV ?_) | (refine wpList_load_row rfl 30 _ rfl (w.heap.size + 1) rfl 30 _ (0, 0) _ T5.out.2.1 Try.underlying30 rfl cfg_info ?_) | (refine wpList_load_row rfl 28 _ rfl w2.heap.size rfl 28 _ (0, 0) _ X_5.out Try.underlying28 rfl infoV ?_) | (refine wpList_load_row rfl 28 _ rfl w3.heap.size rfl 28 _ (0, 0) _ Y_5.out Try.underlying28 rfl infoV ?_) | (refine wpList_load_row rfl 28 _ rfl w4.heap.size rfl 28 _ (0, 0) _ Z_5.out Try.underlying28 rfl infoV ?_) | (refine wpList_load_row rfl 28 _ rfl w5.heap.size rfl 28 _ (0, 0) _ U_5.out Try.underlying28 rfl infoV ?_))
    refine (HV.out _).mono ?_
    rintro o w6 ⟨rfl, b6⟩
    have n6 := b6
    have T6 := Lib.hid (T5.out.next n6)
    clear T5
    have X_6 : Hid (VB w6 w2.heap.size r1.2) := Lib.hid (old_vb X_5.out n6)
    clear X_5
    have Y_6 : Hid (VB w6 w3.heap.size r2.2) := Lib.hid (old_vb Y_5.out n6)
    clear Y_5
    have Z_6 : Hid (VB w6 w4.heap.size r1.2) := Lib.hid (old_vb Z_5.out n6)
    clear Z_5
    have U_6 : Hid (VB w6 w5.heap.size r2.2) := Lib.hid (old_vb U_5.out n6)
    clear U_5
    clear b6 n6
    go_wp2_with (first | (go_skip) | (refine isload 28 _ (by with_reducible rfl) ?_; refine wpList_load_rowH 28 _ rfl w.heap.size rfl rfl 28 (cellsV a0) (0, 0) _ T6.out.1 Try.underlying28 rfl infoV ?_) | (refine isload 30 _ (by with_reducible rfl) ?_; refine wpList_load_rowH 30 _ rfl (w.heap.size + 1) rfl rfl 30 (cellsOf a2) (0, 0) _ T6.out.2.1 Try.underlying30 rfl cfg_info ?_) | (refine isload 28 _ (by with_reducible rfl) ?_; refine wpList_load_rowH 28 _ rfl w2.heap.size rfl rfl 28 (cellsV r1.2) (0, 0) _ X_6.out Try.underlying28 rfl infoV ?_) | (refine isload 28 _ (by with_reducible rfl) ?_; refine wpList_load_rowH 28 _ rfl w3.heap.size rfl rfl 28 (cellsV r2.2) (0, 0) _ Y_6.out Try.underlying28 rfl infoV ?_) | (refine isload 28 _ (by with_reducible rfl) ?_; refine wpList_load_rowH 28 _ rfl w4.heap.size rfl rfl 28 (cellsV r1.2) (0, 0) _ Z_6.out Try.underlying28 rfl infoV ?_) | (refine isload 28 _ (by with_reducible rfl) ?_; refine wpList_load_rowH 28 _ rfl w5.heap.size rfl rfl 28 (cellsV r2.2) (0, 0) _ U_6.out Try.underlying28 rfl infoV ?_))
    go_ret
    exact ⟨rfl, T6.out.2.2⟩
  · have hn : (chk a2 != 0) = true := by simpa using hc
    generalize chk a2 = x at *
    clear w0 w1 w2 hc
    go_enter Try.func4, Try.ntmps4
    go_upto_region 1 with (fail)
    generalize (w.alloc (.cells (cellsV a0) 28)).alloc (.cells (cellsOf a2) 30) = W at *
    go_wp2_with (first | (refine wpList_load_row rfl 28 _ rfl w.heap.size rfl 28 _ (0, 0) _ T0.out.1 Try.underlying28 rfl infoV ?_) | (refine wpList_load_row rfl 30 _ rfl (w.heap.size + 1) rfl 30 _ (0, 0) _ T0.out.2.1 Try.underlying30 rfl cfg_info ?_))
    refine (HK.out _).mono ?_
    rintro o w1 ⟨rfl, b1⟩
    have n1 := b1
    have T1 := Lib.hid (T0.out.next n1)
    clear T0
    clear b1 n1
    go_wp2_with (first | (refine wpList_load_row rfl 28 _ rfl w.heap.size rfl 28 _ (0, 0) _ T1.out.1 Try.underlying28 rfl infoV ?_) | (refine wpList_load_row rfl 30 _ rfl (w.heap.size + 1) rfl 30 _ (0, 0) _ T1.out.2.1 Try.underlying30 rfl cfg_info ?_))
    refine (HV.out _).mono ?_
    rintro o w2 ⟨rfl, b2⟩
    have n2 := b2
    have T2 := Lib.hid (T1.out.next n2)
    clear T1
    clear b2 n2
    go_wp2
    go_ret
    exact ⟨rfl, T2.out.2.2⟩
end Go.Proofs.Ytfcjgllljejfcaa
