/- The walk of PenaltySlashes (written by mklaws.py). -/
import Derived.Test.YtfcjgllljejfcaaLaw
namespace Go.Proofs.Ytfcjgllljejfcaa
open Go Go.RowKit
set_option linter.unusedVariables false
set_option linter.unusedSimpArgs false
set_option maxRecDepth 100000

set_option maxHeartbeats 3200000 in
theorem slashes_ok (a0 : Val) (a1 : Int) (a2 : Nat → Int) (w : World) (r : Int × Val) (m : Int) (HK : Hid (∀ w, Calls Try.prog 12 #[.agg (cellsOf a2)] w fun e w' => e = .returned (.int .i64 0) ∧ Below w.heap.size w w')) (HA : Hid (∀ w, Calls Try.prog 17 #[.agg (cellsV a0), .int .i64 a1, .agg (cellsOf a2)] w fun o w' => o = .returned (.tuple #[.agg (cellsV r.2), .int .u64 m, .int .i64 r.1]) ∧ Below w.heap.size w w')) (HB : Hid (∀ w, Calls Try.prog 18 #[.agg (cellsV a0), .int .i64 a1, .agg (cellsOf a2)] w fun o w' => o = .returned (.tuple #[.agg (cellsV r.2), .int .u64 m, .int .i64 r.1]) ∧ Below w.heap.size w w')) (q3 : (r.1 != 0) = false) (q4 : IntKind.u64.wrap (r.2.bal + m) = a0.bal) :
    Calls Try.prog 5 #[.agg (cellsV a0), .int .i64 a1, .agg (cellsOf a2)] w fun e w' => e = .returned (.bool true) ∧ Below w.heap.size w w' := by
  have HV := Lib.hid alive_any
  have T0 := Lib.hid (Two.new w a0 a2)
  have e1 := fun w => same_val r.2 w
  have q1 : (r.1 == r.1) = true := by simp
  have q2 : (m == m) = true := by simp
  go_enter Try.func5, Try.ntmps5
  go_upto_region 1 with (fail)
  generalize (w.alloc (.cells (cellsV a0) 28)).alloc (.cells (cellsOf a2) 30) = W at *
  go_wp2_with (first | (refine wpList_load_row rfl 28 _ rfl w.heap.size rfl 28 _ (0, 0) _ T0.out.1 Try.underlying28 rfl infoV ?_) | (refine wpList_load_row rfl 30 _ rfl (w.heap.size + 1) rfl 30 _ (0, 0) _ T0.out.2.1 Try.underlying30 rfl cfg_info ?_))
  refine (HK.out _).mono ?_
  rintro o w1 ⟨rfl, b1⟩
  have n1 := b1
  have T1 := Lib.hid (T0.out.next n1)
  clear T0
  clear b1 n1
  go_wp2_with (first | (refine wpList_load_row rfl 28 _ rfl w.heap.size rfl 28 _ (0, 0) _ T1.out.1 Try.underlying28 rfl infoV ?_) | (refine wpList_load_row rfl 30 _ rfl (w.heap.size + 1) rfl 30 _ (0, 0) _ T1.out.2.1 Try.underlying30 rfl cfg_info ?_))
  refine (HA.out _).mono ?_
  rintro o w2 ⟨rfl, b2⟩
  have n2 : Below w1.heap.size w1 (w2.alloc (.cells (cellsV r.2) 28)) := below_put b2 _
  have T2 := Lib.hid (T1.out.next n2)
  clear T1
  have X_2 : Hid (VB (w2.alloc (.cells (cellsV r.2) 28)) w2.heap.size r.2) := Lib.hid (Blk.new _ _ _)
  clear b2 n2
  go_wp2_with (first | (refine wpList_store_row rfl _ _ _ rfl w2.heap.size (cellsV r.2) rfl rfl 28 _ (heap_alloc_new w2 _) infoV rfl (cellsV_one _) ?_; rw [World.setRow_alloc_new]) | (refine wpList_load_row rfl 28 _ rfl w.heap.size rfl 28 _ (0, 0) _ T2.out.1 Try.underlying28 rfl infoV ?_) | (refine wpList_load_row rfl 30 _ rfl (w.heap.size + 1) rfl 30 _ (0, 0) _ T2.out.2.1 Try.underlying30 rfl cfg_info ?_) | (refine wpList_load_row rfl 28 _ rfl w2.heap.size rfl 28 _ (0, 0) _ X_2.out Try.underlying28 rfl infoV ?_))
  refine (HB.out _).mono ?_
  rintro o w3 ⟨rfl, b3⟩
  have n3 : Below (w2.alloc (.cells (cellsV r.2) 28)).heap.size (w2.alloc (.cells (cellsV r.2) 28)) (w3.alloc (.cells (cellsV r.2) 28)) := below_put b3 _
  have T3 := Lib.hid (T2.out.next n3)
  clear T2
  have X_3 : Hid (VB (w3.alloc (.cells (cellsV r.2) 28)) w2.heap.size r.2) := Lib.hid (old_vb X_2.out n3)
  clear X_2
  have Y_3 : Hid (VB (w3.alloc (.cells (cellsV r.2) 28)) w3.heap.size r.2) := Lib.hid (Blk.new _ _ _)
  clear b3 n3
  go_wp2_with (first | (refine wpList_store_row rfl _ _ _ rfl w3.heap.size (cellsV r.2) rfl rfl 28 _ (heap_alloc_new w3 _) infoV rfl (cellsV_one _) ?_; rw [World.setRow_alloc_new]) | (refine wpList_load_row rfl 28 _ rfl w.heap.size rfl 28 _ (0, 0) _ T3.out.1 Try.underlying28 rfl infoV ?_) | (refine wpList_load_row rfl 30 _ rfl (w.heap.size + 1) rfl 30 _ (0, 0) _ T3.out.2.1 Try.underlying30 rfl cfg_info ?_) | (refine wpList_load_row rfl 28 _ rfl w2.heap.size rfl 28 _ (0, 0) _ X_3.out Try.underlying28 rfl infoV ?_) | (refine wpList_load_row rfl 28 _ rfl w3.heap.size rfl 28 _ (0, 0) _ Y_3.out Try.underlying28 rfl infoV ?_))
  refine (HV.out _).mono ?_
  rintro o w4 ⟨rfl, b4⟩
  have n4 := b4
  have T4 := Lib.hid (T3.out.next n4)
  clear T3
  have X_4 : Hid (VB w4 w2.heap.size r.2) := Lib.hid (old_vb X_3.out n4)
  clear X_3
  have Y_4 : Hid (VB w4 w3.heap.size r.2) := Lib.hid (old_vb Y_3.out n4)
  clear Y_3
  clear b4 n4
  have x0 : w4.cell? ⟨w2.heap.size, 0, none⟩ = some (.int .u64 r.2.bal) := Blk.cell X_4.out 0
  have v0 : w4.cell? ⟨w.heap.size, 0, none⟩ = some (.int .u64 a0.bal) := Blk.cell T4.out.1 0
  go_wp2_with (first | (go_skip) | (refine isload 28 _ (by with_reducible rfl) ?_; refine wpList_load_rowH 28 _ rfl w.heap.size rfl rfl 28 (cellsV a0) (0, 0) _ T4.out.1 Try.underlying28 rfl infoV ?_) | (refine isload 30 _ (by with_reducible rfl) ?_; refine wpList_load_rowH 30 _ rfl (w.heap.size + 1) rfl rfl 30 (cellsOf a2) (0, 0) _ T4.out.2.1 Try.underlying30 rfl cfg_info ?_) | (refine isload 28 _ (by with_reducible rfl) ?_; refine wpList_load_rowH 28 _ rfl w2.heap.size rfl rfl 28 (cellsV r.2) (0, 0) _ X_4.out Try.underlying28 rfl infoV ?_) | (refine isload 28 _ (by with_reducible rfl) ?_; refine wpList_load_rowH 28 _ rfl w3.heap.size rfl rfl 28 (cellsV r.2) (0, 0) _ Y_4.out Try.underlying28 rfl infoV ?_))
  go_ret
  exact ⟨rfl, T4.out.2.2⟩
set_option maxHeartbeats 3200000 in
theorem slashes_err (a0 : Val) (a1 : Int) (a2 : Nat → Int) (w : World) (r : Int × Val) (m : Int) (HK : Hid (∀ w, Calls Try.prog 12 #[.agg (cellsOf a2)] w fun e w' => e = .returned (.int .i64 0) ∧ Below w.heap.size w w')) (HA : Hid (∀ w, Calls Try.prog 17 #[.agg (cellsV a0), .int .i64 a1, .agg (cellsOf a2)] w fun o w' => o = .returned (.tuple #[.agg (cellsV r.2), .int .u64 m, .int .i64 r.1]) ∧ Below w.heap.size w w')) (HB : Hid (∀ w, Calls Try.prog 18 #[.agg (cellsV a0), .int .i64 a1, .agg (cellsOf a2)] w fun o w' => o = .returned (.tuple #[.agg (cellsV r.2), .int .u64 m, .int .i64 r.1]) ∧ Below w.heap.size w w')) (q3 : (r.1 != 0) = true) :
    Calls Try.prog 5 #[.agg (cellsV a0), .int .i64 a1, .agg (cellsOf a2)] w fun e w' => e = .returned (.bool true) ∧ Below w.heap.size w w' := by
  have HV := Lib.hid alive_any
  have T0 := Lib.hid (Two.new w a0 a2)
  have e1 := fun w => same_val r.2 w
  have q1 : (r.1 == r.1) = true := by simp
  have q2 : (m == m) = true := by simp
  go_enter Try.func5, Try.ntmps5
  go_upto_region 1 with (fail)
  generalize (w.alloc (.cells (cellsV a0) 28)).alloc (.cells (cellsOf a2) 30) = W at *
  go_wp2_with (first | (refine wpList_load_row rfl 28 _ rfl w.heap.size rfl 28 _ (0, 0) _ T0.out.1 Try.underlying28 rfl infoV ?_) | (refine wpList_load_row rfl 30 _ rfl (w.heap.size + 1) rfl 30 _ (0, 0) _ T0.out.2.1 Try.underlying30 rfl cfg_info ?_))
  refine (HK.out _).mono ?_
  rintro o w1 ⟨rfl, b1⟩
  have n1 := b1
  have T1 := Lib.hid (T0.out.next n1)
  clear T0
  clear b1 n1
  go_wp2_with (first | (refine wpList_load_row rfl 28 _ rfl w.heap.size rfl 28 _ (0, 0) _ T1.out.1 Try.underlying28 rfl infoV ?_) | (refine wpList_load_row rfl 30 _ rfl (w.heap.size + 1) rfl 30 _ (0, 0) _ T1.out.2.1 Try.underlying30 rfl cfg_info ?_))
  refine (HA.out _).mono ?_
  rintro o w2 ⟨rfl, b2⟩
  have n2 : Below w1.heap.size w1 (w2.alloc (.cells (cellsV r.2) 28)) := below_put b2 _
  have T2 := Lib.hid (T1.out.next n2)
  clear T1
  have X_2 : Hid (VB (w2.alloc (.cells (cellsV r.2) 28)) w2.heap.size r.2) := Lib.hid (Blk.new _ _ _)
  clear b2 n2
  go_wp2_with (first | (refine wpList_store_row rfl _ _ _ rfl w2.heap.size (cellsV r.2) rfl rfl 28 _ (heap_alloc_new w2 _) infoV rfl (cellsV_one _) ?_; rw [World.setRow_alloc_new]) | (refine wpList_load_row rfl 28 _ rfl w.heap.size rfl 28 _ (0, 0) _ T2.out.1 Try.underlying28 rfl infoV ?_) | (refine wpList_load_row rfl 30 _ rfl (w.heap.size + 1) rfl 30 _ (0, 0) _ T2.out.2.1 Try.underlying30 rfl cfg_info ?_) | (refine wpList_load_row rfl 28 _ rfl w2.heap.size rfl 28 _ (0, 0) _ X_2.out Try.underlying28 rfl infoV ?_))
  refine (HB.out _).mono ?_
  rintro o w3 ⟨rfl, b3⟩
  have n3 : Below (w2.alloc (.cells (cellsV r.2) 28)).heap.size (w2.alloc (.cells (cellsV r.2) 28)) (w3.alloc (.cells (cellsV r.2) 28)) := below_put b3 _
  have T3 := Lib.hid (T2.out.next n3)
  clear T2
  have X_3 : Hid (VB (w3.alloc (.cells (cellsV r.2) 28)) w2.heap.size r.2) := Lib.hid (old_vb X_2.out n3)
  clear X_2
  have Y_3 : Hid (VB (w3.alloc (.cells (cellsV r.2) 28)) w3.heap.size r.2) := Lib.hid (Blk.new _ _ _)
  clear b3 n3
  go_wp2_with (first | (refine wpList_store_row rfl _ _ _ rfl w3.heap.size (cellsV r.2) rfl rfl 28 _ (heap_alloc_new w3 _) infoV rfl (cellsV_one _) ?_; rw [World.setRow_alloc_new]) | (refine wpList_load_row rfl 28 _ rfl w.heap.size rfl 28 _ (0, 0) _ T3.out.1 Try.underlying28 rfl infoV ?_) | (refine wpList_load_row rfl 30 _ rfl (w.heap.size + 1) rfl 30 _ (0, 0) _ T3.out.2.1 Try.underlying30 rfl cfg_info ?_) | (refine wpList_load_row rfl 28 _ rfl w2.heap.size rfl 28 _ (0, 0) _ X_3.out Try.underlying28 rfl infoV ?_) | (refine wpList_load_row rfl 28 _ rfl w3.heap.size rfl 28 _ (0, 0) _ Y_3.out Try.underlying28 rfl infoV ?_))
  refine (HV.out _).mono ?_
  rintro o w4 ⟨rfl, b4⟩
  have n4 := b4
  have T4 := Lib.hid (T3.out.next n4)
  clear T3
  have X_4 : Hid (VB w4 w2.heap.size r.2) := Lib.hid (old_vb X_3.out n4)
  clear X_3
  have Y_4 : Hid (VB w4 w3.heap.size r.2) := Lib.hid (old_vb Y_3.out n4)
  clear Y_3
  clear b4 n4
  go_wp2_with (first | (go_skip) | (refine isload 28 _ (by with_reducible rfl) ?_; refine wpList_load_rowH 28 _ rfl w.heap.size rfl rfl 28 (cellsV a0) (0, 0) _ T4.out.1 Try.underlying28 rfl infoV ?_) | (refine isload 30 _ (by with_reducible rfl) ?_; refine wpList_load_rowH 30 _ rfl (w.heap.size + 1) rfl rfl 30 (cellsOf a2) (0, 0) _ T4.out.2.1 Try.underlying30 rfl cfg_info ?_) | (refine isload 28 _ (by with_reducible rfl) ?_; refine wpList_load_rowH 28 _ rfl w2.heap.size rfl rfl 28 (cellsV r.2) (0, 0) _ X_4.out Try.underlying28 rfl infoV ?_) | (refine isload 28 _ (by with_reducible rfl) ?_; refine wpList_load_rowH 28 _ rfl w3.heap.size rfl rfl 28 (cellsV r.2) (0, 0) _ Y_4.out Try.underlying28 rfl infoV ?_))
  go_ret
  exact ⟨rfl, T4.out.2.2⟩
set_option maxHeartbeats 1600000 in
theorem walk_PenaltySlashes (a0 : Val) (a1 : Int) (a2 : Nat → Int) (w : World) (w0 : FitsV a0) (w1 : (Lit.int .i64 a1).wf = true) (w2 : Fits a2) :
    Calls Try.prog 5 #[.agg (cellsV a0), .int .i64 a1, .agg (cellsOf a2)] w fun e w' => e = .returned (.bool true) ∧ Below w.heap.size w w' := by
  have HK := Lib.hid (refCheck_any a2)
  have HV := Lib.hid alive_any
  have T0 := Lib.hid (Two.new w a0 a2)
  by_cases hc : chk a2 = 0
  · have G := good_of_chk w2 hc
    rw [hc] at HK
    have HA := Lib.hid (slash_lit a1 w0 G)
    have HB := Lib.hid (refslash_lit a1 w0 G)
    have hs := slash_bal (v := a0) a1 a2
    have hb := w0.bal
    by_cases h0 : (slR a0 a1 a2).1 = 0
    · exact slashes_ok a0 a1 a2 w _ _ HK HA HB (by simpa using h0) (by rw [hs h0]; exact IntWalk.u64_in _ (by omega))
    · exact slashes_err a0 a1 a2 w _ _ HK HA HB (by simpa using h0)
  · have hn : (chk a2 != 0) = true := by simpa using hc
    generalize chk a2 = x at *
    clear w0 w1 w2 hc
    go_enter Try.func5, Try.ntmps5
    go_upto_region 1 with (fail)
    generalize (w.alloc (.cells (cellsV a0) 28)).alloc (.cells (cellsOf a2) 30) = W at *
    go_wp2_with (first | (refine wpList_load_row rfl 28 _ rfl w.heap.size rfl 28 _ (0, 0) _ T0.out.1 Try.underlying28 rfl infoV ?_) | (refine wpList_load_row rfl 30 _ rfl (w.heap.size + 1) rfl 30 _ (0, 0) _ T0.out.2.1 Try.underlying30 rfl cfg_info ?_))
    refine (HK.out _).mono ?_
    rintro o w1 ⟨rfl, b1⟩
    have n1 := b1
    have T1 := Lib.hid (T0.out.next n1)
    clear T0
    clear b1 n1
    go_wp2_with (first | (refine wpList_load_row rfl 28 _ rfl w.heap.size rfl 28 _ (0, 0) _ T1.out.1 Try.underlying28 rfl infoV ?_) | (refine wpList_load_row rfl 30 _ rfl (w.heap.size + 1) rfl 30 _ (0, 0) _ T1.out.2.1 Try.underlying30 rfl cfg_info ?_))
    refine (HV.out _).mono ?_
    rintro o w2 ⟨rfl, b2⟩
    have n2 := b2
    have T2 := Lib.hid (T1.out.next n2)
    clear T1
    clear b2 n2
    go_wp2
    go_ret
    exact ⟨rfl, T2.out.2.2⟩
end Go.Proofs.Ytfcjgllljejfcaa
