/- The walk of PenaltyTwice (written by mklaws.py). -/
import Derived.Test.YtfcjgllljejfcaaLaw
import Derived.Deep.DeepCutAuto
namespace Go.Proofs.Ytfcjgllljejfcaa
open Go Go.RowKit
set_option linter.unusedVariables false
set_option linter.unusedSimpArgs false
set_option maxRecDepth 100000

set_option maxHeartbeats 1600000 in
theorem walk_PenaltyTwice (a0 : Val) (a1 : Int) (a2 : Nat → Int) (w : World) (w0 : FitsV a0) (w1 : (Lit.int .i64 a1).wf = true) (w2 : Fits a2) :
    Calls Try.prog 7 #[.agg (cellsV a0), .int .i64 a1, .agg (cellsOf a2)] w fun e w' => e = .returned (.bool true) ∧ Below w.heap.size w w' := by
  have HK := Lib.hid (refCheck_any a2)
  have HV := Lib.hid alive_any
  have T0 := Lib.hid (Two.new w a0 a2)
  by_cases hc : chk a2 = 0
  · have G := good_of_chk w2 hc
    rw [hc] at HK
    have HA := Lib.hid (slash_lit a1 w0 G)
    have HA2 : Hid ((slR a0 a1 a2).1 = 0 → ∃ (y : Val) (n : Int), ∀ w, Calls Try.prog 17 #[.agg (cellsV (slR a0 a1 a2).2), .int .i64 a1, .agg (cellsOf a2)] w fun o w' => o = .returned (.tuple #[.agg (cellsV y), .int .u64 n, .int .i64 9]) ∧ Below w.heap.size w w') := Lib.hid (fun h =>
      ⟨_, _, fun w => by have k := slash_lit a1 (slash_fits w0 h) G w; rw [slash_again a1 a2 h] at k; exact k⟩)
    have HB := Lib.hid (accept_lit a0 a1 w0.2)
    have HB2 : Hid ((runE [requestE a1, passE 2] a0).1 = 0 → ∃ (y : Val), ∀ w, Calls Try.prog 13 #[.agg (cellsV (runE [requestE a1, passE 2] a0).2), .int .i64 a1] w fun o w' => o = .returned (.tuple #[.agg (cellsV y), .int .i64 8]) ∧ Below w.heap.size w w') := Lib.hid (fun h =>
      ⟨_, fun w => by have k := accept_lit _ a1 (accept_again a1 h).2 w; rw [(accept_again a1 h).1] at k; exact k⟩)
    have HC := Lib.hid (assign_lit a0 a1 w0.2 G)
    have HC2 : Hid ((runE [scheduleE a1, holdE a1 (a2 10)] a0).1 = 0 → ∃ (y : Val), ∀ w, Calls Try.prog 14 #[.agg (cellsV (runE [scheduleE a1, holdE a1 (a2 10)] a0).2), .int .i64 a1, .agg (cellsOf a2)] w fun o w' => o = .returned (.tuple #[.agg (cellsV y), .int .i64 8]) ∧ Below w.heap.size w w') := Lib.hid (fun h =>
      ⟨_, fun w => by have k := assign_lit _ a1 (assign_again a1 _ w0.2 h).2 G w; rw [(assign_again a1 _ w0.2 h).1] at k; exact k⟩)
    generalize slN a0 a1 a2 = m at *
    generalize slR a0 a1 a2 = r1 at *
    generalize runE [requestE a1, passE 2] a0 = r2 at *
    generalize runE [scheduleE a1, holdE a1 (a2 10)] a0 = r3 at *
    clear w0 w1 w2 hc G
    go_enter Try.func7, Try.ntmps7
    go_upto_region 1 with (fail)
    generalize (w.alloc (.cells (cellsV a0) 28)).alloc (.cells (cellsOf a2) 30) = W at *
    go_wp2_with (first | (refine wpList_load_row rfl 28 _ rfl w.heap.size rfl 28 _ (0, 0) _ T0.out.1 Try.underlying28 rfl infoV ?_) | (refine wpList_load_row rfl 30 _ rfl (w.heap.size + 1) rfl 30 _ (0, 0) _ T0.out.2.1 Try.underlying30 rfl cfg_info ?_))
    refine (HK.out _).mono ?_
    rintro o w1 ⟨rfl, b1⟩
    have n1 := b1
    have T1 := Lib.hid (T0.out.next n1)
    clear T0
    clear b1 n1
    go_wp2_with (first | (refine wpList_load_row rfl 28 _ rfl w.heap.size rfl 28 _ (0, 0) _ T1.out.1 Try.underlying28 rfl infoV ?_) | (refine wpList_load_row rfl 30 _ rfl (w.heap.size + 1) rfl 30 _ (0, 0) _ T1.out.2.1 Try.underlying30 rfl cfg_info ?_))
    refine (HA.out _).mono ?_
    rintro o w2 ⟨rfl, b2⟩
    have n2 : Below w1.heap.size w1 (w2.alloc (.cells (cellsV r1.2) 28)) := below_put b2 _
    have T2 := Lib.hid (T1.out.next n2)
    clear T1
    have X_2 : Hid (VB (w2.alloc (.cells (cellsV r1.2) 28)) w2.heap.size r1.2) := Lib.hid (Blk.new _ _ _)
    clear b2 n2
    go_upto_if 32 with (refine wpList_store_row rfl _ _ _ rfl w2.heap.size (cellsV r1.2) rfl rfl 28 _ (heap_alloc_new w2 _) infoV rfl (cellsV_one _) ?_; rw [World.setRow_alloc_new])
    go_cut [] (fun wx => Hid (Two w wx a0 a2))
    case first =>
      by_cases h0 : r1.1 = 0
      · have q : (r1.1 == 0) = true := by simpa using h0
        obtain ⟨y, n, hy⟩ := HA2.out h0
        have HY := Lib.hid hy
        clear hy h0
        go_wp2_with (first | (refine wpList_load_row rfl 28 _ rfl w.heap.size rfl 28 _ (0, 0) _ T2.out.1 Try.underlying28 rfl infoV ?_) | (refine wpList_load_row rfl 30 _ rfl (w.heap.size + 1) rfl 30 _ (0, 0) _ T2.out.2.1 Try.underlying30 rfl cfg_info ?_) | (refine wpList_load_row rfl 28 _ rfl w2.heap.size rfl 28 _ (0, 0) _ X_2.out Try.underlying28 rfl infoV ?_))
        refine (HY.out _).mono ?_
        rintro o w3 ⟨rfl, b3⟩
        have n3 : Below (w2.alloc (.cells (cellsV r1.2) 28)).heap.size (w2.alloc (.cells (cellsV r1.2) 28)) (w3.alloc (.cells (cellsV y) 28)) := below_put b3 _
        have T3 := Lib.hid (T2.out.next n3)
        clear T2
        have X_3 : Hid (VB (w3.alloc (.cells (cellsV y) 28)) w2.heap.size r1.2) := Lib.hid (old_vb X_2.out n3)
        clear X_2
        have U_3 : Hid (VB (w3.alloc (.cells (cellsV y) 28)) w3.heap.size y) := Lib.hid (Blk.new _ _ _)
        clear b3 n3
        go_wp2_with (first | (refine wpList_store_row rfl _ _ _ rfl w3.heap.size (cellsV y) rfl rfl 28 _ (heap_alloc_new w3 _) infoV rfl (cellsV_one _) ?_; rw [World.setRow_alloc_new]) | (refine wpList_load_row rfl 28 _ rfl w.heap.size rfl 28 _ (0, 0) _ T3.out.1 Try.underlying28 rfl infoV ?_) | (refine wpList_load_row rfl 30 _ rfl (w.heap.size + 1) rfl 30 _ (0, 0) _ T3.out.2.1 Try.underlying30 rfl cfg_info ?_) | (refine wpList_load_row rfl 28 _ rfl w2.heap.size rfl 28 _ (0, 0) _ X_3.out Try.underlying28 rfl infoV ?_) | (refine wpList_load_row rfl 28 _ rfl w3.heap.size rfl 28 _ (0, 0) _ U_3.out Try.underlying28 rfl infoV ?_))
        go_meet
        exact T3
      · have q : (r1.1 == 0) = false := by simpa using h0
        clear h0
        go_wp2
        go_meet
        exact T2
    case rest =>
      have T2c := hcut
      clear hcut T2 X_2 HA HA2
      go_wp2_with (first | (refine wpList_load_row rfl 28 _ rfl w.heap.size rfl 28 _ (0, 0) _ T2c.out.1 Try.underlying28 rfl infoV ?_) | (refine wpList_load_row rfl 30 _ rfl (w.heap.size + 1) rfl 30 _ (0, 0) _ T2c.out.2.1 Try.underlying30 rfl cfg_info ?_))
      refine (HB.out _).mono ?_
      rintro o w3 ⟨rfl, b3⟩
      have n3 : Below wc.heap.size wc (w3.alloc (.cells (cellsV r2.2) 28)) := below_put b3 _
      have T3 := Lib.hid (T2c.out.next n3)
      clear T2c
      have Y_3 : Hid (VB (w3.alloc (.cells (cellsV r2.2) 28)) w3.heap.size r2.2) := Lib.hid (Blk.new _ _ _)
      clear b3 n3
      go_upto_if 50 with (refine wpList_store_row rfl _ _ _ rfl w3.heap.size (cellsV r2.2) rfl rfl 28 _ (heap_alloc_new w3 _) infoV rfl (cellsV_one _) ?_; rw [World.setRow_alloc_new])
      go_cut [] (fun wx => Hid (Two w wx a0 a2))
      case first =>
        by_cases h0 : r2.1 = 0
        · have q : (r2.1 == 0) = true := by simpa using h0
          obtain ⟨y, hy⟩ := HB2.out h0
          have HY := Lib.hid hy
          clear hy h0
          go_wp2_with (first | (refine wpList_load_row rfl 28 _ rfl w.heap.size rfl 28 _ (0, 0) _ T3.out.1 Try.underlying28 rfl infoV ?_) | (refine wpList_load_row rfl 30 _ rfl (w.heap.size + 1) rfl 30 _ (0, 0) _ T3.out.2.1 Try.underlying30 rfl cfg_info ?_) | (refine wpList_load_row rfl 28 _ rfl w3.heap.size rfl 28 _ (0, 0) _ Y_3.out Try.underlying28 rfl infoV ?_))
          refine (HY.out _).mono ?_
          rintro o w4 ⟨rfl, b4⟩
          have n4 : Below (w3.alloc (.cells (cellsV r2.2) 28)).heap.size (w3.alloc (.cells (cellsV r2.2) 28)) (w4.alloc (.cells (cellsV y) 28)) := below_put b4 _
          have T4 := Lib.hid (T3.out.next n4)
          clear T3
          have Y_4 : Hid (VB (w4.alloc (.cells (cellsV y) 28)) w3.heap.size r2.2) := Lib.hid (old_vb Y_3.out n4)
          clear Y_3
          have U_4 : Hid (VB (w4.alloc (.cells (cellsV y) 28)) w4.heap.size y) := Lib.hid (Blk.new _ _ _)
          clear b4 n4
          go_wp2_with (first | (refine wpList_store_row rfl _ _ _ rfl w4.heap.size (cellsV y) rfl rfl 28 _ (heap_alloc_new w4 _) infoV rfl (cellsV_one _) ?_; rw [World.setRow_alloc_new]) | (refine wpList_load_row rfl 28 _ rfl w.heap.size rfl 28 _ (0, 0) _ T4.out.1 Try.underlying28 rfl infoV ?_) | (refine wpList_load_row rfl 30 _ rfl (w.heap.size + 1) rfl 30 _ (0, 0) _ T4.out.2.1 Try.underlying30 rfl cfg_info ?_) | (refine wpList_load_row rfl 28 _ rfl w3.heap.size rfl 28 _ (0, 0) _ Y_4.out Try.underlying28 rfl infoV ?_) | (refine wpList_load_row rfl 28 _ rfl w4.heap.size rfl 28 _ (0, 0) _ U_4.out Try.underlying28 rfl infoV ?_))
          go_meet
          exact T4
        · have q : (r2.1 == 0) = false := by simpa using h0
          clear h0
          go_wp2
          go_meet
          exact T3
      case rest =>
        have T3c := hcut
        clear hcut T3 Y_3 HB HB2
        go_wp2_with (first | (refine wpList_load_row rfl 28 _ rfl w.heap.size rfl 28 _ (0, 0) _ T3c.out.1 Try.underlying28 rfl infoV ?_) | (refine wpList_load_row rfl 30 _ rfl (w.heap.size + 1) rfl 30 _ (0, 0) _ T3c.out.2.1 Try.underlying30 rfl cfg_info ?_))
        refine (HC.out _).mono ?_
        rintro o w4 ⟨rfl, b4⟩
        have n4 : Below wc.heap.size wc (w4.alloc (.cells (cellsV r3.2) 28)) := below_put b4 _
        have T4 := Lib.hid (T3c.out.next n4)
        clear T3c
        have Z_4 : Hid (VB (w4.alloc (.cells (cellsV r3.2) 28)) w4.heap.size r3.2) := Lib.hid (Blk.new _ _ _)
        clear b4 n4
        go_upto_if 67 with (refine wpList_store_row rfl _ _ _ rfl w4.heap.size (cellsV r3.2) rfl rfl 28 _ (heap_alloc_new w4 _) infoV rfl (cellsV_one _) ?_; rw [World.setRow_alloc_new])
        go_cut [] (fun wx => Hid (Two w wx a0 a2))
        case first =>
          by_cases h0 : r3.1 = 0
          · have q : (r3.1 == 0) = true := by simpa using h0
            obtain ⟨y, hy⟩ := HC2.out h0
            have HY := Lib.hid hy
            clear hy h0
            go_wp2_with (first | (refine wpList_load_row rfl 28 _ rfl w.heap.size rfl 28 _ (0, 0) _ T4.out.1 Try.underlying28 rfl infoV ?_) | (refine wpList_load_row rfl 30 _ rfl (w.heap.size + 1) rfl 30 _ (0, 0) _ T4.out.2.1 Try.underlying30 rfl cfg_info ?_) | (refine wpList_load_row rfl 28 _ rfl w4.heap.size rfl 28 _ (0, 0) _ Z_4.out Try.underlying28 rfl infoV ?_))
            refine (HY.out _).mono ?_
            rintro o w5 ⟨rfl, b5⟩
            have n5 : Below (w4.alloc (.cells (cellsV r3.2) 28)).heap.size (w4.alloc (.cells (cellsV r3.2) 28)) (w5.alloc (.cells (cellsV y) 28)) := below_put b5 _
            have T5 := Lib.hid (T4.out.next n5)
            clear T4
            have Z_5 : Hid (VB (w5.alloc (.cells (cellsV y) 28)) w4.heap.size r3.2) := Lib.hid (old_vb Z_4.out n5)
            clear Z_4
            have U_5 : Hid (VB (w5.alloc (.cells (cellsV y) 28)) w5.heap.size y) := Lib.hid (Blk.new _ _ _)
            clear b5 n5
            go_wp2_with (first | (refine wpList_store_row rfl _ _ _ rfl w5.heap.size (cellsV y) rfl rfl 28 _ (heap_alloc_new w5 _) infoV rfl (cellsV_one _) ?_; rw [World.setRow_alloc_new]) | (refine wpList_load_row rfl 28 _ rfl w.heap.size rfl 28 _ (0, 0) _ T5.out.1 Try.underlying28 rfl infoV ?_) | (refine wpList_load_row rfl 30 _ rfl (w.heap.size + 1) rfl 30 _ (0, 0) _ T5.out.2.1 Try.underlying30 rfl cfg_info ?_) | (refine wpList_load_row rfl 28 _ rfl w4.heap.size rfl 28 _ (0, 0) _ Z_5.out Try.underlying28 rfl infoV ?_) | (refine wpList_load_row rfl 28 _ rfl w5.heap.size rfl 28 _ (0, 0) _ U_5.out Try.underlying28 rfl infoV ?_))
            go_meet
            exact T5
          · have q : (r3.1 == 0) = false := by simpa using h0
            clear h0
            go_wp2
            go_meet
            exact T4
        case rest =>
          have T4c := hcut
          clear hcut T4 Z_4 HC HC2
          go_wp2_with (first | (refine wpList_load_row rfl 28 _ rfl w.heap.size rfl 28 _ (0, 0) _ T4c.out.1 Try.underlying28 rfl infoV ?_) | (refine wpList_load_row rfl 30 _ rfl (w.heap.size + 1) rfl 30 _ (0, 0) _ T4c.out.2.1 Try.underlying30 rfl cfg_info ?_))
          refine (HV.out _).mono ?_
          rintro o w5 ⟨rfl, b5⟩
          have n5 := b5
          have T5 := Lib.hid (T4c.out.next n5)
          clear T4c
          clear b5 n5
          go_wp2
          go_ret
          exact ⟨rfl, T5.out.2.2⟩
  · have hn : (chk a2 != 0) = true := by simpa using hc
    generalize chk a2 = x at *
    clear w0 w1 w2 hc
    go_enter Try.func7, Try.ntmps7
    go_upto_region 1 with (fail)
    generalize (w.alloc (.cells (cellsV a0) 28)).alloc (.cells (cellsOf a2) 30) = W at *
    go_wp2_with (first | (refine wpList_load_row rfl 28 _ rfl w.heap.size rfl 28 _ (0, 0) _ T0.out.1 Try.underlying28 rfl infoV ?_) | (refine wpList_load_row rfl 30 _ rfl (w.heap.size + 1) rfl 30 _ (0, 0) _ T0.out.2.1 Try.underlying30 rfl cfg_info ?_))
    refine (HK.out _).mono ?_
    rintro o w1 ⟨rfl, b1⟩
    have n1 := b1
    have T1 := Lib.hid (T0.out.next n1)
    clear T0
    clear b1 n1
    go_wp2_with (first | (refine wpList_load_row rfl 28 _ rfl w.heap.size rfl 28 _ (0, 0) _ T1.out.1 Try.underlying28 rfl infoV ?_) | (refine wpList_load_row rfl 30 _ rfl (w.heap.size + 1) rfl 30 _ (0, 0) _ T1.out.2.1 Try.underlying30 rfl cfg_info ?_))
    refine (HV.out _).mono ?_
    rintro o w2 ⟨rfl, b2⟩
    have n2 := b2
    have T2 := Lib.hid (T1.out.next n2)
    clear T1
    clear b2 n2
    go_wp2
    go_ret
    exact ⟨rfl, T2.out.2.2⟩
end Go.Proofs.Ytfcjgllljejfcaa
