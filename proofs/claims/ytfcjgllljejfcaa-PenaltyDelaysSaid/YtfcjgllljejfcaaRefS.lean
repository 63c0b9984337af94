/- The reference's Slash (written by mkrefs.py). -/
import Derived.Test.YtfcjgllljejfcaaRefA
namespace Go.Proofs.Ytfcjgllljejfcaa
open Go Go.RowKit
set_option linter.unusedVariables false
set_option linter.unusedSimpArgs false
set_option maxRecDepth 100000

set_option maxHeartbeats 3200000 in
theorem refslash_any (v : Val) (e q : Int) (ok : Bool) (c : Nat → Int) (w : World) (hv : StOk v) (h0 : 0 ≤ c 11) (h1 : c 11 ≤ 1048576) (hq0 : 0 ≤ q) (hq1 : q ≤ v.bal) (hb : v.bal ≤ 18446744073709551615)
    (hA : ∀ w, Calls Try.prog 10 #[.int .u64 v.bal, .int .u64 (c 18), .int .u64 (c 19)] w fun o w' => o = .returned (.tuple #[.int .u64 q, .bool ok]) ∧ w = w') :
    Calls Try.prog 18 #[.agg (cellsV v), .int .i64 e, .agg (cellsOf c)] w fun o w' => o = .returned (settleV (slashL v e (c 11)) q v) ∧ Below w.heap.size w w' := by
  have V0 : Hid (VB (((w.alloc (.cells (cellsV v) 28)).alloc (.cells (cellsOf c) 30)).alloc (.cells (cellsV val0) 28)) w.heap.size v) := Lib.hid (Blk.alloc (Blk.alloc (Blk.new w _ _) _) _)
  have G0 : Hid (Blk (((w.alloc (.cells (cellsV v) 28)).alloc (.cells (cellsOf c) 30)).alloc (.cells (cellsV val0) 28)) (w.heap.size + 1) 30 (cellsOf c)) := Lib.hid (Blk.alloc (cfg_two _ _ _) _)
  have Z0 : Hid (VB (((w.alloc (.cells (cellsV v) 28)).alloc (.cells (cellsOf c) 30)).alloc (.cells (cellsV val0) 28)) (w.heap.size + 2) val0) := Lib.hid (vb_three _ _ _ _)
  have B0 : Hid (Below w.heap.size w (((w.alloc (.cells (cellsV v) 28)).alloc (.cells (cellsOf c) 30)).alloc (.cells (cellsV val0) 28))) := Lib.hid ((((Below.refl _ _).alloc (Nat.le_refl _) _).alloc (by simp) _).alloc (by simp; omega) _)
  have HL := Lib.hid (fun (w : World) => reflater_one e (c 11) w.heap.size (w.alloc (.cells #[.int .i64 (c 11)] 3)) h0 (by omega) ((Blk.new w 3 #[.int .i64 (c 11)]).cell 0))
  have HN := Lib.hid (fun w => refnext_any v.st 7 w hv (by decide))
  have HA := Lib.hid hA
  have hw : IntKind.u64.wrap (v.bal - q) = v.bal - q := IntWalk.u64_in _ (by omega)
  clear h0 h1 hv hA hq0 hq1 hb
  cases hs : v.sl with
  | true =>
    have HR : Hid (settleV (slashL v e (c 11)) q v = ans3 (9, val0) 0) := Lib.hid (by
      unfold settleV
      rw [show slashL v e (c 11) = slashL { v with bal := v.bal - q } e (c 11) from rfl, sl_yes (v := { v with bal := v.bal - q }) hs]
      rfl)
    rw [HR.out]
    clear HL HN HA hw
    go_enter Try.func18, Try.ntmps18
    go_upto_region 1 with (fail)
    rw [zero_cells]
    generalize ((w.alloc (.cells (cellsV v) 28)).alloc (.cells (cellsOf c) 30)).alloc (.cells (cellsV val0) 28) = W at *
    have c2 : W.cell? ⟨w.heap.size, 2, none⟩ = some (.bool true) := by rw [← hs]; exact Blk.cell V0.out 2
    clear hs
    go_upto_region 2 with (fail)
    clear c2 V0 G0
    go_wp2_with (first | (refine wpList_build_val rfl 28 _ rfl val0 (by kernel_rfl) ?_) | (refine wpList_store_row rfl _ _ _ rfl (w.heap.size + 2) (cellsV val0) rfl rfl 28 _ Z0.out infoV rfl (cellsV_one val0) ?_))
    exact bodyPost_ret (v := ans3 (9, val0) 0) (results_cell_row3 (fn := Try.f18) rfl _ _ (w.heap.size + 2) 28 (cellsV (val0)) (0, 0) _ rfl (setRow_heap _ _ _ _ _ _ Z0.out) Try.underlying28 rfl infoV) rfl ⟨rfl, below_setRow B0.out (by omega) _⟩
  | false =>
    by_cases h2 : refN v.st 7 = 0
    · have HR : Hid (settleV (slashL v e (c 11)) q v = ans3 (8, val0) 0) := Lib.hid (by
        unfold settleV
        rw [show slashL v e (c 11) = slashL { v with bal := v.bal - q } e (c 11) from rfl, sl_bad (v := { v with bal := v.bal - q }) hs h2]
        rfl)
      rw [HR.out]
      rw [h2] at HN
      clear HL HA hw h2
      go_enter Try.func18, Try.ntmps18
      go_upto_region 1 with (fail)
      rw [zero_cells]
      generalize ((w.alloc (.cells (cellsV v) 28)).alloc (.cells (cellsOf c) 30)).alloc (.cells (cellsV val0) 28) = W at *
      have c2 : W.cell? ⟨w.heap.size, 2, none⟩ = some (.bool false) := by rw [← hs]; exact Blk.cell V0.out 2
      have f0_1 := V0.out.fz 1
      have c0_1 : W.cell? ⟨w.heap.size, 1, none⟩ = some (.int .i64 v.st) := Blk.cell V0.out 1
      clear hs
      go_wp2_with fail
      refine (HN.out _).mono ?_
      rintro o w' ⟨rfl, rfl⟩
      go_upto_region 5 with (fail)
      clear c2 V0 G0 HN
      clear f0_1 c0_1
      go_wp2_with (first | (refine wpList_build_val rfl 28 _ rfl val0 (by kernel_rfl) ?_) | (refine wpList_store_row rfl _ _ _ rfl (w.heap.size + 2) (cellsV val0) rfl rfl 28 _ Z0.out infoV rfl (cellsV_one val0) ?_))
      exact bodyPost_ret (v := ans3 (8, val0) 0) (results_cell_row3 (fn := Try.f18) rfl _ _ (w.heap.size + 2) 28 (cellsV (val0)) (0, 0) _ rfl (setRow_heap _ _ _ _ _ _ Z0.out) Try.underlying28 rfl infoV) rfl ⟨rfl, below_setRow B0.out (by omega) _⟩
    · have hn : (refN v.st 7 == 0) = false := by simpa using h2
      by_cases h3 : lOk e (c 11)
      · rw [if_pos h3, decide_eq_true h3] at HL
        by_cases h4 : v.st = 2
        · have HR : Hid (settleV (slashL v e (c 11)) q v = ans3 (0, { v with bal := v.bal - q, st := refN v.st 7, sl := true, rq := e, wd := max v.wd (e + c 11), dl := -1 }) q) := Lib.hid (by
            unfold settleV
            rw [show slashL v e (c 11) = slashL { v with bal := v.bal - q } e (c 11) from rfl, sl_ok (v := { v with bal := v.bal - q }) hs h2 h3]
            unfold slashV
            rw [if_pos (show ({ v with bal := v.bal - q } : Val).st = 2 from h4)]
            rfl)
          rw [HR.out]
          have s2 : (v.st == 2) = true := by simpa using h4
          clear h2 h3 h4 HR
          generalize e + c 11 = k at *
          generalize refN v.st 7 = s at *
          obtain ⟨z, hz⟩ : ∃ z, z = v.bal - q := ⟨_, rfl⟩
          have hwz : IntKind.u64.wrap (v.bal - q) = z := by rw [hw, hz]
          rw [← hz]
          clear hz hw
          go_enter Try.func18, Try.ntmps18
          go_upto_region 1 with (fail)
          rw [zero_cells]
          generalize ((w.alloc (.cells (cellsV v) 28)).alloc (.cells (cellsOf c) 30)).alloc (.cells (cellsV val0) 28) = W at *
          have c2 : W.cell? ⟨w.heap.size, 2, none⟩ = some (.bool false) := by rw [← hs]; exact Blk.cell V0.out 2
          have f0_1 := V0.out.fz 1
          have c0_1 : W.cell? ⟨w.heap.size, 1, none⟩ = some (.int .i64 v.st) := Blk.cell V0.out 1
          have g11 : W.cell? ⟨w.heap.size + 1, 11, none⟩ = some (.int .i64 (c 11)) := G0.out.cell 11
          clear hs
          go_wp2_with fail
          refine (HN.out _).mono ?_
          rintro o w' ⟨rfl, rfl⟩
          go_wp2_with fail
          refine (HL.out _).mono ?_
          rintro o w2 ⟨rfl, q2, rfl⟩
          have V2 : Hid (VB ((W.alloc (.cells #[.int .i64 (c 11)] 3)).drewN q2) w.heap.size v) := Lib.hid (Blk.alloc V0.out _)
          have Z2 : Hid (VB ((W.alloc (.cells #[.int .i64 (c 11)] 3)).drewN q2) (w.heap.size + 2) val0) := Lib.hid (Blk.alloc Z0.out _)
          have G2 : Hid (Blk ((W.alloc (.cells #[.int .i64 (c 11)] 3)).drewN q2) (w.heap.size + 1) 30 (cellsOf c)) := Lib.hid (Blk.alloc G0.out _)
          have B2 : Hid (Below w.heap.size w ((W.alloc (.cells #[.int .i64 (c 11)] 3)).drewN q2)) := Lib.hid (below_drewN (B0.out.alloc B0.out.size _) q2)
          clear c2 g11 HN HL V0 Z0 G0 B0
          clear f0_1 c0_1
          generalize (W.alloc (.cells #[.int .i64 (c 11)] 3)).drewN q2 = W2 at *
          have f2_1 := V2.out.fz 1
          have c2_1 : W2.cell? ⟨w.heap.size, 1, none⟩ = some (.int .i64 v.st) := Blk.cell V2.out 1
          have f2_3 := V2.out.fz 3
          have c2_3 : W2.cell? ⟨w.heap.size, 3, none⟩ = some (.int .i64 v.rq) := Blk.cell V2.out 3
          go_upto_region 11 with (fail)
          clear f2_1 c2_1 f2_3 c2_3
          have G3 : Hid (Blk (W2.setCell ⟨w.heap.size, 3, none⟩ (.int .i64 e)) (w.heap.size + 1) 30 (cellsOf c)) := Lib.hid (Blk.far G2.out (by simp) _)
          obtain ⟨v3, z3, b3⟩ := VB.step V2.out Z2.out B2.out (i := 3) (u := .int .i64 e) (y := { v with rq := e }) (by omega) (Nat.le_refl _) rfl
          have V3 := Lib.hid v3
          have Z3 := Lib.hid z3
          have B3 := Lib.hid b3
          clear v3 z3 b3
          generalize hw3 : W2.setCell ⟨w.heap.size, 3, none⟩ (.int .i64 e) = W3 at *
          clear hw3
          have f3_0 := V3.out.fz 0
          have c3_0 : W3.cell? ⟨w.heap.size, 0, none⟩ = some (.int .u64 v.bal) := Blk.cell V3.out 0
          have g18 : W3.cell? ⟨w.heap.size + 1, 18, none⟩ = some (.int .u64 (c 18)) := G3.out.cell 18
          have g19 : W3.cell? ⟨w.heap.size + 1, 19, none⟩ = some (.int .u64 (c 19)) := G3.out.cell 19
          go_wp2_with fail
          refine (HA.out _).mono ?_
          rintro o w' ⟨rfl, rfl⟩
          go_upto_region 13 with (fail)
          clear HA g18 g19 G3
          clear f3_0 c3_0
          obtain ⟨v4, z4, b4⟩ := VB.step V3.out Z3.out B3.out (i := 0) (u := .int .u64 z) (y := { v with rq := e, bal := z }) (by omega) (Nat.le_refl _) rfl
          have V4 := Lib.hid v4
          have Z4 := Lib.hid z4
          have B4 := Lib.hid b4
          clear v4 z4 b4
          generalize hw4 : W3.setCell ⟨w.heap.size, 0, none⟩ (.int .u64 z) = W4 at *
          clear hw4
          have f4_1 := V4.out.fz 1
          have c4_1 : W4.cell? ⟨w.heap.size, 1, none⟩ = some (.int .i64 v.st) := Blk.cell V4.out 1
          go_upto_region 14 with (fail)
          clear f4_1 c4_1
          obtain ⟨v5, z5, b5⟩ := VB.step V4.out Z4.out B4.out (i := 1) (u := .int .i64 s) (y := { v with rq := e, bal := z, st := s }) (by omega) (Nat.le_refl _) rfl
          have V5 := Lib.hid v5
          have Z5 := Lib.hid z5
          have B5 := Lib.hid b5
          clear v5 z5 b5
          generalize hw5 : W4.setCell ⟨w.heap.size, 1, none⟩ (.int .i64 s) = W5 at *
          clear hw5
          have f5_2 := V5.out.fz 2
          have c5_2 : W5.cell? ⟨w.heap.size, 2, none⟩ = some (.bool v.sl) := Blk.cell V5.out 2
          go_upto_region 15 with (fail)
          clear f5_2 c5_2
          obtain ⟨v6, z6, b6⟩ := VB.step V5.out Z5.out B5.out (i := 2) (u := .bool true) (y := { v with rq := e, bal := z, st := s, sl := true }) (by omega) (Nat.le_refl _) rfl
          have V6 := Lib.hid v6
          have Z6 := Lib.hid z6
          have B6 := Lib.hid b6
          clear v6 z6 b6
          generalize hw6 : W5.setCell ⟨w.heap.size, 2, none⟩ (.bool true) = W6 at *
          clear hw6
          have f6_5 := V6.out.fz 5
          have c6_5 : W6.cell? ⟨w.heap.size, 5, none⟩ = some (.int .i64 v.wd) := Blk.cell V6.out 5
          go_upto_region 16 with (fail)
          clear f6_5 c6_5
          obtain ⟨v7, z7, b7⟩ := VB.step V6.out Z6.out B6.out (i := 5) (u := .int .i64 (max v.wd k)) (y := { v with rq := e, bal := z, st := s, sl := true, wd := max v.wd k }) (by omega) (Nat.le_refl _) rfl
          have V7 := Lib.hid v7
          have Z7 := Lib.hid z7
          have B7 := Lib.hid b7
          clear v7 z7 b7
          generalize hw7 : W6.setCell ⟨w.heap.size, 5, none⟩ (.int .i64 (max v.wd k)) = W7 at *
          clear hw7
          have f7_6 := V7.out.fz 6
          have c7_6 : W7.cell? ⟨w.heap.size, 6, none⟩ = some (.int .i64 v.dl) := Blk.cell V7.out 6
          go_upto_region 17 with (fail)
          clear f7_6 c7_6
          obtain ⟨v8, z8, b8⟩ := VB.step V7.out Z7.out B7.out (i := 6) (u := .int .i64 (-1)) (y := { v with rq := e, bal := z, st := s, sl := true, wd := max v.wd k, dl := -1 }) (by omega) (Nat.le_refl _) rfl
          have V8 := Lib.hid v8
          have Z8 := Lib.hid z8
          have B8 := Lib.hid b8
          clear v8 z8 b8
          generalize hw8 : W7.setCell ⟨w.heap.size, 6, none⟩ (.int .i64 (-1)) = W8 at *
          clear hw8
          go_wp2_with (first | (refine wpList_load_row rfl 28 _ rfl w.heap.size rfl 28 _ (0, 0) _ V8.out Try.underlying28 rfl infoV ?_) | (refine wpList_store_row rfl _ _ _ rfl (w.heap.size + 2) (cellsV ({ v with rq := e, bal := z, st := s, sl := true, wd := max v.wd k, dl := -1 })) rfl rfl 28 _ Z8.out infoV rfl (cellsV_one _) ?_))
          exact bodyPost_ret (v := ans3 (0, { v with bal := z, st := s, sl := true, rq := e, wd := max v.wd k, dl := -1 }) q) (results_cell_row3 (fn := Try.f18) rfl _ _ (w.heap.size + 2) 28 (cellsV ({ v with rq := e, bal := z, st := s, sl := true, wd := max v.wd k, dl := -1 })) (0, 0) _ rfl (setRow_heap _ _ _ _ _ _ Z8.out) Try.underlying28 rfl infoV) rfl ⟨rfl, below_setRow B8.out (by omega) _⟩
        · have HR : Hid (settleV (slashL v e (c 11)) q v = ans3 (0, { v with bal := v.bal - q, st := refN v.st 7, sl := true, wd := max v.wd (e + c 11), dl := -1 }) q) := Lib.hid (by
            unfold settleV
            rw [show slashL v e (c 11) = slashL { v with bal := v.bal - q } e (c 11) from rfl, sl_ok (v := { v with bal := v.bal - q }) hs h2 h3]
            unfold slashV
            rw [if_neg (show ¬ ({ v with bal := v.bal - q } : Val).st = 2 from h4)]
            rfl)
          rw [HR.out]
          have s2 : (v.st == 2) = false := by simpa using h4
          clear h2 h3 h4 HR
          generalize e + c 11 = k at *
          generalize refN v.st 7 = s at *
          obtain ⟨z, hz⟩ : ∃ z, z = v.bal - q := ⟨_, rfl⟩
          have hwz : IntKind.u64.wrap (v.bal - q) = z := by rw [hw, hz]
          rw [← hz]
          clear hz hw
          go_enter Try.func18, Try.ntmps18
          go_upto_region 1 with (fail)
          rw [zero_cells]
          generalize ((w.alloc (.cells (cellsV v) 28)).alloc (.cells (cellsOf c) 30)).alloc (.cells (cellsV val0) 28) = W at *
          have c2 : W.cell? ⟨w.heap.size, 2, none⟩ = some (.bool false) := by rw [← hs]; exact Blk.cell V0.out 2
          have f0_1 := V0.out.fz 1
          have c0_1 : W.cell? ⟨w.heap.size, 1, none⟩ = some (.int .i64 v.st) := Blk.cell V0.out 1
          have g11 : W.cell? ⟨w.heap.size + 1, 11, none⟩ = some (.int .i64 (c 11)) := G0.out.cell 11
          clear hs
          go_wp2_with fail
          refine (HN.out _).mono ?_
          rintro o w' ⟨rfl, rfl⟩
          go_wp2_with fail
          refine (HL.out _).mono ?_
          rintro o w2 ⟨rfl, q2, rfl⟩
          have V2 : Hid (VB ((W.alloc (.cells #[.int .i64 (c 11)] 3)).drewN q2) w.heap.size v) := Lib.hid (Blk.alloc V0.out _)
          have Z2 : Hid (VB ((W.alloc (.cells #[.int .i64 (c 11)] 3)).drewN q2) (w.heap.size + 2) val0) := Lib.hid (Blk.alloc Z0.out _)
          have G2 : Hid (Blk ((W.alloc (.cells #[.int .i64 (c 11)] 3)).drewN q2) (w.heap.size + 1) 30 (cellsOf c)) := Lib.hid (Blk.alloc G0.out _)
          have B2 : Hid (Below w.heap.size w ((W.alloc (.cells #[.int .i64 (c 11)] 3)).drewN q2)) := Lib.hid (below_drewN (B0.out.alloc B0.out.size _) q2)
          clear c2 g11 HN HL V0 Z0 G0 B0
          clear f0_1 c0_1
          generalize (W.alloc (.cells #[.int .i64 (c 11)] 3)).drewN q2 = W2 at *
          have f2_1 := V2.out.fz 1
          have c2_1 : W2.cell? ⟨w.heap.size, 1, none⟩ = some (.int .i64 v.st) := Blk.cell V2.out 1
          go_upto_region 11 with (fail)
          clear f2_1 c2_1
          have f2_0 := V2.out.fz 0
          have c2_0 : W2.cell? ⟨w.heap.size, 0, none⟩ = some (.int .u64 v.bal) := Blk.cell V2.out 0
          have g18 : W2.cell? ⟨w.heap.size + 1, 18, none⟩ = some (.int .u64 (c 18)) := G2.out.cell 18
          have g19 : W2.cell? ⟨w.heap.size + 1, 19, none⟩ = some (.int .u64 (c 19)) := G2.out.cell 19
          go_wp2_with fail
          refine (HA.out _).mono ?_
          rintro o w' ⟨rfl, rfl⟩
          go_upto_region 13 with (fail)
          clear HA g18 g19 G2
          clear f2_0 c2_0
          obtain ⟨v3, z3, b3⟩ := VB.step V2.out Z2.out B2.out (i := 0) (u := .int .u64 z) (y := { v with bal := z }) (by omega) (Nat.le_refl _) rfl
          have V3 := Lib.hid v3
          have Z3 := Lib.hid z3
          have B3 := Lib.hid b3
          clear v3 z3 b3
          generalize hw3 : W2.setCell ⟨w.heap.size, 0, none⟩ (.int .u64 z) = W3 at *
          clear hw3
          have f3_1 := V3.out.fz 1
          have c3_1 : W3.cell? ⟨w.heap.size, 1, none⟩ = some (.int .i64 v.st) := Blk.cell V3.out 1
          go_upto_region 14 with (fail)
          clear f3_1 c3_1
          obtain ⟨v4, z4, b4⟩ := VB.step V3.out Z3.out B3.out (i := 1) (u := .int .i64 s) (y := { v with bal := z, st := s }) (by omega) (Nat.le_refl _) rfl
          have V4 := Lib.hid v4
          have Z4 := Lib.hid z4
          have B4 := Lib.hid b4
          clear v4 z4 b4
          generalize hw4 : W3.setCell ⟨w.heap.size, 1, none⟩ (.int .i64 s) = W4 at *
          clear hw4
          have f4_2 := V4.out.fz 2
          have c4_2 : W4.cell? ⟨w.heap.size, 2, none⟩ = some (.bool v.sl) := Blk.cell V4.out 2
          go_upto_region 15 with (fail)
          clear f4_2 c4_2
          obtain ⟨v5, z5, b5⟩ := VB.step V4.out Z4.out B4.out (i := 2) (u := .bool true) (y := { v with bal := z, st := s, sl := true }) (by omega) (Nat.le_refl _) rfl
          have V5 := Lib.hid v5
          have Z5 := Lib.hid z5
          have B5 := Lib.hid b5
          clear v5 z5 b5
          generalize hw5 : W4.setCell ⟨w.heap.size, 2, none⟩ (.bool true) = W5 at *
          clear hw5
          have f5_5 := V5.out.fz 5
          have c5_5 : W5.cell? ⟨w.heap.size, 5, none⟩ = some (.int .i64 v.wd) := Blk.cell V5.out 5
          go_upto_region 16 with (fail)
          clear f5_5 c5_5
          obtain ⟨v6, z6, b6⟩ := VB.step V5.out Z5.out B5.out (i := 5) (u := .int .i64 (max v.wd k)) (y := { v with bal := z, st := s, sl := true, wd := max v.wd k }) (by omega) (Nat.le_refl _) rfl
          have V6 := Lib.hid v6
          have Z6 := Lib.hid z6
          have B6 := Lib.hid b6
          clear v6 z6 b6
          generalize hw6 : W5.setCell ⟨w.heap.size, 5, none⟩ (.int .i64 (max v.wd k)) = W6 at *
          clear hw6
          have f6_6 := V6.out.fz 6
          have c6_6 : W6.cell? ⟨w.heap.size, 6, none⟩ = some (.int .i64 v.dl) := Blk.cell V6.out 6
          go_upto_region 17 with (fail)
          clear f6_6 c6_6
          obtain ⟨v7, z7, b7⟩ := VB.step V6.out Z6.out B6.out (i := 6) (u := .int .i64 (-1)) (y := { v with bal := z, st := s, sl := true, wd := max v.wd k, dl := -1 }) (by omega) (Nat.le_refl _) rfl
          have V7 := Lib.hid v7
          have Z7 := Lib.hid z7
          have B7 := Lib.hid b7
          clear v7 z7 b7
          generalize hw7 : W6.setCell ⟨w.heap.size, 6, none⟩ (.int .i64 (-1)) = W7 at *
          clear hw7
          go_wp2_with (first | (refine wpList_load_row rfl 28 _ rfl w.heap.size rfl 28 _ (0, 0) _ V7.out Try.underlying28 rfl infoV ?_) | (refine wpList_store_row rfl _ _ _ rfl (w.heap.size + 2) (cellsV ({ v with bal := z, st := s, sl := true, wd := max v.wd k, dl := -1 })) rfl rfl 28 _ Z7.out infoV rfl (cellsV_one _) ?_))
          exact bodyPost_ret (v := ans3 (0, { v with bal := z, st := s, sl := true, wd := max v.wd k, dl := -1 }) q) (results_cell_row3 (fn := Try.f18) rfl _ _ (w.heap.size + 2) 28 (cellsV ({ v with bal := z, st := s, sl := true, wd := max v.wd k, dl := -1 })) (0, 0) _ rfl (setRow_heap _ _ _ _ _ _ Z7.out) Try.underlying28 rfl infoV) rfl ⟨rfl, below_setRow B7.out (by omega) _⟩
      · rw [if_neg h3, decide_eq_false h3] at HL
        have HR : Hid (settleV (slashL v e (c 11)) q v = ans3 (10, val0) 0) := Lib.hid (by
          unfold settleV
          rw [show slashL v e (c 11) = slashL { v with bal := v.bal - q } e (c 11) from rfl, sl_out (v := { v with bal := v.bal - q }) hs h2 h3]
          rfl)
        rw [HR.out]
        clear HA hw h2 h3
        generalize refN v.st 7 = s at *
        go_enter Try.func18, Try.ntmps18
        go_upto_region 1 with (fail)
        rw [zero_cells]
        generalize ((w.alloc (.cells (cellsV v) 28)).alloc (.cells (cellsOf c) 30)).alloc (.cells (cellsV val0) 28) = W at *
        have c2 : W.cell? ⟨w.heap.size, 2, none⟩ = some (.bool false) := by rw [← hs]; exact Blk.cell V0.out 2
        have f0_1 := V0.out.fz 1
        have c0_1 : W.cell? ⟨w.heap.size, 1, none⟩ = some (.int .i64 v.st) := Blk.cell V0.out 1
        have g11 : W.cell? ⟨w.heap.size + 1, 11, none⟩ = some (.int .i64 (c 11)) := G0.out.cell 11
        clear hs
        go_wp2_with fail
        refine (HN.out _).mono ?_
        rintro o w' ⟨rfl, rfl⟩
        go_wp2_with fail
        refine (HL.out _).mono ?_
        rintro o w2 ⟨rfl, q2, rfl⟩
        have V2 : Hid (VB ((W.alloc (.cells #[.int .i64 (c 11)] 3)).drewN q2) w.heap.size v) := Lib.hid (Blk.alloc V0.out _)
        have Z2 : Hid (VB ((W.alloc (.cells #[.int .i64 (c 11)] 3)).drewN q2) (w.heap.size + 2) val0) := Lib.hid (Blk.alloc Z0.out _)
        have G2 : Hid (Blk ((W.alloc (.cells #[.int .i64 (c 11)] 3)).drewN q2) (w.heap.size + 1) 30 (cellsOf c)) := Lib.hid (Blk.alloc G0.out _)
        have B2 : Hid (Below w.heap.size w ((W.alloc (.cells #[.int .i64 (c 11)] 3)).drewN q2)) := Lib.hid (below_drewN (B0.out.alloc B0.out.size _) q2)
        clear c2 g11 HN HL V0 Z0 G0 B0 V2 G2
        clear f0_1 c0_1
        generalize (W.alloc (.cells #[.int .i64 (c 11)] 3)).drewN q2 = W2 at *
        go_wp2_with (first | (refine wpList_build_val rfl 28 _ rfl val0 (by kernel_rfl) ?_) | (refine wpList_store_row rfl _ _ _ rfl (w.heap.size + 2) (cellsV val0) rfl rfl 28 _ Z2.out infoV rfl (cellsV_one val0) ?_))
        exact bodyPost_ret (v := ans3 (10, val0) 0) (results_cell_row3 (fn := Try.f18) rfl _ _ (w.heap.size + 2) 28 (cellsV (val0)) (0, 0) _ rfl (setRow_heap _ _ _ _ _ _ Z2.out) Try.underlying28 rfl infoV) rfl ⟨rfl, below_setRow B2.out (by omega) _⟩
end Go.Proofs.Ytfcjgllljejfcaa
