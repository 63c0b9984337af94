/- The reference's Accept, Pay and Assign (written by mkrefs.py). -/
import Derived.Test.YtfcjgllljejfcaaRefs
namespace Go.Proofs.Ytfcjgllljejfcaa
open Go Go.RowKit
set_option linter.unusedVariables false
set_option linter.unusedSimpArgs false
set_option maxRecDepth 100000

/-- One cell of the copy is stored to: the copy, the result's block, the frame. -/
theorem VB.step {w0 W : World} {b z i : Nat} {x y : Val} {u : Value} (h : VB W b x) (hz : VB W z val0) (hb : Below w0.heap.size w0 W) (hbz : z ≠ b) (h0 : w0.heap.size ≤ b) (e : (cellsV x).setIfInBounds i u = cellsV y) :
    VB (W.setCell ⟨b, i, none⟩ u) b y ∧ VB (W.setCell ⟨b, i, none⟩ u) z val0 ∧ Below w0.heap.size w0 (W.setCell ⟨b, i, none⟩ u) :=
  ⟨h.set e, Blk.far hz hbz _, below_only hb (only_setCell (only_refl _ _) (.inl rfl) _) hb.size h0⟩

set_option maxHeartbeats 1600000 in
theorem refaccept_any (v : Val) (e : Int) (w : World) (hv : StOk v) :
    Calls Try.prog 15 #[.agg (cellsV v), .int .i64 e] w fun o w' => o = .returned (ans (runE [requestE e, passE 2] v)) ∧ Below w.heap.size w w' := by
  have V0 : Hid (VB ((w.alloc (.cells (cellsV v) 28)).alloc (.cells (cellsV val0) 28)) w.heap.size v) := Lib.hid (Blk.alloc (Blk.new w _ _) _)
  have Z0 : Hid (VB ((w.alloc (.cells (cellsV v) 28)).alloc (.cells (cellsV val0) 28)) (w.heap.size + 1) val0) := Lib.hid (vb_two _ _ _)
  have B0 : Hid (Below w.heap.size w ((w.alloc (.cells (cellsV v) 28)).alloc (.cells (cellsV val0) 28))) := Lib.hid (((Below.refl _ _).alloc (Nat.le_refl _) _).alloc (by simp) _)
  have HN := Lib.hid (fun w => refnext_any v.st 2 w hv (by decide))
  have HE := Lib.hid (fun w => refepoch_any e w)
  by_cases h : inE e
  · rw [decide_eq_true h] at HE
    by_cases h2 : refN v.st 2 = 0
    · rw [acc_bad h h2]
      rw [h2] at HN
      clear h h2 hv
      go_enter Try.func15, Try.ntmps15
      go_upto_region 1 with (fail)
      rw [zero_cells]
      generalize (w.alloc (.cells (cellsV v) 28)).alloc (.cells (cellsV val0) 28) = W at *
      have f0_1 := V0.out.fz 1
      have c0_1 : W.cell? ⟨w.heap.size, 1, none⟩ = some (.int .i64 v.st) := Blk.cell V0.out 1
      go_wp2_with fail
      refine (HE.out _).mono ?_
      rintro o w' ⟨rfl, rfl⟩
      go_wp2_with fail
      refine (HN.out _).mono ?_
      rintro o w' ⟨rfl, rfl⟩
      clear HE HN V0
      clear f0_1 c0_1
      go_wp2_with (first | (refine wpList_build_val rfl 28 _ rfl val0 (by kernel_rfl) ?_) | (refine wpList_store_row rfl _ _ _ rfl (w.heap.size + 1) (cellsV val0) rfl rfl 28 _ Z0.out infoV rfl (cellsV_one val0) ?_))
      exact bodyPost_ret (v := ans (8, val0)) (results_cell_row2 (fn := Try.f15) rfl _ _ (w.heap.size + 1) 28 (cellsV (val0)) (0, 0) _ rfl (setRow_heap _ _ _ _ _ _ Z0.out) Try.underlying28 rfl infoV) rfl ⟨rfl, below_setRow B0.out (by omega) _⟩
    · rw [acc_ok h h2]
      have hn : (refN v.st 2 == 0) = false := by simpa using h2
      clear h h2 hv
      generalize refN v.st 2 = s at *
      go_enter Try.func15, Try.ntmps15
      go_upto_region 1 with (fail)
      rw [zero_cells]
      generalize (w.alloc (.cells (cellsV v) 28)).alloc (.cells (cellsV val0) 28) = W at *
      have f0_1 := V0.out.fz 1
      have c0_1 : W.cell? ⟨w.heap.size, 1, none⟩ = some (.int .i64 v.st) := Blk.cell V0.out 1
      go_wp2_with fail
      refine (HE.out _).mono ?_
      rintro o w' ⟨rfl, rfl⟩
      go_wp2_with fail
      refine (HN.out _).mono ?_
      rintro o w' ⟨rfl, rfl⟩
      clear HE HN
      go_upto_region 7 with (fail)
      clear f0_1 c0_1
      obtain ⟨v1, z1, b1⟩ := VB.step V0.out Z0.out B0.out (i := 1) (u := .int .i64 s) (y := { v with st := s }) (by omega) (Nat.le_refl _) rfl
      have V1 := Lib.hid v1
      have Z1 := Lib.hid z1
      have B1 := Lib.hid b1
      clear v1 z1 b1
      generalize hw1 : W.setCell ⟨w.heap.size, 1, none⟩ (.int .i64 s) = W1 at *
      clear hw1
      have f1_3 := V1.out.fz 3
      have c1_3 : W1.cell? ⟨w.heap.size, 3, none⟩ = some (.int .i64 v.rq) := Blk.cell V1.out 3
      go_upto_region 8 with (fail)
      clear f1_3 c1_3
      obtain ⟨v2, z2, b2⟩ := VB.step V1.out Z1.out B1.out (i := 3) (u := .int .i64 e) (y := { v with st := s, rq := e }) (by omega) (Nat.le_refl _) rfl
      have V2 := Lib.hid v2
      have Z2 := Lib.hid z2
      have B2 := Lib.hid b2
      clear v2 z2 b2
      generalize hw2 : W1.setCell ⟨w.heap.size, 3, none⟩ (.int .i64 e) = W2 at *
      clear hw2
      go_wp2_with (first | (refine wpList_load_row rfl 28 _ rfl w.heap.size rfl 28 _ (0, 0) _ V2.out Try.underlying28 rfl infoV ?_) | (refine wpList_store_row rfl _ _ _ rfl (w.heap.size + 1) (cellsV ({ v with st := s, rq := e })) rfl rfl 28 _ Z2.out infoV rfl (cellsV_one _) ?_))
      exact bodyPost_ret (v := ans (0, { v with rq := e, st := s })) (results_cell_row2 (fn := Try.f15) rfl _ _ (w.heap.size + 1) 28 (cellsV ({ v with st := s, rq := e })) (0, 0) _ rfl (setRow_heap _ _ _ _ _ _ Z2.out) Try.underlying28 rfl infoV) rfl ⟨rfl, below_setRow B2.out (by omega) _⟩
  · rw [decide_eq_false h] at HE
    rw [acc_out h]
    clear h hv HN
    go_enter Try.func15, Try.ntmps15
    go_upto_region 1 with (fail)
    rw [zero_cells]
    generalize (w.alloc (.cells (cellsV v) 28)).alloc (.cells (cellsV val0) 28) = W at *
    go_wp2_with fail
    refine (HE.out _).mono ?_
    rintro o w' ⟨rfl, rfl⟩
    clear HE V0
    go_wp2_with (first | (refine wpList_build_val rfl 28 _ rfl val0 (by kernel_rfl) ?_) | (refine wpList_store_row rfl _ _ _ rfl (w.heap.size + 1) (cellsV val0) rfl rfl 28 _ Z0.out infoV rfl (cellsV_one val0) ?_))
    exact bodyPost_ret (v := ans (10, val0)) (results_cell_row2 (fn := Try.f15) rfl _ _ (w.heap.size + 1) 28 (cellsV (val0)) (0, 0) _ rfl (setRow_heap _ _ _ _ _ _ Z0.out) Try.underlying28 rfl infoV) rfl ⟨rfl, below_setRow B0.out (by omega) _⟩

set_option maxHeartbeats 1600000 in
theorem refpay_any (v : Val) (e : Int) (w : World) :
    Calls Try.prog 20 #[.agg (cellsV v), .int .i64 e] w fun o w' => o = .returned (settleV [ripeE e, passE 5] v.bal v) ∧ Below w.heap.size w w' := by
  have V0 : Hid (VB ((w.alloc (.cells (cellsV v) 28)).alloc (.cells (cellsV val0) 28)) w.heap.size v) := Lib.hid (Blk.alloc (Blk.new w _ _) _)
  have Z0 : Hid (VB ((w.alloc (.cells (cellsV v) 28)).alloc (.cells (cellsV val0) 28)) (w.heap.size + 1) val0) := Lib.hid (vb_two _ _ _)
  have B0 : Hid (Below w.heap.size w ((w.alloc (.cells (cellsV v) 28)).alloc (.cells (cellsV val0) 28))) := Lib.hid (((Below.refl _ _).alloc (Nat.le_refl _) _).alloc (by simp) _)
  by_cases h5 : v.st = 5
  · have s5 : (v.st != 5) = false := by simpa using h5
    by_cases h : e < v.wd
    · have hd : decide (e < v.wd) = true := by simpa using h
      have HR : Hid (settleV [ripeE e, passE 5] v.bal v = ans3 (8, val0) 0) := Lib.hid (by
        unfold settleV
        rw [pay_bad (v := { v with bal := v.bal - v.bal }) (fun x => by have := x.2; simp only at this; omega)]
        rfl)
      rw [HR.out]
      clear h h5
      go_enter Try.func20, Try.ntmps20
      go_upto_region 1 with (fail)
      rw [zero_cells]
      generalize (w.alloc (.cells (cellsV v) 28)).alloc (.cells (cellsV val0) 28) = W at *
      have f0_1 := V0.out.fz 1
      have c0_1 : W.cell? ⟨w.heap.size, 1, none⟩ = some (.int .i64 v.st) := Blk.cell V0.out 1
      have f0_5 := V0.out.fz 5
      have c0_5 : W.cell? ⟨w.heap.size, 5, none⟩ = some (.int .i64 v.wd) := Blk.cell V0.out 5
      go_upto_region 2 with (fail)
      clear f0_1 c0_1 f0_5 c0_5
      clear V0
      go_wp2_with (first | (refine wpList_build_val rfl 28 _ rfl val0 (by kernel_rfl) ?_) | (refine wpList_store_row rfl _ _ _ rfl (w.heap.size + 1) (cellsV val0) rfl rfl 28 _ Z0.out infoV rfl (cellsV_one val0) ?_))
      exact bodyPost_ret (v := ans3 (8, val0) 0) (results_cell_row3 (fn := Try.f20) rfl _ _ (w.heap.size + 1) 28 (cellsV (val0)) (0, 0) _ rfl (setRow_heap _ _ _ _ _ _ Z0.out) Try.underlying28 rfl infoV) rfl ⟨rfl, below_setRow B0.out (by omega) _⟩
    · have hd : decide (e < v.wd) = false := by simpa using h
      have HR : Hid (settleV [ripeE e, passE 5] v.bal v = ans3 (0, { v with bal := 0, st := 6 }) v.bal) := Lib.hid (by
        unfold settleV
        rw [pay_ok (v := { v with bal := v.bal - v.bal }) h5 (by simp only; omega), Int.sub_self]
        rfl)
      rw [HR.out]
      clear h h5
      go_enter Try.func20, Try.ntmps20
      go_upto_region 1 with (fail)
      rw [zero_cells]
      generalize (w.alloc (.cells (cellsV v) 28)).alloc (.cells (cellsV val0) 28) = W at *
      have f0_0 := V0.out.fz 0
      have c0_0 : W.cell? ⟨w.heap.size, 0, none⟩ = some (.int .u64 v.bal) := Blk.cell V0.out 0
      have f0_1 := V0.out.fz 1
      have c0_1 : W.cell? ⟨w.heap.size, 1, none⟩ = some (.int .i64 v.st) := Blk.cell V0.out 1
      have f0_5 := V0.out.fz 5
      have c0_5 : W.cell? ⟨w.heap.size, 5, none⟩ = some (.int .i64 v.wd) := Blk.cell V0.out 5
      go_upto_region 5 with (fail)
      clear f0_0 c0_0 f0_1 c0_1 f0_5 c0_5
      obtain ⟨v1, z1, b1⟩ := VB.step V0.out Z0.out B0.out (i := 0) (u := .int .u64 0) (y := { v with bal := 0 }) (by omega) (Nat.le_refl _) rfl
      have V1 := Lib.hid v1
      have Z1 := Lib.hid z1
      have B1 := Lib.hid b1
      clear v1 z1 b1
      generalize hw1 : W.setCell ⟨w.heap.size, 0, none⟩ (.int .u64 0) = W1 at *
      clear hw1
      have f1_1 := V1.out.fz 1
      have c1_1 : W1.cell? ⟨w.heap.size, 1, none⟩ = some (.int .i64 v.st) := Blk.cell V1.out 1
      go_upto_region 6 with (fail)
      clear f1_1 c1_1
      obtain ⟨v2, z2, b2⟩ := VB.step V1.out Z1.out B1.out (i := 1) (u := .int .i64 6) (y := { v with bal := 0, st := 6 }) (by omega) (Nat.le_refl _) rfl
      have V2 := Lib.hid v2
      have Z2 := Lib.hid z2
      have B2 := Lib.hid b2
      clear v2 z2 b2
      generalize hw2 : W1.setCell ⟨w.heap.size, 1, none⟩ (.int .i64 6) = W2 at *
      clear hw2
      go_wp2_with (first | (refine wpList_load_row rfl 28 _ rfl w.heap.size rfl 28 _ (0, 0) _ V2.out Try.underlying28 rfl infoV ?_) | (refine wpList_store_row rfl _ _ _ rfl (w.heap.size + 1) (cellsV ({ v with bal := 0, st := 6 })) rfl rfl 28 _ Z2.out infoV rfl (cellsV_one _) ?_))
      exact bodyPost_ret (v := ans3 (0, { v with bal := 0, st := 6 }) v.bal) (results_cell_row3 (fn := Try.f20) rfl _ _ (w.heap.size + 1) 28 (cellsV ({ v with bal := 0, st := 6 })) (0, 0) _ rfl (setRow_heap _ _ _ _ _ _ Z2.out) Try.underlying28 rfl infoV) rfl ⟨rfl, below_setRow B2.out (by omega) _⟩
  · have s5 : (v.st != 5) = true := by simpa using h5
    have HR : Hid (settleV [ripeE e, passE 5] v.bal v = ans3 (8, val0) 0) := Lib.hid (by
      unfold settleV
      rw [pay_bad (v := { v with bal := v.bal - v.bal }) (fun x => h5 x.1)]
      rfl)
    rw [HR.out]
    clear h5
    go_enter Try.func20, Try.ntmps20
    go_upto_region 1 with (fail)
    rw [zero_cells]
    generalize (w.alloc (.cells (cellsV v) 28)).alloc (.cells (cellsV val0) 28) = W at *
    have f0_1 := V0.out.fz 1
    have c0_1 : W.cell? ⟨w.heap.size, 1, none⟩ = some (.int .i64 v.st) := Blk.cell V0.out 1
    go_upto_region 2 with (fail)
    clear f0_1 c0_1
    clear V0
    go_wp2_with (first | (refine wpList_build_val rfl 28 _ rfl val0 (by kernel_rfl) ?_) | (refine wpList_store_row rfl _ _ _ rfl (w.heap.size + 1) (cellsV val0) rfl rfl 28 _ Z0.out infoV rfl (cellsV_one val0) ?_))
    exact bodyPost_ret (v := ans3 (8, val0) 0) (results_cell_row3 (fn := Try.f20) rfl _ _ (w.heap.size + 1) 28 (cellsV (val0)) (0, 0) _ rfl (setRow_heap _ _ _ _ _ _ Z0.out) Try.underlying28 rfl infoV) rfl ⟨rfl, below_setRow B0.out (by omega) _⟩

set_option maxHeartbeats 1600000 in
theorem refassign_any (v : Val) (e : Int) (c : Nat → Int) (w : World) (h0 : 0 ≤ c 10) (h1 : c 10 ≤ 1048576) :
    Calls Try.prog 16 #[.agg (cellsV v), .int .i64 e, .agg (cellsOf c)] w fun o w' => o = .returned (ans (runE [scheduleE e, holdE e (c 10)] v)) ∧ Below w.heap.size w w' := by
  have V0 : Hid (VB (((w.alloc (.cells (cellsV v) 28)).alloc (.cells (cellsOf c) 30)).alloc (.cells (cellsV val0) 28)) w.heap.size v) := Lib.hid (Blk.alloc (Blk.alloc (Blk.new w _ _) _) _)
  have G0 : Hid (Blk (((w.alloc (.cells (cellsV v) 28)).alloc (.cells (cellsOf c) 30)).alloc (.cells (cellsV val0) 28)) (w.heap.size + 1) 30 (cellsOf c)) := Lib.hid (Blk.alloc (cfg_two _ _ _) _)
  have Z0 : Hid (VB (((w.alloc (.cells (cellsV v) 28)).alloc (.cells (cellsOf c) 30)).alloc (.cells (cellsV val0) 28)) (w.heap.size + 2) val0) := Lib.hid (vb_three _ _ _ _)
  have B0 : Hid (Below w.heap.size w (((w.alloc (.cells (cellsV v) 28)).alloc (.cells (cellsOf c) 30)).alloc (.cells (cellsV val0) 28))) := Lib.hid ((((Below.refl _ _).alloc (Nat.le_refl _) _).alloc (by simp) _).alloc (by simp; omega) _)
  have HL := Lib.hid (fun (w : World) => reflater_one e (c 10) w.heap.size (w.alloc (.cells #[.int .i64 (c 10)] 3)) h0 (by omega) ((Blk.new w 3 #[.int .i64 (c 10)]).cell 0))
  clear h0 h1
  by_cases h3 : v.st = 3
  · have s3 : (v.st != 3) = false := by simpa using h3
    by_cases hx : v.ex = -1
    · have s4 : (v.ex != -1) = false := by simpa using hx
      by_cases h : lOk e (c 10)
      · rw [asg_ok ⟨h3, hx⟩ h]
        rw [if_pos h, decide_eq_true h] at HL
        generalize e + c 10 = k at *
        clear h h3 hx
        go_enter Try.func16, Try.ntmps16
        go_upto_region 1 with (fail)
        rw [zero_cells]
        generalize ((w.alloc (.cells (cellsV v) 28)).alloc (.cells (cellsOf c) 30)).alloc (.cells (cellsV val0) 28) = W at *
        have f0_1 := V0.out.fz 1
        have c0_1 : W.cell? ⟨w.heap.size, 1, none⟩ = some (.int .i64 v.st) := Blk.cell V0.out 1
        have f0_4 := V0.out.fz 4
        have c0_4 : W.cell? ⟨w.heap.size, 4, none⟩ = some (.int .i64 v.ex) := Blk.cell V0.out 4
        have g10 : W.cell? ⟨w.heap.size + 1, 10, none⟩ = some (.int .i64 (c 10)) := G0.out.cell 10
        go_wp2_with fail
        refine (HL.out _).mono ?_
        rintro o w2 ⟨rfl, q, rfl⟩
        have V2 : Hid (VB ((W.alloc (.cells #[.int .i64 (c 10)] 3)).drewN q) w.heap.size v) := Lib.hid (Blk.alloc V0.out _)
        have Z2 : Hid (VB ((W.alloc (.cells #[.int .i64 (c 10)] 3)).drewN q) (w.heap.size + 2) val0) := Lib.hid (Blk.alloc Z0.out _)
        have B2 : Hid (Below w.heap.size w ((W.alloc (.cells #[.int .i64 (c 10)] 3)).drewN q)) := Lib.hid (below_drewN (B0.out.alloc B0.out.size _) q)
        clear f0_1 c0_1 f0_4 c0_4
        clear g10 G0 V0 Z0 B0 HL s3 s4
        generalize (W.alloc (.cells #[.int .i64 (c 10)] 3)).drewN q = W2 at *
        have f2_4 := V2.out.fz 4
        have c2_4 : W2.cell? ⟨w.heap.size, 4, none⟩ = some (.int .i64 v.ex) := Blk.cell V2.out 4
        go_upto_region 7 with (fail)
        clear f2_4 c2_4
        obtain ⟨v3, z3, b3⟩ := VB.step V2.out Z2.out B2.out (i := 4) (u := .int .i64 e) (y := { v with ex := e }) (by omega) (Nat.le_refl _) rfl
        have V3 := Lib.hid v3
        have Z3 := Lib.hid z3
        have B3 := Lib.hid b3
        clear v3 z3 b3
        generalize hw3 : W2.setCell ⟨w.heap.size, 4, none⟩ (.int .i64 e) = W3 at *
        clear hw3
        have f3_5 := V3.out.fz 5
        have c3_5 : W3.cell? ⟨w.heap.size, 5, none⟩ = some (.int .i64 v.wd) := Blk.cell V3.out 5
        go_upto_region 8 with (fail)
        clear f3_5 c3_5
        obtain ⟨v4, z4, b4⟩ := VB.step V3.out Z3.out B3.out (i := 5) (u := .int .i64 (max v.wd k)) (y := { v with ex := e, wd := max v.wd k }) (by omega) (Nat.le_refl _) rfl
        have V4 := Lib.hid v4
        have Z4 := Lib.hid z4
        have B4 := Lib.hid b4
        clear v4 z4 b4
        generalize hw4 : W3.setCell ⟨w.heap.size, 5, none⟩ (.int .i64 (max v.wd k)) = W4 at *
        clear hw4
        go_wp2_with (first | (refine wpList_load_row rfl 28 _ rfl w.heap.size rfl 28 _ (0, 0) _ V4.out Try.underlying28 rfl infoV ?_) | (refine wpList_store_row rfl _ _ _ rfl (w.heap.size + 2) (cellsV ({ v with ex := e, wd := max v.wd k })) rfl rfl 28 _ Z4.out infoV rfl (cellsV_one _) ?_))
        exact bodyPost_ret (v := ans (0, { v with ex := e, wd := max v.wd k })) (results_cell_row2 (fn := Try.f16) rfl _ _ (w.heap.size + 2) 28 (cellsV ({ v with ex := e, wd := max v.wd k })) (0, 0) _ rfl (setRow_heap _ _ _ _ _ _ Z4.out) Try.underlying28 rfl infoV) rfl ⟨rfl, below_setRow B4.out (by omega) _⟩
      · rw [asg_out ⟨h3, hx⟩ h]
        rw [if_neg h, decide_eq_false h] at HL
        clear h h3 hx
        go_enter Try.func16, Try.ntmps16
        go_upto_region 1 with (fail)
        rw [zero_cells]
        generalize ((w.alloc (.cells (cellsV v) 28)).alloc (.cells (cellsOf c) 30)).alloc (.cells (cellsV val0) 28) = W at *
        have f0_1 := V0.out.fz 1
        have c0_1 : W.cell? ⟨w.heap.size, 1, none⟩ = some (.int .i64 v.st) := Blk.cell V0.out 1
        have f0_4 := V0.out.fz 4
        have c0_4 : W.cell? ⟨w.heap.size, 4, none⟩ = some (.int .i64 v.ex) := Blk.cell V0.out 4
        have g10 : W.cell? ⟨w.heap.size + 1, 10, none⟩ = some (.int .i64 (c 10)) := G0.out.cell 10
        go_wp2_with fail
        refine (HL.out _).mono ?_
        rintro o w2 ⟨rfl, q, rfl⟩
        have V2 : Hid (VB ((W.alloc (.cells #[.int .i64 (c 10)] 3)).drewN q) w.heap.size v) := Lib.hid (Blk.alloc V0.out _)
        have Z2 : Hid (VB ((W.alloc (.cells #[.int .i64 (c 10)] 3)).drewN q) (w.heap.size + 2) val0) := Lib.hid (Blk.alloc Z0.out _)
        have B2 : Hid (Below w.heap.size w ((W.alloc (.cells #[.int .i64 (c 10)] 3)).drewN q)) := Lib.hid (below_drewN (B0.out.alloc B0.out.size _) q)
        clear f0_1 c0_1 f0_4 c0_4
        clear g10 G0 V0 Z0 B0 HL s3 s4 V2
        generalize (W.alloc (.cells #[.int .i64 (c 10)] 3)).drewN q = W2 at *
        go_wp2_with (first | (refine wpList_build_val rfl 28 _ rfl val0 (by kernel_rfl) ?_) | (refine wpList_store_row rfl _ _ _ rfl (w.heap.size + 2) (cellsV val0) rfl rfl 28 _ Z2.out infoV rfl (cellsV_one val0) ?_))
        exact bodyPost_ret (v := ans (10, val0)) (results_cell_row2 (fn := Try.f16) rfl _ _ (w.heap.size + 2) 28 (cellsV (val0)) (0, 0) _ rfl (setRow_heap _ _ _ _ _ _ Z2.out) Try.underlying28 rfl infoV) rfl ⟨rfl, below_setRow B2.out (by omega) _⟩
    · have s4 : (v.ex != -1) = true := by simpa using hx
      rw [asg_bad (fun x => hx x.2)]
      clear h3 hx
      go_enter Try.func16, Try.ntmps16
      go_upto_region 1 with (fail)
      rw [zero_cells]
      generalize ((w.alloc (.cells (cellsV v) 28)).alloc (.cells (cellsOf c) 30)).alloc (.cells (cellsV val0) 28) = W at *
      have f0_1 := V0.out.fz 1
      have c0_1 : W.cell? ⟨w.heap.size, 1, none⟩ = some (.int .i64 v.st) := Blk.cell V0.out 1
      have f0_4 := V0.out.fz 4
      have c0_4 : W.cell? ⟨w.heap.size, 4, none⟩ = some (.int .i64 v.ex) := Blk.cell V0.out 4
      go_upto_region 2 with (fail)
      clear f0_1 c0_1 f0_4 c0_4
      clear V0 G0 HL
      go_wp2_with (first | (refine wpList_build_val rfl 28 _ rfl val0 (by kernel_rfl) ?_) | (refine wpList_store_row rfl _ _ _ rfl (w.heap.size + 2) (cellsV val0) rfl rfl 28 _ Z0.out infoV rfl (cellsV_one val0) ?_))
      exact bodyPost_ret (v := ans (8, val0)) (results_cell_row2 (fn := Try.f16) rfl _ _ (w.heap.size + 2) 28 (cellsV (val0)) (0, 0) _ rfl (setRow_heap _ _ _ _ _ _ Z0.out) Try.underlying28 rfl infoV) rfl ⟨rfl, below_setRow B0.out (by omega) _⟩
  · have s3 : (v.st != 3) = true := by simpa using h3
    rw [asg_bad (fun x => h3 x.1)]
    clear h3
    go_enter Try.func16, Try.ntmps16
    go_upto_region 1 with (fail)
    rw [zero_cells]
    generalize ((w.alloc (.cells (cellsV v) 28)).alloc (.cells (cellsOf c) 30)).alloc (.cells (cellsV val0) 28) = W at *
    have f0_1 := V0.out.fz 1
    have c0_1 : W.cell? ⟨w.heap.size, 1, none⟩ = some (.int .i64 v.st) := Blk.cell V0.out 1
    go_upto_region 2 with (fail)
    clear f0_1 c0_1
    clear V0 G0 HL
    go_wp2_with (first | (refine wpList_build_val rfl 28 _ rfl val0 (by kernel_rfl) ?_) | (refine wpList_store_row rfl _ _ _ rfl (w.heap.size + 2) (cellsV val0) rfl rfl 28 _ Z0.out infoV rfl (cellsV_one val0) ?_))
    exact bodyPost_ret (v := ans (8, val0)) (results_cell_row2 (fn := Try.f16) rfl _ _ (w.heap.size + 2) 28 (cellsV (val0)) (0, 0) _ rfl (setRow_heap _ _ _ _ _ _ Z0.out) Try.underlying28 rfl infoV) rfl ⟨rfl, below_setRow B0.out (by omega) _⟩
end Go.Proofs.Ytfcjgllljejfcaa
