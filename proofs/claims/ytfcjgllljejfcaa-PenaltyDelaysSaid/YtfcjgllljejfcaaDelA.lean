/- The walk of PenaltyDelays: the three ways (written by mklaws.py). -/
import Derived.Test.YtfcjgllljejfcaaLaw
import Derived.Deep.DeepCutAuto
import Derived.Test.YtfcjgllljejfcaaThree
namespace Go.Proofs.Ytfcjgllljejfcaa
open Go Go.RowKit
set_option linter.unusedVariables false
set_option linter.unusedSimpArgs false
set_option maxRecDepth 100000

set_option maxHeartbeats 6400000 in
theorem delays_ok (a0 x0 x1 x2 p r z q : Int) (a1 a2 : Nat → Int) (w : World) (hx0 : a1 0 = x0) (hx1 : a1 1 = x1) (hx2 : a1 2 = x2) (k0 : 0 ≤ x0 ∧ x0 ≤ 65535) (k1 : 0 ≤ x1 ∧ x1 ≤ 65535) (k2 : 0 ≤ x2 ∧ x2 ≤ 65535)
    (HK : Hid (∀ w, Calls Try.prog 12 #[.agg (cellsOf a2)] w fun e w' => e = .returned (.int .i64 0) ∧ Below w.heap.size w w'))
    (hp : IntKind.i64.wrap (x0 + a2 10) = p) (hr : IntKind.i64.wrap (x1 + a2 11) = r)
    (H1 : Hid (∀ w, Calls Try.prog 14 #[.agg (cellsV ⟨a0, 3, false, 0, -1, -1, -1⟩), .int .i64 x0, .agg (cellsOf a2)] w fun o w' => o = .returned (.tuple #[.agg (cellsV ⟨a0, 3, false, 0, x0, p, -1⟩), .int .i64 0]) ∧ Below w.heap.size w w'))
    (H2 : Hid (∀ w, Calls Try.prog 17 #[.agg (cellsV ⟨a0, 3, false, 0, x0, p, -1⟩), .int .i64 x1, .agg (cellsOf a2)] w fun o w' => o = .returned (.tuple #[.agg (cellsV ⟨z, 3, true, 0, x0, max p r, -1⟩), .int .u64 q, .int .i64 0]) ∧ Below w.heap.size w w'))
    (H3 : Hid (∀ w, Calls Try.prog 17 #[.agg (cellsV ⟨a0, 3, false, 0, -1, -1, -1⟩), .int .i64 x1, .agg (cellsOf a2)] w fun o w' => o = .returned (.tuple #[.agg (cellsV ⟨z, 3, true, 0, -1, r, -1⟩), .int .u64 q, .int .i64 0]) ∧ Below w.heap.size w w'))
    (H4 : Hid (∀ w, Calls Try.prog 14 #[.agg (cellsV ⟨z, 3, true, 0, -1, r, -1⟩), .int .i64 x0, .agg (cellsOf a2)] w fun o w' => o = .returned (.tuple #[.agg (cellsV ⟨z, 3, true, 0, x0, max p r, -1⟩), .int .i64 0]) ∧ Below w.heap.size w w'))
    (H5 : Hid (∀ w, Calls Try.prog 19 #[.agg (cellsV ⟨z, 5, true, 0, x0, max p r, -1⟩), .int .i64 x2] w fun o w' => o = .returned (.tuple #[.agg (cellsV ⟨0, 6, true, 0, x0, max p r, -1⟩), .int .u64 z, .int .i64 0]) ∧ Below w.heap.size w w')) (hq0 : decide (p ≤ x2) = true) (hq1 : decide (r ≤ x2) = true) :
    Calls Try.prog 8 #[.int .u64 a0, .agg (cellsH a1), .agg (cellsOf a2)] w fun e w' => e = .returned (.bool true) ∧ Below w.heap.size w w' := by
  have HV := Lib.hid alive_any
  have e1 := fun w => same_val (⟨z, 3, true, 0, x0, max p r, -1⟩ : Val) w
  have m1 : (max p r != max p r) = false := by simp
  have m2 : (z == z) = true := by simp
  have D0 : Hid (Blk ((w.alloc (.cells (cellsH a1) 48)).alloc (.cells (cellsOf a2) 30)) w.heap.size 48 (cellsH a1)) := Lib.hid (Blk.alloc (Blk.new w _ _) _)
  have G0 : Hid (Blk ((w.alloc (.cells (cellsH a1) 48)).alloc (.cells (cellsOf a2) 30)) (w.heap.size + 1) 30 (cellsOf a2)) := Lib.hid (cfg_two _ _ _)
  have B0 : Hid (Below w.heap.size w ((w.alloc (.cells (cellsH a1) 48)).alloc (.cells (cellsOf a2) 30))) := Lib.hid (((Below.refl _ _).alloc (Nat.le_refl _) _).alloc (by simp) _)
  go_enter Try.func8, Try.ntmps8
  go_upto_region 1 with (fail)
  generalize (w.alloc (.cells (cellsH a1) 48)).alloc (.cells (cellsOf a2) 30) = W at *
  go_wp2_with (first | (refine wpList_load_row rfl 30 _ rfl (w.heap.size + 1) rfl 30 _ (0, 0) _ G0.out Try.underlying30 rfl cfg_info ?_))
  refine (HK.out _).mono ?_
  rintro o w1 ⟨rfl, b1⟩
  have g1 : Blk w1 (w.heap.size + 1) 30 (cellsOf a2) := G0.out.below b1 G0.out.lt
  have d1 : Below w.heap.size w w1 := B0.out.trans (b1.mono B0.out.size)
  have ee := D0.out.below b1 D0.out.lt
  have dd0 : w1.cell? ⟨w.heap.size, 0, none⟩ = some (.int .u16 (a1 0)) := ee.cell 0
  have dd1 : w1.cell? ⟨w.heap.size, 1, none⟩ = some (.int .u16 (a1 1)) := ee.cell 1
  have dd2 : w1.cell? ⟨w.heap.size, 2, none⟩ = some (.int .u16 (a1 2)) := ee.cell 2
  rw [hx0] at dd0
  rw [hx1] at dd1
  rw [hx2] at dd2
  clear G0 B0 b1 D0 ee hx0 hx1 hx2
  have G1 := Lib.hid g1
  have B1 := Lib.hid d1
  clear g1 d1 
  go_upto_region 3 with (fail)
  go_quiet (fail)
  go_upto_region 4 with (fail)
  have G2 : Hid (Blk (w1.drewN nq) (w.heap.size + 1) 30 (cellsOf a2)) := Lib.hid G1.out
  have B2 : Hid (Below w.heap.size w (w1.drewN nq)) := Lib.hid (below_drewN B1.out nq)
  clear G1 B1 dd0 dd1 dd2
  generalize w1.drewN nq = W2 at *
  have V_2 : Hid (VB (W2.alloc (.cells (cellsV (⟨a0, 3, false, 0, -1, -1, -1⟩ : Val)) 28)) W2.heap.size ⟨a0, 3, false, 0, -1, -1, -1⟩) := Lib.hid (Blk.new _ _ _)
  have G2v : Hid (Blk (W2.alloc (.cells (cellsV (⟨a0, 3, false, 0, -1, -1, -1⟩ : Val)) 28)) (w.heap.size + 1) 30 (cellsOf a2)) := Lib.hid (G2.out.alloc _)
  have B2v : Hid (Below w.heap.size w (W2.alloc (.cells (cellsV (⟨a0, 3, false, 0, -1, -1, -1⟩ : Val)) 28))) := Lib.hid (B2.out.alloc B2.out.size _)
  clear G2 B2
  go_wp2_with (first | (refine wpList_build_val rfl 28 _ rfl (⟨a0, 3, false, 0, -1, -1, -1⟩ : Val) (by kernel_rfl) ?_) | (refine wpList_store_row rfl _ _ _ rfl W2.heap.size (cellsV (⟨a0, 3, false, 0, -1, -1, -1⟩ : Val)) rfl rfl 28 _ (heap_alloc_new W2 _) infoV rfl (cellsV_one _) ?_; rw [World.setRow_alloc_new]) | (refine wpList_load_row rfl 30 _ rfl (w.heap.size + 1) rfl 30 _ (0, 0) _ G2v.out Try.underlying30 rfl cfg_info ?_) | (refine wpList_load_row rfl 28 _ rfl W2.heap.size rfl 28 _ (0, 0) _ V_2.out Try.underlying28 rfl infoV ?_))
  refine (H1.out _).mono ?_
  rintro o w3 ⟨rfl, b3⟩
  have g3 : Blk w3 (w.heap.size + 1) 30 (cellsOf a2) := G2v.out.below b3 G2v.out.lt
  have d3 : Below w.heap.size w w3 := B2v.out.trans (b3.mono B2v.out.size)
  have hV3 : VB w3 W2.heap.size (⟨a0, 3, false, 0, -1, -1, -1⟩ : Val) := old_vb V_2.out b3
  clear G2v B2v V_2 b3
  have G3 : Hid (Blk (w3.alloc (.cells (cellsV (⟨a0, 3, false, 0, x0, p, -1⟩ : Val)) 28)) (w.heap.size + 1) 30 (cellsOf a2)) := Lib.hid (g3.alloc _)
  have B3 : Hid (Below w.heap.size w (w3.alloc (.cells (cellsV (⟨a0, 3, false, 0, x0, p, -1⟩ : Val)) 28))) := Lib.hid (d3.alloc d3.size _)
  have V_3 : Hid (VB (w3.alloc (.cells (cellsV (⟨a0, 3, false, 0, x0, p, -1⟩ : Val)) 28)) W2.heap.size (⟨a0, 3, false, 0, -1, -1, -1⟩ : Val)) := Lib.hid (Blk.alloc hV3 _)
  have neVX : W2.heap.size ≠ w3.heap.size := Nat.ne_of_lt hV3.lt
  have X_3 : Hid (VB (w3.alloc (.cells (cellsV (⟨a0, 3, false, 0, x0, p, -1⟩ : Val)) 28)) w3.heap.size (⟨a0, 3, false, 0, x0, p, -1⟩ : Val)) := Lib.hid (Blk.new _ _ _)
  have ngX : w.heap.size + 1 ≠ w3.heap.size := Nat.ne_of_lt g3.lt
  have nbX : w.heap.size ≤ w3.heap.size := d3.size
  clear g3 d3 hV3
  go_wp2_with (first | (refine wpList_store_row rfl _ _ _ rfl w3.heap.size (cellsV (⟨a0, 3, false, 0, x0, p, -1⟩ : Val)) rfl rfl 28 _ (heap_alloc_new w3 _) infoV rfl (cellsV_one _) ?_; rw [World.setRow_alloc_new]) | (refine wpList_load_row rfl 30 _ rfl (w.heap.size + 1) rfl 30 _ (0, 0) _ G3.out Try.underlying30 rfl cfg_info ?_) | (refine wpList_load_row rfl 28 _ rfl W2.heap.size rfl 28 _ (0, 0) _ V_3.out Try.underlying28 rfl infoV ?_) | (refine wpList_load_row rfl 28 _ rfl w3.heap.size rfl 28 _ (0, 0) _ X_3.out Try.underlying28 rfl infoV ?_))
  refine (H2.out _).mono ?_
  rintro o w4 ⟨rfl, b4⟩
  have g4 : Blk w4 (w.heap.size + 1) 30 (cellsOf a2) := G3.out.below b4 G3.out.lt
  have d4 : Below w.heap.size w w4 := B3.out.trans (b4.mono B3.out.size)
  have hV4 : VB w4 W2.heap.size (⟨a0, 3, false, 0, -1, -1, -1⟩ : Val) := old_vb V_3.out b4
  have hX4 : VB w4 w3.heap.size (⟨a0, 3, false, 0, x0, p, -1⟩ : Val) := old_vb X_3.out b4
  clear G3 B3 V_3 X_3 b4
  have G4 : Hid (Blk (w4.setRow w3.heap.size (cellsV (⟨z, 3, true, 0, x0, max p r, -1⟩ : Val))) (w.heap.size + 1) 30 (cellsOf a2)) := Lib.hid (Blk.setRow_far g4 ngX _)
  have B4 : Hid (Below w.heap.size w (w4.setRow w3.heap.size (cellsV (⟨z, 3, true, 0, x0, max p r, -1⟩ : Val)))) := Lib.hid (below_setRow d4 nbX _)
  have V_4 : Hid (VB (w4.setRow w3.heap.size (cellsV (⟨z, 3, true, 0, x0, max p r, -1⟩ : Val))) W2.heap.size (⟨a0, 3, false, 0, -1, -1, -1⟩ : Val)) := Lib.hid (Blk.setRow_far hV4 neVX _)
  have X_4 : Hid (VB (w4.setRow w3.heap.size (cellsV (⟨z, 3, true, 0, x0, max p r, -1⟩ : Val))) w3.heap.size (⟨z, 3, true, 0, x0, max p r, -1⟩ : Val)) := Lib.hid (Blk.setRow hX4 _)
  have S4 := Lib.hid hX4
  clear g4 d4 hV4 hX4
  go_wp2_with (first | (refine wpList_store_row rfl _ _ _ rfl w3.heap.size (cellsV (⟨z, 3, true, 0, x0, max p r, -1⟩ : Val)) rfl rfl 28 _ S4.out infoV rfl (cellsV_one _) ?_) | (refine wpList_load_row rfl 30 _ rfl (w.heap.size + 1) rfl 30 _ (0, 0) _ G4.out Try.underlying30 rfl cfg_info ?_) | (refine wpList_load_row rfl 28 _ rfl W2.heap.size rfl 28 _ (0, 0) _ V_4.out Try.underlying28 rfl infoV ?_) | (refine wpList_load_row rfl 28 _ rfl w3.heap.size rfl 28 _ (0, 0) _ X_4.out Try.underlying28 rfl infoV ?_))
  refine (H3.out _).mono ?_
  rintro o w5 ⟨rfl, b5⟩
  have g5 : Blk w5 (w.heap.size + 1) 30 (cellsOf a2) := G4.out.below b5 G4.out.lt
  have d5 : Below w.heap.size w w5 := B4.out.trans (b5.mono B4.out.size)
  have hV5 : VB w5 W2.heap.size (⟨a0, 3, false, 0, -1, -1, -1⟩ : Val) := old_vb V_4.out b5
  have hX5 : VB w5 w3.heap.size (⟨z, 3, true, 0, x0, max p r, -1⟩ : Val) := old_vb X_4.out b5
  clear G4 B4 V_4 X_4 b5
  have G5 : Hid (Blk (w5.alloc (.cells (cellsV (⟨z, 3, true, 0, -1, r, -1⟩ : Val)) 28)) (w.heap.size + 1) 30 (cellsOf a2)) := Lib.hid (g5.alloc _)
  have B5 : Hid (Below w.heap.size w (w5.alloc (.cells (cellsV (⟨z, 3, true, 0, -1, r, -1⟩ : Val)) 28))) := Lib.hid (d5.alloc d5.size _)
  have V_5 : Hid (VB (w5.alloc (.cells (cellsV (⟨z, 3, true, 0, -1, r, -1⟩ : Val)) 28)) W2.heap.size (⟨a0, 3, false, 0, -1, -1, -1⟩ : Val)) := Lib.hid (Blk.alloc hV5 _)
  have neVY : W2.heap.size ≠ w5.heap.size := Nat.ne_of_lt hV5.lt
  have X_5 : Hid (VB (w5.alloc (.cells (cellsV (⟨z, 3, true, 0, -1, r, -1⟩ : Val)) 28)) w3.heap.size (⟨z, 3, true, 0, x0, max p r, -1⟩ : Val)) := Lib.hid (Blk.alloc hX5 _)
  have neXY : w3.heap.size ≠ w5.heap.size := Nat.ne_of_lt hX5.lt
  have Y_5 : Hid (VB (w5.alloc (.cells (cellsV (⟨z, 3, true, 0, -1, r, -1⟩ : Val)) 28)) w5.heap.size (⟨z, 3, true, 0, -1, r, -1⟩ : Val)) := Lib.hid (Blk.new _ _ _)
  have ngY : w.heap.size + 1 ≠ w5.heap.size := Nat.ne_of_lt g5.lt
  have nbY : w.heap.size ≤ w5.heap.size := d5.size
  clear g5 d5 hV5 hX5
  go_wp2_with (first | (refine wpList_store_row rfl _ _ _ rfl w5.heap.size (cellsV (⟨z, 3, true, 0, -1, r, -1⟩ : Val)) rfl rfl 28 _ (heap_alloc_new w5 _) infoV rfl (cellsV_one _) ?_; rw [World.setRow_alloc_new]) | (refine wpList_load_row rfl 30 _ rfl (w.heap.size + 1) rfl 30 _ (0, 0) _ G5.out Try.underlying30 rfl cfg_info ?_) | (refine wpList_load_row rfl 28 _ rfl W2.heap.size rfl 28 _ (0, 0) _ V_5.out Try.underlying28 rfl infoV ?_) | (refine wpList_load_row rfl 28 _ rfl w3.heap.size rfl 28 _ (0, 0) _ X_5.out Try.underlying28 rfl infoV ?_) | (refine wpList_load_row rfl 28 _ rfl w5.heap.size rfl 28 _ (0, 0) _ Y_5.out Try.underlying28 rfl infoV ?_))
  refine (H4.out _).mono ?_
  rintro o w6 ⟨rfl, b6⟩
  have g6 : Blk w6 (w.heap.size + 1) 30 (cellsOf a2) := G5.out.below b6 G5.out.lt
  have d6 : Below w.heap.size w w6 := B5.out.trans (b6.mono B5.out.size)
  have hV6 : VB w6 W2.heap.size (⟨a0, 3, false, 0, -1, -1, -1⟩ : Val) := old_vb V_5.out b6
  have hX6 : VB w6 w3.heap.size (⟨z, 3, true, 0, x0, max p r, -1⟩ : Val) := old_vb X_5.out b6
  have hY6 : VB w6 w5.heap.size (⟨z, 3, true, 0, -1, r, -1⟩ : Val) := old_vb Y_5.out b6
  clear G5 B5 V_5 X_5 Y_5 b6
  have G6 : Hid (Blk (w6.setRow w5.heap.size (cellsV (⟨z, 3, true, 0, x0, max p r, -1⟩ : Val))) (w.heap.size + 1) 30 (cellsOf a2)) := Lib.hid (Blk.setRow_far g6 ngY _)
  have B6 : Hid (Below w.heap.size w (w6.setRow w5.heap.size (cellsV (⟨z, 3, true, 0, x0, max p r, -1⟩ : Val)))) := Lib.hid (below_setRow d6 nbY _)
  have V_6 : Hid (VB (w6.setRow w5.heap.size (cellsV (⟨z, 3, true, 0, x0, max p r, -1⟩ : Val))) W2.heap.size (⟨a0, 3, false, 0, -1, -1, -1⟩ : Val)) := Lib.hid (Blk.setRow_far hV6 neVY _)
  have X_6 : Hid (VB (w6.setRow w5.heap.size (cellsV (⟨z, 3, true, 0, x0, max p r, -1⟩ : Val))) w3.heap.size (⟨z, 3, true, 0, x0, max p r, -1⟩ : Val)) := Lib.hid (Blk.setRow_far hX6 neXY _)
  have Y_6 : Hid (VB (w6.setRow w5.heap.size (cellsV (⟨z, 3, true, 0, x0, max p r, -1⟩ : Val))) w5.heap.size (⟨z, 3, true, 0, x0, max p r, -1⟩ : Val)) := Lib.hid (Blk.setRow hY6 _)
  have S6 := Lib.hid hY6
  clear g6 d6 hV6 hX6 hY6
  have x5 : (w6.setRow w5.heap.size (cellsV (⟨z, 3, true, 0, x0, max p r, -1⟩ : Val))).cell? ⟨w3.heap.size, 5, none⟩ = some (.int .i64 (max p r)) := Blk.cell X_6.out 5
  have c10 : (w6.setRow w5.heap.size (cellsV (⟨z, 3, true, 0, x0, max p r, -1⟩ : Val))).cell? ⟨w.heap.size + 1, 10, none⟩ = some (.int .i64 (a2 10)) := G6.out.cell 10
  have c11 : (w6.setRow w5.heap.size (cellsV (⟨z, 3, true, 0, x0, max p r, -1⟩ : Val))).cell? ⟨w.heap.size + 1, 11, none⟩ = some (.int .i64 (a2 11)) := G6.out.cell 11
  go_upto_region 9 with (refine wpList_store_row rfl _ _ _ rfl w5.heap.size (cellsV (⟨z, 3, true, 0, x0, max p r, -1⟩ : Val)) rfl rfl 28 _ S6.out infoV rfl (cellsV_one _) ?_)
  generalize hcur : (w6.setRow w5.heap.size (cellsV (⟨z, 3, true, 0, x0, max p r, -1⟩ : Val))) = W6 at *
  clear hcur
  go_upto_if 99 with (first | (go_skip) | (refine isload 30 _ (by with_reducible rfl) ?_; refine wpList_load_rowH 30 _ rfl (w.heap.size + 1) rfl rfl 30 (cellsOf a2) (0, 0) _ G6.out Try.underlying30 rfl cfg_info ?_) | (refine isload 28 _ (by with_reducible rfl) ?_; refine wpList_load_rowH 28 _ rfl W2.heap.size rfl rfl 28 (cellsV (⟨a0, 3, false, 0, -1, -1, -1⟩ : Val)) (0, 0) _ V_6.out Try.underlying28 rfl infoV ?_) | (refine isload 28 _ (by with_reducible rfl) ?_; refine wpList_load_rowH 28 _ rfl w3.heap.size rfl rfl 28 (cellsV (⟨z, 3, true, 0, x0, max p r, -1⟩ : Val)) (0, 0) _ X_6.out Try.underlying28 rfl infoV ?_) | (refine isload 28 _ (by with_reducible rfl) ?_; refine wpList_load_rowH 28 _ rfl w5.heap.size rfl rfl 28 (cellsV (⟨z, 3, true, 0, x0, max p r, -1⟩ : Val)) (0, 0) _ Y_6.out Try.underlying28 rfl infoV ?_))
  clear x5 c10 c11
  have fx := X_6.out.fz 1
  have x1c : W6.cell? ⟨w3.heap.size, 1, none⟩ = some (.int .i64 3) := Blk.cell X_6.out 1
  go_upto_region 12 with (fail)
  have X_7 : Hid (VB (W6.setCell ⟨w3.heap.size, 1, none⟩ (.int .i64 5)) w3.heap.size (⟨z, 5, true, 0, x0, max p r, -1⟩ : Val)) := Lib.hid (X_6.out.set rfl)
  have G7 : Hid (Blk (W6.setCell ⟨w3.heap.size, 1, none⟩ (.int .i64 5)) (w.heap.size + 1) 30 (cellsOf a2)) := Lib.hid (Blk.far G6.out ngX _)
  have B7 : Hid (Below w.heap.size w (W6.setCell ⟨w3.heap.size, 1, none⟩ (.int .i64 5))) := Lib.hid (below_only B6.out (only_setCell (only_refl _ _) (.inl rfl) _) B6.out.size nbX)
  clear fx x1c X_6 Y_6 V_6 G6 B6
  generalize hcur : W6.setCell ⟨w3.heap.size, 1, none⟩ (.int .i64 5) = W7 at *
  clear hcur
  go_wp2_with (first | (refine wpList_load_row rfl 30 _ rfl (w.heap.size + 1) rfl 30 _ (0, 0) _ G7.out Try.underlying30 rfl cfg_info ?_) | (refine wpList_load_row rfl 28 _ rfl w3.heap.size rfl 28 _ (0, 0) _ X_7.out Try.underlying28 rfl infoV ?_))
  refine (H5.out _).mono ?_
  rintro o w8 ⟨rfl, b8⟩
  have g8 : Blk w8 (w.heap.size + 1) 30 (cellsOf a2) := G7.out.below b8 G7.out.lt
  have d8 : Below w.heap.size w w8 := B7.out.trans (b8.mono B7.out.size)
  have hX8 : VB w8 w3.heap.size (⟨z, 5, true, 0, x0, max p r, -1⟩ : Val) := old_vb X_7.out b8
  clear G7 B7 X_7 b8
  have G8 : Hid (Blk (w8.alloc (.cells (cellsV (⟨0, 6, true, 0, x0, max p r, -1⟩ : Val)) 28)) (w.heap.size + 1) 30 (cellsOf a2)) := Lib.hid (g8.alloc _)
  have B8 : Hid (Below w.heap.size w (w8.alloc (.cells (cellsV (⟨0, 6, true, 0, x0, max p r, -1⟩ : Val)) 28))) := Lib.hid (d8.alloc d8.size _)
  have X_8 : Hid (VB (w8.alloc (.cells (cellsV (⟨0, 6, true, 0, x0, max p r, -1⟩ : Val)) 28)) w3.heap.size (⟨z, 5, true, 0, x0, max p r, -1⟩ : Val)) := Lib.hid (Blk.alloc hX8 _)
  have neXZ : w3.heap.size ≠ w8.heap.size := Nat.ne_of_lt hX8.lt
  have Z_8 : Hid (VB (w8.alloc (.cells (cellsV (⟨0, 6, true, 0, x0, max p r, -1⟩ : Val)) 28)) w8.heap.size (⟨0, 6, true, 0, x0, max p r, -1⟩ : Val)) := Lib.hid (Blk.new _ _ _)
  have ngZ : w.heap.size + 1 ≠ w8.heap.size := Nat.ne_of_lt g8.lt
  have nbZ : w.heap.size ≤ w8.heap.size := d8.size
  clear g8 d8 hX8
  go_wp2_with (first | (refine wpList_store_row rfl _ _ _ rfl w8.heap.size (cellsV (⟨0, 6, true, 0, x0, max p r, -1⟩ : Val)) rfl rfl 28 _ (heap_alloc_new w8 _) infoV rfl (cellsV_one _) ?_; rw [World.setRow_alloc_new]) | (refine wpList_load_row rfl 30 _ rfl (w.heap.size + 1) rfl 30 _ (0, 0) _ G8.out Try.underlying30 rfl cfg_info ?_) | (refine wpList_load_row rfl 28 _ rfl w3.heap.size rfl 28 _ (0, 0) _ X_8.out Try.underlying28 rfl infoV ?_) | (refine wpList_load_row rfl 28 _ rfl w8.heap.size rfl 28 _ (0, 0) _ Z_8.out Try.underlying28 rfl infoV ?_))
  refine (HV.out _).mono ?_
  rintro o w9 ⟨rfl, b9⟩
  have g9 : Blk w9 (w.heap.size + 1) 30 (cellsOf a2) := G8.out.below b9 G8.out.lt
  have d9 : Below w.heap.size w w9 := B8.out.trans (b9.mono B8.out.size)
  have hX9 : VB w9 w3.heap.size (⟨z, 5, true, 0, x0, max p r, -1⟩ : Val) := old_vb X_8.out b9
  have hZ9 : VB w9 w8.heap.size (⟨0, 6, true, 0, x0, max p r, -1⟩ : Val) := old_vb Z_8.out b9
  clear G8 B8 X_8 Z_8 b9
  have G9 := Lib.hid g9
  have B9 := Lib.hid d9
  have X_9 := Lib.hid hX9
  have Z_9 := Lib.hid hZ9
  clear g9 d9 hX9 hZ9
  have x0c : w9.cell? ⟨w3.heap.size, 0, none⟩ = some (.int .u64 z) := Blk.cell X_9.out 0
  have c10 : w9.cell? ⟨w.heap.size + 1, 10, none⟩ = some (.int .i64 (a2 10)) := G9.out.cell 10
  have c11 : w9.cell? ⟨w.heap.size + 1, 11, none⟩ = some (.int .i64 (a2 11)) := G9.out.cell 11
  go_wp2_with (first | (go_skip))
  go_ret
  exact ⟨rfl, B9.out⟩
end Go.Proofs.Ytfcjgllljejfcaa
