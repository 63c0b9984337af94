/- The walk of MergeChecks (written by mklaw1.py). -/
import Derived.Test.YtnaheindlkehhaaLaw
namespace Go.Proofs.Ytnaheindlkehhaa
open Go Go.RowKit Go.Deep
set_option linter.unusedVariables false
set_option linter.unusedSimpArgs false
set_option maxRecDepth 100000

set_option maxHeartbeats 800000 in
theorem checks_bad (a0 a1 : Val) (a2 : Nat → Int) (w : World) (hc : chk a2 ≠ 0) :
    Calls Try.prog 3 #[.agg (cellsV a0), .agg (cellsV a1), .agg (cellsOf a2)] w fun e w' => e = .returned (.bool true) ∧ Below w.heap.size w w' := by
  have T0 := Lib.hid (Tri.new w a0 a1 a2)
  have HK := Lib.hid (refCheck_any a2)
  have HV := Lib.hid alive_any
  have hn : (chk a2 != 0) = true := by simpa using hc
  generalize chk a2 = x at *
  clear hc
  go_enter Try.func3, Try.ntmps3
  go_upto_region 1 with (fail)
  generalize ((w.alloc (.cells (cellsV a0) 24)).alloc (.cells (cellsV a1) 24)).alloc (.cells (cellsOf a2) 26) = W at *
  go_wp2_with (first | (refine wpList_load_row rfl 24 _ rfl w.heap.size rfl 24 _ (0, 0) _ T0.out.1 Try.underlying24 rfl infoV ?_) | (refine wpList_load_row rfl 24 _ rfl (w.heap.size + 1) rfl 24 _ (0, 0) _ T0.out.2.1 Try.underlying24 rfl infoV ?_) | (refine wpList_load_row rfl 26 _ rfl (w.heap.size + 2) rfl 26 _ (0, 0) _ T0.out.2.2.1 Try.underlying26 rfl info24 ?_))
  refine (HK.out _).mono ?_
  rintro e w1 ⟨rfl, b1⟩
  have T1 := Lib.hid (T0.out.next b1)
  clear b1 T0
  go_wp2_with (first | (refine wpList_load_row rfl 24 _ rfl w.heap.size rfl 24 _ (0, 0) _ T1.out.1 Try.underlying24 rfl infoV ?_) | (refine wpList_load_row rfl 24 _ rfl (w.heap.size + 1) rfl 24 _ (0, 0) _ T1.out.2.1 Try.underlying24 rfl infoV ?_) | (refine wpList_load_row rfl 26 _ rfl (w.heap.size + 2) rfl 26 _ (0, 0) _ T1.out.2.2.1 Try.underlying26 rfl info24 ?_))
  refine (HV.out _).mono ?_
  rintro e w2 ⟨rfl, b2⟩
  have T2 := Lib.hid (T1.out.next b2)
  clear b2 T1
  go_wp2
  go_ret
  exact ⟨rfl, T2.out.2.2.2⟩
set_option maxHeartbeats 1600000 in
theorem checks_err (a0 a1 : Val) (a2 : Nat → Int) (w : World) (w0 : FitsV a0) (w1 : FitsV a1) (hc : chk a2 = 0) (n : Int) (hn : chkM a0 a1 (a2 6) = n) (h0 : n ≠ 0) :
    Calls Try.prog 3 #[.agg (cellsV a0), .agg (cellsV a1), .agg (cellsOf a2)] w fun e w' => e = .returned (.bool true) ∧ Below w.heap.size w w' := by
  have T0 := Lib.hid (Tri.new w a0 a1 a2)
  have HK := Lib.hid (refCheck_any a2)
  have HV := Lib.hid alive_any
  rw [hc] at HK
  have HC := Lib.hid (fun w => check_any a0 a1 a2 w w0 w1)
  have HR := Lib.hid (fun w => refchk_any a0 a1 a2 w w0 w1)
  rw [hn] at HC HR
  have HA := Lib.hid (fun w => apply_err a0 a1 a2 w w0 w1 n hn h0)
  have q0 : (n != 0) = true := by simpa using h0
  have q1 : (n != n) = false := by simp
  clear w0 w1 hc hn h0
  go_enter Try.func3, Try.ntmps3
  go_upto_region 1 with (fail)
  generalize ((w.alloc (.cells (cellsV a0) 24)).alloc (.cells (cellsV a1) 24)).alloc (.cells (cellsOf a2) 26) = W at *
  go_wp2_with (first | (refine wpList_load_row rfl 24 _ rfl w.heap.size rfl 24 _ (0, 0) _ T0.out.1 Try.underlying24 rfl infoV ?_) | (refine wpList_load_row rfl 24 _ rfl (w.heap.size + 1) rfl 24 _ (0, 0) _ T0.out.2.1 Try.underlying24 rfl infoV ?_) | (refine wpList_load_row rfl 26 _ rfl (w.heap.size + 2) rfl 26 _ (0, 0) _ T0.out.2.2.1 Try.underlying26 rfl info24 ?_))
  refine (HK.out _).mono ?_
  rintro e w1 ⟨rfl, b1⟩
  have T1 := Lib.hid (T0.out.next b1)
  clear b1 T0
  go_wp2_with (first | (refine wpList_load_row rfl 24 _ rfl w.heap.size rfl 24 _ (0, 0) _ T1.out.1 Try.underlying24 rfl infoV ?_) | (refine wpList_load_row rfl 24 _ rfl (w.heap.size + 1) rfl 24 _ (0, 0) _ T1.out.2.1 Try.underlying24 rfl infoV ?_) | (refine wpList_load_row rfl 26 _ rfl (w.heap.size + 2) rfl 26 _ (0, 0) _ T1.out.2.2.1 Try.underlying26 rfl info24 ?_))
  refine (HC.out _).mono ?_
  rintro e w2 ⟨rfl, b2⟩
  have T2 := Lib.hid (T1.out.next b2)
  clear b2 T1
  go_wp2_with (first | (refine wpList_load_row rfl 24 _ rfl w.heap.size rfl 24 _ (0, 0) _ T2.out.1 Try.underlying24 rfl infoV ?_) | (refine wpList_load_row rfl 24 _ rfl (w.heap.size + 1) rfl 24 _ (0, 0) _ T2.out.2.1 Try.underlying24 rfl infoV ?_) | (refine wpList_load_row rfl 26 _ rfl (w.heap.size + 2) rfl 26 _ (0, 0) _ T2.out.2.2.1 Try.underlying26 rfl info24 ?_))
  refine (HA.out _).mono ?_
  rintro e w3 ⟨rfl, b3⟩
  have T3 := Lib.hid (T2.out.next b3)
  clear b3 T2
  have hz := zero_cells
  go_upto_region 5 with (first | (refine wpList_store_row rfl _ _ _ rfl w3.heap.size (cellsV val0) rfl rfl 24 _ (rows_first w3) infoV rfl (cellsV_one _) ?_) | (refine wpList_store_row rfl _ _ _ rfl (w3.heap.size + 1) (cellsV val0) rfl rfl 24 _ (rows_second w3 _) infoV rfl (cellsV_one _) ?_))
  have Z := Lib.hid (rows_both w3 val0 val0)
  have T4 : Hid (Tri w ((((w3.alloc (.cells (cellsV val0) 24)).alloc (.cells (cellsV val0) 24)).setRow w3.heap.size (cellsV val0)).setRow (w3.heap.size + 1) (cellsV val0)) a0 a1 a2) := Lib.hid (T3.out.next Z.out.2.2)
  have X4 : Hid (Blk ((((w3.alloc (.cells (cellsV val0) 24)).alloc (.cells (cellsV val0) 24)).setRow w3.heap.size (cellsV val0)).setRow (w3.heap.size + 1) (cellsV val0)) w3.heap.size 24 (cellsV val0) ∧ Blk ((((w3.alloc (.cells (cellsV val0) 24)).alloc (.cells (cellsV val0) 24)).setRow w3.heap.size (cellsV val0)).setRow (w3.heap.size + 1) (cellsV val0)) (w3.heap.size + 1) 24 (cellsV val0)) := Lib.hid ⟨Z.out.1, Z.out.2.1⟩
  generalize (((w3.alloc (.cells (cellsV val0) 24)).alloc (.cells (cellsV val0) 24)).setRow w3.heap.size (cellsV val0)).setRow (w3.heap.size + 1) (cellsV val0) = W4 at *
  clear Z T3 hz
  go_wp2_with (first | (refine wpList_load_row rfl 24 _ rfl w.heap.size rfl 24 _ (0, 0) _ T4.out.1 Try.underlying24 rfl infoV ?_) | (refine wpList_load_row rfl 24 _ rfl (w.heap.size + 1) rfl 24 _ (0, 0) _ T4.out.2.1 Try.underlying24 rfl infoV ?_) | (refine wpList_load_row rfl 26 _ rfl (w.heap.size + 2) rfl 26 _ (0, 0) _ T4.out.2.2.1 Try.underlying26 rfl info24 ?_))
  refine (HR.out _).mono ?_
  rintro e w5 ⟨rfl, b5⟩
  have T5 := Lib.hid (T4.out.next b5)
  have X5 : Hid (Blk w5 w3.heap.size 24 (cellsV val0) ∧ Blk w5 (w3.heap.size + 1) 24 (cellsV val0)) := Lib.hid ⟨X4.out.1.below b5 X4.out.1.lt, X4.out.2.below b5 X4.out.2.lt⟩
  clear b5 T4 X4
  go_wp2_with (first | (refine wpList_load_row rfl 24 _ rfl w.heap.size rfl 24 _ (0, 0) _ T5.out.1 Try.underlying24 rfl infoV ?_) | (refine wpList_load_row rfl 24 _ rfl (w.heap.size + 1) rfl 24 _ (0, 0) _ T5.out.2.1 Try.underlying24 rfl infoV ?_) | (refine wpList_load_row rfl 26 _ rfl (w.heap.size + 2) rfl 26 _ (0, 0) _ T5.out.2.2.1 Try.underlying26 rfl info24 ?_))
  refine (HV.out _).mono ?_
  rintro e w6 ⟨rfl, b6⟩
  have T6 := Lib.hid (T5.out.next b6)
  have X6 : Hid (Blk w6 w3.heap.size 24 (cellsV val0) ∧ Blk w6 (w3.heap.size + 1) 24 (cellsV val0)) := Lib.hid ⟨X5.out.1.below b6 X5.out.1.lt, X5.out.2.below b6 X5.out.2.lt⟩
  clear b6 T5 X5
  have he := fun w => same_val val0 w
  go_wp2_with (first | (go_skip) | (refine isload 24 _ (by with_reducible rfl) ?_; refine wpList_load_rowH 24 _ rfl w3.heap.size rfl rfl 24 (cellsV val0) (0, 0) _ X6.out.1 Try.underlying24 rfl infoV ?_) | (refine isload 24 _ (by with_reducible rfl) ?_; refine wpList_load_rowH 24 _ rfl (w3.heap.size + 1) rfl rfl 24 (cellsV val0) (0, 0) _ X6.out.2 Try.underlying24 rfl infoV ?_) | (refine wpList_valG (o := ⟨some 46, _, _, _, _, _⟩) (.agg (cellsV val0)) rfl (by kernel_rfl) ?_) | (refine wpList_valG (o := ⟨some 51, _, _, _, _, _⟩) (.agg (cellsV val0)) rfl (by kernel_rfl) ?_))
  go_ret
  exact ⟨rfl, T6.out.2.2.2⟩
set_option maxHeartbeats 1600000 in
theorem checks_ok (a0 a1 : Val) (a2 : Nat → Int) (w : World) (w0 : FitsV a0) (w1 : FitsV a1) (hc : chk a2 = 0) (hn : chkM a0 a1 (a2 6) = 0) :
    Calls Try.prog 3 #[.agg (cellsV a0), .agg (cellsV a1), .agg (cellsOf a2)] w fun e w' => e = .returned (.bool true) ∧ Below w.heap.size w w' := by
  have T0 := Lib.hid (Tri.new w a0 a1 a2)
  have HK := Lib.hid (refCheck_any a2)
  have HV := Lib.hid alive_any
  rw [hc] at HK
  have HC := Lib.hid (fun w => check_any a0 a1 a2 w w0 w1)
  have HR := Lib.hid (fun w => refchk_any a0 a1 a2 w w0 w1)
  rw [hn] at HC HR
  have HA := Lib.hid (fun w => apply_ok a0 a1 a2 w w0 w1 hn)
  have HM := Lib.hid (fun (a : Option Addr) (w : World) (h : Lst w (fun _ => False) a [a0, a1]) => refmove_any (fun _ => False) a [a0, a1] 2 0 1 a0 a1 w h (by simp) rfl rfl (by decide) w0 w1 (chk_ok hn).2.2.2.2.1)
  clear w0 w1 hc hn
  go_enter Try.func3, Try.ntmps3
  go_upto_region 1 with (fail)
  generalize ((w.alloc (.cells (cellsV a0) 24)).alloc (.cells (cellsV a1) 24)).alloc (.cells (cellsOf a2) 26) = W at *
  go_wp2_with (first | (refine wpList_load_row rfl 24 _ rfl w.heap.size rfl 24 _ (0, 0) _ T0.out.1 Try.underlying24 rfl infoV ?_) | (refine wpList_load_row rfl 24 _ rfl (w.heap.size + 1) rfl 24 _ (0, 0) _ T0.out.2.1 Try.underlying24 rfl infoV ?_) | (refine wpList_load_row rfl 26 _ rfl (w.heap.size + 2) rfl 26 _ (0, 0) _ T0.out.2.2.1 Try.underlying26 rfl info24 ?_))
  refine (HK.out _).mono ?_
  rintro e w1 ⟨rfl, b1⟩
  have T1 := Lib.hid (T0.out.next b1)
  clear b1 T0
  go_wp2_with (first | (refine wpList_load_row rfl 24 _ rfl w.heap.size rfl 24 _ (0, 0) _ T1.out.1 Try.underlying24 rfl infoV ?_) | (refine wpList_load_row rfl 24 _ rfl (w.heap.size + 1) rfl 24 _ (0, 0) _ T1.out.2.1 Try.underlying24 rfl infoV ?_) | (refine wpList_load_row rfl 26 _ rfl (w.heap.size + 2) rfl 26 _ (0, 0) _ T1.out.2.2.1 Try.underlying26 rfl info24 ?_))
  refine (HC.out _).mono ?_
  rintro e w2 ⟨rfl, b2⟩
  have T2 := Lib.hid (T1.out.next b2)
  clear b2 T1
  go_wp2_with (first | (refine wpList_load_row rfl 24 _ rfl w.heap.size rfl 24 _ (0, 0) _ T2.out.1 Try.underlying24 rfl infoV ?_) | (refine wpList_load_row rfl 24 _ rfl (w.heap.size + 1) rfl 24 _ (0, 0) _ T2.out.2.1 Try.underlying24 rfl infoV ?_) | (refine wpList_load_row rfl 26 _ rfl (w.heap.size + 2) rfl 26 _ (0, 0) _ T2.out.2.2.1 Try.underlying26 rfl info24 ?_))
  refine (HA.out _).mono ?_
  rintro e w3 ⟨rfl, b3⟩
  have T3 := Lib.hid (T2.out.next b3)
  clear b3 T2
  have hz := zero_cells
  go_upto_region 5 with (first | (refine wpList_store_row rfl _ _ _ rfl w3.heap.size (cellsV (mvS a0)) rfl rfl 24 _ (rows_first w3) infoV rfl (cellsV_one _) ?_) | (refine wpList_store_row rfl _ _ _ rfl (w3.heap.size + 1) (cellsV (mvD a0 a1)) rfl rfl 24 _ (rows_second w3 _) infoV rfl (cellsV_one _) ?_))
  have Z := Lib.hid (rows_both w3 (mvS a0) (mvD a0 a1))
  have T4 : Hid (Tri w ((((w3.alloc (.cells (cellsV val0) 24)).alloc (.cells (cellsV val0) 24)).setRow w3.heap.size (cellsV (mvS a0))).setRow (w3.heap.size + 1) (cellsV (mvD a0 a1))) a0 a1 a2) := Lib.hid (T3.out.next Z.out.2.2)
  have X4 : Hid (Blk ((((w3.alloc (.cells (cellsV val0) 24)).alloc (.cells (cellsV val0) 24)).setRow w3.heap.size (cellsV (mvS a0))).setRow (w3.heap.size + 1) (cellsV (mvD a0 a1))) w3.heap.size 24 (cellsV (mvS a0)) ∧ Blk ((((w3.alloc (.cells (cellsV val0) 24)).alloc (.cells (cellsV val0) 24)).setRow w3.heap.size (cellsV (mvS a0))).setRow (w3.heap.size + 1) (cellsV (mvD a0 a1))) (w3.heap.size + 1) 24 (cellsV (mvD a0 a1))) := Lib.hid ⟨Z.out.1, Z.out.2.1⟩
  generalize (((w3.alloc (.cells (cellsV val0) 24)).alloc (.cells (cellsV val0) 24)).setRow w3.heap.size (cellsV (mvS a0))).setRow (w3.heap.size + 1) (cellsV (mvD a0 a1)) = W4 at *
  clear Z T3 hz
  go_wp2_with (first | (refine wpList_load_row rfl 24 _ rfl w.heap.size rfl 24 _ (0, 0) _ T4.out.1 Try.underlying24 rfl infoV ?_) | (refine wpList_load_row rfl 24 _ rfl (w.heap.size + 1) rfl 24 _ (0, 0) _ T4.out.2.1 Try.underlying24 rfl infoV ?_) | (refine wpList_load_row rfl 26 _ rfl (w.heap.size + 2) rfl 26 _ (0, 0) _ T4.out.2.2.1 Try.underlying26 rfl info24 ?_))
  refine (HR.out _).mono ?_
  rintro e w5 ⟨rfl, b5⟩
  have T5 := Lib.hid (T4.out.next b5)
  have X5 : Hid (Blk w5 w3.heap.size 24 (cellsV (mvS a0)) ∧ Blk w5 (w3.heap.size + 1) 24 (cellsV (mvD a0 a1))) := Lib.hid ⟨X4.out.1.below b5 X4.out.1.lt, X4.out.2.below b5 X4.out.2.lt⟩
  clear b5 T4 X4
  go_upto_region 10 with (fail)
  go_wp2_with (first | (refine wpList_two rfl _ _ a0 a1 rfl rfl rfl ?_) | (refine wpList_load_row rfl 24 _ rfl w.heap.size rfl 24 _ (0, 0) _ T5.out.1 Try.underlying24 rfl infoV ?_) | (refine wpList_load_row rfl 24 _ rfl (w.heap.size + 1) rfl 24 _ (0, 0) _ T5.out.2.1 Try.underlying24 rfl infoV ?_) | (refine wpList_load_row rfl 26 _ rfl (w.heap.size + 2) rfl 26 _ (0, 0) _ T5.out.2.2.1 Try.underlying26 rfl info24 ?_))
  have ba : Below w5.heap.size w5 (w5.alloc (.cells (flat [a0, a1]).toArray 24)) := (Below.refl _ _).alloc (Nat.le_refl _) _
  refine (HM.out _ _ (lst_blk (Blk.new w5 _ _))).mono ?_
  rintro e w6 ⟨u, rfl, ho, b6⟩
  have b56 := ba.trans (b6.mono ba.size)
  obtain ⟨g, cp, rfl, hg, hg6, hr⟩ := owns_rows (n := 2) (l := [mvS a0, mvD a0 a1]) ho rfl (by decide)
  have T6 := Lib.hid (T5.out.next b56)
  have X6 : Hid (Blk w6 w3.heap.size 24 (cellsV (mvS a0)) ∧ Blk w6 (w3.heap.size + 1) 24 (cellsV (mvD a0 a1)) ∧ w6.rangeAt g 0 (mvS a0).row ∧ w6.rangeAt g 7 (mvD a0 a1).row ∧ g < w6.heap.size) := Lib.hid ⟨X5.out.1.below b56 X5.out.1.lt, X5.out.2.below b56 X5.out.2.lt, hr 0 _ rfl, hr 1 _ rfl, hg6⟩
  clear ba b6 b56 ho hr hg hg6 T5 X5 HM
  go_wp2
  refine wp_region_class (fun w' => Below w6.heap.size w6 w') (by kernel_rfl) (by kernel_rfl) (Below.refl _ _).drew ?_
  refine q_call (.bool true) #[] (by kernel_rfl) (by kernel_rfl) Try.call10 (fun w' h => (HV.out w').mono fun e w'' ⟨he, hb⟩ => ⟨he, h.trans (hb.mono h.size)⟩) ?_
  simp only [Act.put, List.setIfInBounds_toArray, List.set_cons_zero, List.set_cons_succ]
  iterate 1 (go_big_quiet_step ((intros; rfl)))
  refine q_load_val 24 _ w3.heap.size 0 (mvS a0) _ rfl rfl rfl (fun w' h => (X6.out.1.below h X6.out.1.lt).range) Try.underlying24 rfl infoV ?_
  simp only [Act.put, List.setIfInBounds_toArray, List.set_cons_zero, List.set_cons_succ]
  iterate 2 (go_big_quiet_step ((intros; rfl)))
  refine q_load_val 24 _ g 0 (mvS a0) _ rfl rfl rfl (fun w' h => World.rangeAt.same X6.out.2.2.1 (h.block g X6.out.2.2.2.2)) Try.underlying24 rfl infoV ?_
  simp only [Act.put, List.setIfInBounds_toArray, List.set_cons_zero, List.set_cons_succ]
  refine q_eqv (mvS a0) (mvS a0) true rfl rfl rfl (by simp) ?_
  simp only [Act.put, List.setIfInBounds_toArray, List.set_cons_zero, List.set_cons_succ]
  iterate 2 (go_big_quiet_step ((intros; rfl)))
  refine q_load_val 24 _ (w3.heap.size + 1) 0 (mvD a0 a1) _ rfl rfl rfl (fun w' h => (X6.out.2.1.below h X6.out.2.1.lt).range) Try.underlying24 rfl infoV ?_
  simp only [Act.put, List.setIfInBounds_toArray, List.set_cons_zero, List.set_cons_succ]
  iterate 2 (go_big_quiet_step ((intros; rfl)))
  refine q_load_val 24 _ g 7 (mvD a0 a1) _ rfl rfl rfl (fun w' h => World.rangeAt.same X6.out.2.2.2.1 (h.block g X6.out.2.2.2.2)) Try.underlying24 rfl infoV ?_
  simp only [Act.put, List.setIfInBounds_toArray, List.set_cons_zero, List.set_cons_succ]
  refine q_eqv (mvD a0 a1) (mvD a0 a1) true rfl rfl rfl (by simp) ?_
  simp only [Act.put, List.setIfInBounds_toArray, List.set_cons_zero, List.set_cons_succ]
  iterate 2 (go_big_quiet_step ((intros; rfl)))
  refine wpQuiet_nil ?_
  intro w7 b7
  have T7 := Lib.hid (T6.out.next b7)
  go_wp2
  go_ret
  exact ⟨rfl, T7.out.2.2.2⟩
theorem walk_MergeChecks (a0 a1 : Val) (a2 : Nat → Int) (w : World) (w0 : FitsV a0) (w1 : FitsV a1) (w2 : Fits a2) :
    Calls Try.prog 3 #[.agg (cellsV a0), .agg (cellsV a1), .agg (cellsOf a2)] w fun e w' => e = .returned (.bool true) ∧ Below w.heap.size w w' := by
  by_cases hc : chk a2 = 0
  · by_cases hn : chkM a0 a1 (a2 6) = 0
    · exact checks_ok a0 a1 a2 w w0 w1 hc hn
    · exact checks_err a0 a1 a2 w w0 w1 hc _ rfl hn
  · exact checks_bad a0 a1 a2 w hc
end Go.Proofs.Ytnaheindlkehhaa
