/- The walk of DeadlineMatches (written by mklaws.py). -/
import Derived.Test.YtjleklhajmhekaaLaw
namespace Go.Proofs.Ytjleklhajmhekaa
open Go Go.RowKit
set_option linter.unusedVariables false
set_option linter.unusedSimpArgs false
set_option maxRecDepth 100000

set_option maxHeartbeats 1600000 in
theorem walk_DeadlineMatches (a0 : Ex) (a1 : Nat → Int) (w : World) (w0 : FitsEx a0) (w1 : Fits a1) :
    Calls Try.prog 3 #[.agg (cellsEx a0), .agg (cellsOf a1)] w fun e w' => e = .returned (.bool true) ∧ Below w.heap.size w w' := by
  have HK := Lib.hid (refCheck_any a1)
  have HV := Lib.hid alive_any
  have T0 := Lib.hid (Bx.new w a0 a1)
  by_cases hc : chk a1 = 0
  · have G := good_of_chk w1 hc
    rw [hc] at HK
    have HB1 := Lib.hid (fun w => law_b G w0 w)
    have HB2 := Lib.hid (fun w => law_rb G w0 w)
    have HX1 := Lib.hid (fun w => law_x G w0 w)
    have HX2 := Lib.hid (fun w => law_rx G w0 w)
    have HW1 := Lib.hid (fun w => law_w G w0 w)
    have HW2 := Lib.hid (fun w => law_rw G w0 w)
    have HP1 := Lib.hid (fun w => law_p G w0 w)
    have HP2 := Lib.hid (fun w => law_rp G w0 w)
    have HS := Lib.hid (fun w => sweep_any a1 G w)
    have HT := Lib.hid (fun w => refSweep_any a1 G w)
    obtain ⟨k1, b1, hk1⟩ := laterIs_pair (bnd a0.ah a0.wt a1)
    rw [hk1] at HB1 HB2
    obtain ⟨k2, b2, hk2⟩ := laterIs_pair (lastE a0.ah a0.wt a1 0 a0.ep)
    rw [hk2] at HX1 HX2
    obtain ⟨k3, b3, hk3⟩ := laterIs_pair (lastE a0.ah a0.wt a1 (a1 10) a0.ep)
    rw [hk3] at HW1 HW2
    obtain ⟨k4, b4, hk4⟩ := laterIs_pair (lastE a0.ah a0.wt a1 (a1 10 + sweepN a1) a0.ep)
    rw [hk4] at HP1 HP2
    have p1 : (k1 == k1) = true := by simp
    have q1 : (b1 == b1) = true := by simp
    have p2 : (k2 == k2) = true := by simp
    have q2 : (b2 == b2) = true := by simp
    have p3 : (k3 == k3) = true := by simp
    have q3 : (b3 == b3) = true := by simp
    have p4 : (k4 == k4) = true := by simp
    have q4 : (b4 == b4) = true := by simp
    generalize sweepN a1 = n at *
    have q5 : (n == n) = true := by simp
    clear w0 w1 hc G hk1 hk2 hk3 hk4
    go_enter Try.func3, Try.ntmps3
    go_upto_region 1 with (fail)
    generalize (w.alloc (.cells (cellsEx a0) 24)).alloc (.cells (cellsOf a1) 26) = W at *
    have x0 := T0.out.x0
    have x1 := T0.out.x1
    have x2 := T0.out.x2
    have c10 := T0.out.c10
    go_wp2_with (first | (refine wpList_load_rowG rfl 26 _ rfl (w.heap.size + 1) rfl 26 _ (0, 0) _ T0.out.2.1 Try.underlying26 rfl info24 ?_))
    refine (HK.out _).mono ?_
    rintro o w1 ⟨rfl, b1⟩
    have T1 := Lib.hid (T0.out.next b1)
    clear x0 x1 x2 c10 T0 b1
    have x0 := T1.out.x0
    have x1 := T1.out.x1
    have x2 := T1.out.x2
    have c10 := T1.out.c10
    go_wp2_with (first | (refine wpList_load_rowG rfl 26 _ rfl (w.heap.size + 1) rfl 26 _ (0, 0) _ T1.out.2.1 Try.underlying26 rfl info24 ?_))
    refine (HB1.out _).mono ?_
    rintro o w2 ⟨rfl, b2⟩
    have T2 := Lib.hid (T1.out.next b2)
    clear x0 x1 x2 c10 T1 b2
    have x0 := T2.out.x0
    have x1 := T2.out.x1
    have x2 := T2.out.x2
    have c10 := T2.out.c10
    go_wp2_with (first | (refine wpList_load_rowG rfl 26 _ rfl (w.heap.size + 1) rfl 26 _ (0, 0) _ T2.out.2.1 Try.underlying26 rfl info24 ?_))
    refine (HB2.out _).mono ?_
    rintro o w3 ⟨rfl, b3⟩
    have T3 := Lib.hid (T2.out.next b3)
    clear x0 x1 x2 c10 T2 b3
    have x0 := T3.out.x0
    have x1 := T3.out.x1
    have x2 := T3.out.x2
    have c10 := T3.out.c10
    go_wp2_with (first | (refine wpList_load_rowG rfl 26 _ rfl (w.heap.size + 1) rfl 26 _ (0, 0) _ T3.out.2.1 Try.underlying26 rfl info24 ?_))
    refine (HX1.out _).mono ?_
    rintro o w4 ⟨rfl, b4⟩
    have T4 := Lib.hid (T3.out.next b4)
    clear x0 x1 x2 c10 T3 b4
    have x0 := T4.out.x0
    have x1 := T4.out.x1
    have x2 := T4.out.x2
    have c10 := T4.out.c10
    go_wp2_with (first | (refine wpList_load_rowG rfl 26 _ rfl (w.heap.size + 1) rfl 26 _ (0, 0) _ T4.out.2.1 Try.underlying26 rfl info24 ?_))
    refine (HX2.out _).mono ?_
    rintro o w5 ⟨rfl, b5⟩
    have T5 := Lib.hid (T4.out.next b5)
    clear x0 x1 x2 c10 T4 b5
    have x0 := T5.out.x0
    have x1 := T5.out.x1
    have x2 := T5.out.x2
    have c10 := T5.out.c10
    go_wp2_with (first | (refine wpList_load_rowG rfl 26 _ rfl (w.heap.size + 1) rfl 26 _ (0, 0) _ T5.out.2.1 Try.underlying26 rfl info24 ?_))
    refine (HW1.out _).mono ?_
    rintro o w6 ⟨rfl, b6⟩
    have T6 := Lib.hid (T5.out.next b6)
    clear x0 x1 x2 c10 T5 b6
    have x0 := T6.out.x0
    have x1 := T6.out.x1
    have x2 := T6.out.x2
    have c10 := T6.out.c10
    go_wp2_with (first | (refine wpList_load_rowG rfl 26 _ rfl (w.heap.size + 1) rfl 26 _ (0, 0) _ T6.out.2.1 Try.underlying26 rfl info24 ?_))
    refine (HW2.out _).mono ?_
    rintro o w7 ⟨rfl, b7⟩
    have T7 := Lib.hid (T6.out.next b7)
    clear x0 x1 x2 c10 T6 b7
    have x0 := T7.out.x0
    have x1 := T7.out.x1
    have x2 := T7.out.x2
    have c10 := T7.out.c10
    go_wp2_with (first | (refine wpList_load_rowG rfl 26 _ rfl (w.heap.size + 1) rfl 26 _ (0, 0) _ T7.out.2.1 Try.underlying26 rfl info24 ?_))
    refine (HP1.out _).mono ?_
    rintro o w8 ⟨rfl, b8⟩
    have T8 := Lib.hid (T7.out.next b8)
    clear x0 x1 x2 c10 T7 b8
    have x0 := T8.out.x0
    have x1 := T8.out.x1
    have x2 := T8.out.x2
    have c10 := T8.out.c10
    go_wp2_with (first | (refine wpList_load_rowG rfl 26 _ rfl (w.heap.size + 1) rfl 26 _ (0, 0) _ T8.out.2.1 Try.underlying26 rfl info24 ?_))
    refine (HP2.out _).mono ?_
    rintro o w9 ⟨rfl, b9⟩
    have T9 := Lib.hid (T8.out.next b9)
    clear x0 x1 x2 c10 T8 b9
    have x0 := T9.out.x0
    have x1 := T9.out.x1
    have x2 := T9.out.x2
    have c10 := T9.out.c10
    go_wp2_with (first | (refine wpList_load_rowG rfl 26 _ rfl (w.heap.size + 1) rfl 26 _ (0, 0) _ T9.out.2.1 Try.underlying26 rfl info24 ?_))
    clear x0 x1 x2 c10 HK HB1 HB2 HX1 HX2 HW1 HW2 HP1 HP2
    refine wp_region_class (fun w' => Bx w w' a0 a1 w.heap.size (w.heap.size + 1)) (by kernel_rfl) (by kernel_rfl) T9.out.drew ?_
    refine q_call (.bool true) #[] (by kernel_rfl) (by kernel_rfl) Try.call10 (fun _ h => h.call (HV.out _)) ?_
    simp only [Act.put, List.setIfInBounds_toArray, List.set_cons_zero, List.set_cons_succ]
    iterate 41 (go_big_quiet_step ((intros; rfl)))
    refine q_load 26 _ (w.heap.size + 1) 26 (cellsOf a1) _ (by kernel_rfl) rfl rfl (fun _ h => h.2.1) Try.underlying26 rfl info24 ?_
    simp only [Act.put, List.setIfInBounds_toArray, List.set_cons_zero, List.set_cons_succ]
    refine q_call (.int .i64 n) #[.agg (cellsOf a1)] (by kernel_rfl) (by kernel_rfl) Try.call18 (fun _ h => h.call (HS.out _)) ?_
    simp only [Act.put, List.setIfInBounds_toArray, List.set_cons_zero, List.set_cons_succ]
    refine q_load 26 _ (w.heap.size + 1) 26 (cellsOf a1) _ (by kernel_rfl) rfl rfl (fun _ h => h.2.1) Try.underlying26 rfl info24 ?_
    simp only [Act.put, List.setIfInBounds_toArray, List.set_cons_zero, List.set_cons_succ]
    refine q_call (.int .i64 n) #[.agg (cellsOf a1)] (by kernel_rfl) (by kernel_rfl) Try.call19 (fun _ h => h.call (HT.out _)) ?_
    simp only [Act.put, List.setIfInBounds_toArray, List.set_cons_zero, List.set_cons_succ]
    iterate 3 (go_big_quiet_step ((intros; rfl)))
    refine wpQuiet_nil ?_
    intro w20 h20
    go_wp2
    go_ret
    exact ⟨rfl, h20.2.2.1⟩
  · have hn : (chk a1 != 0) = true := by simpa using hc
    generalize chk a1 = x at *
    clear w0 w1 hc
    go_enter Try.func3, Try.ntmps3
    go_upto_region 1 with (fail)
    generalize (w.alloc (.cells (cellsEx a0) 24)).alloc (.cells (cellsOf a1) 26) = W at *
    have x0 := T0.out.x0
    have x1 := T0.out.x1
    have x2 := T0.out.x2
    have c10 := T0.out.c10
    go_wp2_with (first | (refine wpList_load_rowG rfl 26 _ rfl (w.heap.size + 1) rfl 26 _ (0, 0) _ T0.out.2.1 Try.underlying26 rfl info24 ?_))
    refine (HK.out _).mono ?_
    rintro o w1 ⟨rfl, b1⟩
    have T1 := Lib.hid (T0.out.next b1)
    clear x0 x1 x2 c10 T0 b1
    have x0 := T1.out.x0
    have x1 := T1.out.x1
    have x2 := T1.out.x2
    have c10 := T1.out.c10
    go_wp2_with (first | (refine wpList_load_rowG rfl 26 _ rfl (w.heap.size + 1) rfl 26 _ (0, 0) _ T1.out.2.1 Try.underlying26 rfl info24 ?_))
    refine (HV.out _).mono ?_
    rintro o w2 ⟨rfl, b2⟩
    have T2 := Lib.hid (T1.out.next b2)
    clear x0 x1 x2 c10 T1 b2
    have x0 := T2.out.x0
    have x1 := T2.out.x1
    have x2 := T2.out.x2
    have c10 := T2.out.c10
    go_wp2
    go_ret
    exact ⟨rfl, T2.out.2.2.1⟩
end Go.Proofs.Ytjleklhajmhekaa
