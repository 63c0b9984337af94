/- The walk of DeadlineSteps (written by mklaws.py). -/
import Derived.Test.YtjleklhajmhekaaLaw
namespace Go.Proofs.Ytjleklhajmhekaa
open Go Go.RowKit
set_option linter.unusedVariables false
set_option linter.unusedSimpArgs false
set_option maxRecDepth 100000

set_option maxHeartbeats 1600000 in
theorem walk_DeadlineSteps (a0 : Ex) (a1 : Nat → Int) (w : World) (w0 : FitsEx a0) (w1 : Fits a1) :
    Calls Try.prog 5 #[.agg (cellsEx a0), .agg (cellsOf a1)] w fun e w' => e = .returned (.bool true) ∧ Below w.heap.size w w' := by
  have HK := Lib.hid (refCheck_any a1)
  have HV := Lib.hid alive_any
  have T0 := Lib.hid (Bx.new w a0 a1)
  by_cases hc : chk a1 = 0
  · have G := good_of_chk w1 hc
    rw [hc] at HK
    have HP := Lib.hid (fun w => law_p G w0 w)
    have HX := Lib.hid (fun w => law_x G w0 w)
    have HW := Lib.hid (fun w => law_w G w0 w)
    have HS := Lib.hid (fun w => sweep_any a1 G w)
    have HF := Lib.hid (fun s (h : lastE a0.ah a0.wt a1 (a1 10 + sweepN a1) a0.ep = some s) => steps_facts G h)
    have hs := sweepN_bd G
    have hu0 := G.unb0
    have hu1 := G.unb1
    clear w0 w1 hc G
    generalize lastE a0.ah a0.wt a1 (a1 10 + sweepN a1) a0.ep = r at *
    rcases r with _ | s
    · unfold laterIs at HP
      clear HF HX HW HS
      go_enter Try.func5, Try.ntmps5
      go_upto_region 1 with (fail)
      generalize (w.alloc (.cells (cellsEx a0) 24)).alloc (.cells (cellsOf a1) 26) = W at *
      have x0 := T0.out.x0
      have x1 := T0.out.x1
      have x2 := T0.out.x2
      have c10 := T0.out.c10
      go_wp2_with (first | (refine wpList_load_rowG rfl 26 _ rfl (w.heap.size + 1) rfl 26 _ (0, 0) _ T0.out.2.1 Try.underlying26 rfl info24 ?_))
      refine (HK.out _).mono ?_
      rintro o w1 ⟨rfl, b1⟩
      have T1 := Lib.hid (T0.out.next b1)
      clear x0 x1 x2 c10 T0 b1
      have x0 := T1.out.x0
      have x1 := T1.out.x1
      have x2 := T1.out.x2
      have c10 := T1.out.c10
      go_wp2_with (first | (refine wpList_load_rowG rfl 26 _ rfl (w.heap.size + 1) rfl 26 _ (0, 0) _ T1.out.2.1 Try.underlying26 rfl info24 ?_))
      refine (HP.out _).mono ?_
      rintro o w2 ⟨rfl, b2⟩
      have T2 := Lib.hid (T1.out.next b2)
      clear x0 x1 x2 c10 T1 b2
      have x0 := T2.out.x0
      have x1 := T2.out.x1
      have x2 := T2.out.x2
      have c10 := T2.out.c10
      go_wp2_with (first | (refine wpList_load_rowG rfl 26 _ rfl (w.heap.size + 1) rfl 26 _ (0, 0) _ T2.out.2.1 Try.underlying26 rfl info24 ?_))
      refine (HV.out _).mono ?_
      rintro o w3 ⟨rfl, b3⟩
      have T3 := Lib.hid (T2.out.next b3)
      clear x0 x1 x2 c10 T2 b3
      have x0 := T3.out.x0
      have x1 := T3.out.x1
      have x2 := T3.out.x2
      have c10 := T3.out.c10
      go_wp2_with (first | (refine wpList_load_rowG rfl 26 _ rfl (w.heap.size + 1) rfl 26 _ (0, 0) _ T3.out.2.1 Try.underlying26 rfl info24 ?_))
      go_ret
      exact ⟨rfl, T3.out.2.2.1⟩
    · obtain ⟨e1, e2, f1, f2, f3, f4, f5, f6, f7⟩ := HF.out s rfl
      rw [f1] at HX
      rw [f2] at HW
      unfold laterIs at HP HX HW
      generalize sweepN a1 = n at *
      have hu := hu0
      have q1 : decide (a0.ep + 2 ≤ e1) = true := by simpa using f4
      have q2 : (e2 == e1 + a1 10) = true := by simpa using f5
      have q3 : (s == e2 + n) = true := by simpa using f6
      clear HF f1 f2
      go_enter Try.func5, Try.ntmps5
      go_upto_region 1 with (fail)
      generalize (w.alloc (.cells (cellsEx a0) 24)).alloc (.cells (cellsOf a1) 26) = W at *
      have x0 := T0.out.x0
      have x1 := T0.out.x1
      have x2 := T0.out.x2
      have c10 := T0.out.c10
      go_wp2_with (first | (refine wpList_load_rowG rfl 26 _ rfl (w.heap.size + 1) rfl 26 _ (0, 0) _ T0.out.2.1 Try.underlying26 rfl info24 ?_))
      refine (HK.out _).mono ?_
      rintro o w1 ⟨rfl, b1⟩
      have T1 := Lib.hid (T0.out.next b1)
      clear x0 x1 x2 c10 T0 b1
      have x0 := T1.out.x0
      have x1 := T1.out.x1
      have x2 := T1.out.x2
      have c10 := T1.out.c10
      go_wp2_with (first | (refine wpList_load_rowG rfl 26 _ rfl (w.heap.size + 1) rfl 26 _ (0, 0) _ T1.out.2.1 Try.underlying26 rfl info24 ?_))
      refine (HP.out _).mono ?_
      rintro o w2 ⟨rfl, b2⟩
      have T2 := Lib.hid (T1.out.next b2)
      clear x0 x1 x2 c10 T1 b2
      have x0 := T2.out.x0
      have x1 := T2.out.x1
      have x2 := T2.out.x2
      have c10 := T2.out.c10
      go_wp2_with (first | (refine wpList_load_rowG rfl 26 _ rfl (w.heap.size + 1) rfl 26 _ (0, 0) _ T2.out.2.1 Try.underlying26 rfl info24 ?_))
      refine (HX.out _).mono ?_
      rintro o w3 ⟨rfl, b3⟩
      have T3 := Lib.hid (T2.out.next b3)
      clear x0 x1 x2 c10 T2 b3
      have x0 := T3.out.x0
      have x1 := T3.out.x1
      have x2 := T3.out.x2
      have c10 := T3.out.c10
      go_wp2_with (first | (refine wpList_load_rowG rfl 26 _ rfl (w.heap.size + 1) rfl 26 _ (0, 0) _ T3.out.2.1 Try.underlying26 rfl info24 ?_))
      refine (HW.out _).mono ?_
      rintro o w4 ⟨rfl, b4⟩
      have T4 := Lib.hid (T3.out.next b4)
      clear x0 x1 x2 c10 T3 b4
      have x0 := T4.out.x0
      have x1 := T4.out.x1
      have x2 := T4.out.x2
      have c10 := T4.out.c10
      go_wp2_with (first | (refine wpList_load_rowG rfl 26 _ rfl (w.heap.size + 1) rfl 26 _ (0, 0) _ T4.out.2.1 Try.underlying26 rfl info24 ?_))
      refine (HV.out _).mono ?_
      rintro o w5 ⟨rfl, b5⟩
      have T5 := Lib.hid (T4.out.next b5)
      clear x0 x1 x2 c10 T4 b5
      have x0 := T5.out.x0
      have x1 := T5.out.x1
      have x2 := T5.out.x2
      have c10 := T5.out.c10
      go_wp2_with (first | (refine wpList_load_rowG rfl 26 _ rfl (w.heap.size + 1) rfl 26 _ (0, 0) _ T5.out.2.1 Try.underlying26 rfl info24 ?_))
      refine (HS.out _).mono ?_
      rintro o w6 ⟨rfl, b6⟩
      have T6 := Lib.hid (T5.out.next b6)
      clear x0 x1 x2 c10 T5 b6
      have x0 := T6.out.x0
      have x1 := T6.out.x1
      have x2 := T6.out.x2
      have c10 := T6.out.c10
      go_wp2
      go_ret
      exact ⟨rfl, T6.out.2.2.1⟩
  · have hn : (chk a1 != 0) = true := by simpa using hc
    generalize chk a1 = x at *
    clear w0 w1 hc
    go_enter Try.func5, Try.ntmps5
    go_upto_region 1 with (fail)
    generalize (w.alloc (.cells (cellsEx a0) 24)).alloc (.cells (cellsOf a1) 26) = W at *
    have x0 := T0.out.x0
    have x1 := T0.out.x1
    have x2 := T0.out.x2
    have c10 := T0.out.c10
    go_wp2_with (first | (refine wpList_load_rowG rfl 26 _ rfl (w.heap.size + 1) rfl 26 _ (0, 0) _ T0.out.2.1 Try.underlying26 rfl info24 ?_))
    refine (HK.out _).mono ?_
    rintro o w1 ⟨rfl, b1⟩
    have T1 := Lib.hid (T0.out.next b1)
    clear x0 x1 x2 c10 T0 b1
    have x0 := T1.out.x0
    have x1 := T1.out.x1
    have x2 := T1.out.x2
    have c10 := T1.out.c10
    go_wp2_with (first | (refine wpList_load_rowG rfl 26 _ rfl (w.heap.size + 1) rfl 26 _ (0, 0) _ T1.out.2.1 Try.underlying26 rfl info24 ?_))
    refine (HV.out _).mono ?_
    rintro o w2 ⟨rfl, b2⟩
    have T2 := Lib.hid (T1.out.next b2)
    clear x0 x1 x2 c10 T1 b2
    have x0 := T2.out.x0
    have x1 := T2.out.x1
    have x2 := T2.out.x2
    have c10 := T2.out.c10
    go_wp2
    go_ret
    exact ⟨rfl, T2.out.2.2.1⟩
end Go.Proofs.Ytjleklhajmhekaa
