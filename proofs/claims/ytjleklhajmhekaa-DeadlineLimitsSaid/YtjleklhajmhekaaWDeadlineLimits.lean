/- The walk of DeadlineLimits (written by mklaws.py). -/
import Derived.Test.YtjleklhajmhekaaLaw
namespace Go.Proofs.Ytjleklhajmhekaa
open Go Go.RowKit
set_option linter.unusedVariables false
set_option linter.unusedSimpArgs false
set_option maxRecDepth 100000

/-- A negative epoch, and a sum that is too large. -/
theorem lim_p (v : Ex) {c : Nat → Int} (hg : Good c) (w : World) : Calls Try.prog 16 #[.int .i64 (-1 - max v.ep 0), .int .u64 1, .int .u64 1, .agg (cellsOf c)] w fun o w' => o = .returned (laterIs none) ∧ Below w.heap.size w w' := by
  have := pay_at hg (a := 1) (x := 1) ⟨by decide, by decide⟩ ⟨by decide, by decide⟩ (-1 - max v.ep 0) w
  have e : payG 1 1 c (-1 - max v.ep 0) = none := by
    rw [payG_eq hg]
    cases h : lastE 1 1 c (c 10 + sweepN c) (-1 - max v.ep 0) with
    | none => rfl
    | some s => obtain ⟨k, _, _, h3, _⟩ := lastE_some h; omega
  rwa [e] at this
theorem lim_b (v : Ex) {c : Nat → Int} (hg : Good c) (hv : FitsEx v) (w : World) : Calls Try.prog 11 #[.int .u64 18446744073709551615, .int .u64 (max v.wt 1), .agg (cellsOf c)] w fun o w' => o = .returned (laterIs none) ∧ Below w.heap.size w w' := by
  have hb := bounds_u64 hv.2.2
  have := boundaries_any hg (a := 18446744073709551615) (x := max v.wt 1) ⟨by decide, by decide⟩ ⟨by omega, by omega⟩ w
  rwa [bnd_sum (by have := hg.fcp0; omega)] at this

set_option maxHeartbeats 1600000 in
theorem walk_DeadlineLimits (a0 : Ex) (a1 : Nat → Int) (w : World) (w0 : FitsEx a0) (w1 : Fits a1) :
    Calls Try.prog 8 #[.agg (cellsEx a0), .agg (cellsOf a1)] w fun e w' => e = .returned (.bool true) ∧ Below w.heap.size w w' := by
  have HK := Lib.hid (refCheck_any a1)
  have HV := Lib.hid alive_any
  have T0 := Lib.hid (Bx.new w a0 a1)
  by_cases hc : chk a1 = 0
  · have G := good_of_chk w1 hc
    rw [hc] at HK
    have HP := Lib.hid (fun w => law_p G w0 w)
    have HQ := Lib.hid (fun w => lim_p a0 G w)
    have HB := Lib.hid (fun w => lim_b a0 G w0 w)
    have HF := Lib.hid (fun s (h : lastE a0.ah a0.wt a1 (a1 10 + sweepN a1) a0.ep = some s) => steps_facts G h)
    have g0 := bounds_i64 w0.1
    have g1 := bounds_u64 w0.2.2
    obtain ⟨y, hy⟩ : ∃ y, max a0.ep 0 = y := ⟨_, rfl⟩
    have y0 : 0 ≤ y ∧ y ≤ 9223372036854775807 := by omega
    rw [hy] at HQ
    obtain ⟨z, hz⟩ : ∃ z, max a0.wt 1 = z := ⟨_, rfl⟩
    rw [hz] at HB
    clear w0 w1 hc G
    generalize lastE a0.ah a0.wt a1 (a1 10 + sweepN a1) a0.ep = r at *
    rcases r with _ | s
    · unfold laterIs at HP HQ HB
      clear HF
      go_enter Try.func8, Try.ntmps8
      go_upto_region 1 with (fail)
      generalize (w.alloc (.cells (cellsEx a0) 24)).alloc (.cells (cellsOf a1) 26) = W at *
      have x0 := T0.out.x0
      have x1 := T0.out.x1
      have x2 := T0.out.x2
      have c10 := T0.out.c10
      go_wp2_with (first | (refine wpList_load_rowG rfl 26 _ rfl (w.heap.size + 1) rfl 26 _ (0, 0) _ T0.out.2.1 Try.underlying26 rfl info24 ?_))
      refine (HK.out _).mono ?_
      rintro o w1 ⟨rfl, b1⟩
      have T1 := Lib.hid (T0.out.next b1)
      clear x0 x1 x2 c10 T0 b1
      have x0 := T1.out.x0
      have x1 := T1.out.x1
      have x2 := T1.out.x2
      have c10 := T1.out.c10
      go_wp2_with (first | (refine wpList_load_rowG rfl 26 _ rfl (w.heap.size + 1) rfl 26 _ (0, 0) _ T1.out.2.1 Try.underlying26 rfl info24 ?_))
      refine (HP.out _).mono ?_
      rintro o w2 ⟨rfl, b2⟩
      have T2 := Lib.hid (T1.out.next b2)
      clear x0 x1 x2 c10 T1 b2
      have x0 := T2.out.x0
      have x1 := T2.out.x1
      have x2 := T2.out.x2
      have c10 := T2.out.c10
      go_wp2_with (first | (refine wpList_load_rowG rfl 26 _ rfl (w.heap.size + 1) rfl 26 _ (0, 0) _ T2.out.2.1 Try.underlying26 rfl info24 ?_))
      refine (HQ.out _).mono ?_
      rintro o w3 ⟨rfl, b3⟩
      have T3 := Lib.hid (T2.out.next b3)
      clear x0 x1 x2 c10 T2 b3
      have x0 := T3.out.x0
      have x1 := T3.out.x1
      have x2 := T3.out.x2
      have c10 := T3.out.c10
      go_wp2_with (first | (refine wpList_load_rowG rfl 26 _ rfl (w.heap.size + 1) rfl 26 _ (0, 0) _ T3.out.2.1 Try.underlying26 rfl info24 ?_))
      refine (HB.out _).mono ?_
      rintro o w4 ⟨rfl, b4⟩
      have T4 := Lib.hid (T3.out.next b4)
      clear x0 x1 x2 c10 T3 b4
      have x0 := T4.out.x0
      have x1 := T4.out.x1
      have x2 := T4.out.x2
      have c10 := T4.out.c10
      go_wp2_with (first | (refine wpList_load_rowG rfl 26 _ rfl (w.heap.size + 1) rfl 26 _ (0, 0) _ T4.out.2.1 Try.underlying26 rfl info24 ?_))
      refine (HV.out _).mono ?_
      rintro o w5 ⟨rfl, b5⟩
      have T5 := Lib.hid (T4.out.next b5)
      clear x0 x1 x2 c10 T4 b5
      have x0 := T5.out.x0
      have x1 := T5.out.x1
      have x2 := T5.out.x2
      have c10 := T5.out.c10
      go_wp2
      go_ret
      exact ⟨rfl, T5.out.2.2.1⟩
    · obtain ⟨e1, e2, f1, f2, f3, f4, f5, f6, f7⟩ := HF.out s rfl
      have q1 : decide (0 ≤ a0.ep) = true := by simpa using f3
      unfold laterIs at HP HQ HB
      clear HF f1 f2 f4 f5 f6 f7
      go_enter Try.func8, Try.ntmps8
      go_upto_region 1 with (fail)
      generalize (w.alloc (.cells (cellsEx a0) 24)).alloc (.cells (cellsOf a1) 26) = W at *
      have x0 := T0.out.x0
      have x1 := T0.out.x1
      have x2 := T0.out.x2
      have c10 := T0.out.c10
      go_wp2_with (first | (refine wpList_load_rowG rfl 26 _ rfl (w.heap.size + 1) rfl 26 _ (0, 0) _ T0.out.2.1 Try.underlying26 rfl info24 ?_))
      refine (HK.out _).mono ?_
      rintro o w1 ⟨rfl, b1⟩
      have T1 := Lib.hid (T0.out.next b1)
      clear x0 x1 x2 c10 T0 b1
      have x0 := T1.out.x0
      have x1 := T1.out.x1
      have x2 := T1.out.x2
      have c10 := T1.out.c10
      go_wp2_with (first | (refine wpList_load_rowG rfl 26 _ rfl (w.heap.size + 1) rfl 26 _ (0, 0) _ T1.out.2.1 Try.underlying26 rfl info24 ?_))
      refine (HP.out _).mono ?_
      rintro o w2 ⟨rfl, b2⟩
      have T2 := Lib.hid (T1.out.next b2)
      clear x0 x1 x2 c10 T1 b2
      have x0 := T2.out.x0
      have x1 := T2.out.x1
      have x2 := T2.out.x2
      have c10 := T2.out.c10
      go_wp2_with (first | (refine wpList_load_rowG rfl 26 _ rfl (w.heap.size + 1) rfl 26 _ (0, 0) _ T2.out.2.1 Try.underlying26 rfl info24 ?_))
      refine (HQ.out _).mono ?_
      rintro o w3 ⟨rfl, b3⟩
      have T3 := Lib.hid (T2.out.next b3)
      clear x0 x1 x2 c10 T2 b3
      have x0 := T3.out.x0
      have x1 := T3.out.x1
      have x2 := T3.out.x2
      have c10 := T3.out.c10
      go_wp2_with (first | (refine wpList_load_rowG rfl 26 _ rfl (w.heap.size + 1) rfl 26 _ (0, 0) _ T3.out.2.1 Try.underlying26 rfl info24 ?_))
      refine (HB.out _).mono ?_
      rintro o w4 ⟨rfl, b4⟩
      have T4 := Lib.hid (T3.out.next b4)
      clear x0 x1 x2 c10 T3 b4
      have x0 := T4.out.x0
      have x1 := T4.out.x1
      have x2 := T4.out.x2
      have c10 := T4.out.c10
      go_wp2_with (first | (refine wpList_load_rowG rfl 26 _ rfl (w.heap.size + 1) rfl 26 _ (0, 0) _ T4.out.2.1 Try.underlying26 rfl info24 ?_))
      refine (HV.out _).mono ?_
      rintro o w5 ⟨rfl, b5⟩
      have T5 := Lib.hid (T4.out.next b5)
      clear x0 x1 x2 c10 T4 b5
      have x0 := T5.out.x0
      have x1 := T5.out.x1
      have x2 := T5.out.x2
      have c10 := T5.out.c10
      go_wp2
      go_ret
      exact ⟨rfl, T5.out.2.2.1⟩
  · have hn : (chk a1 != 0) = true := by simpa using hc
    generalize chk a1 = x at *
    clear w0 w1 hc
    go_enter Try.func8, Try.ntmps8
    go_upto_region 1 with (fail)
    generalize (w.alloc (.cells (cellsEx a0) 24)).alloc (.cells (cellsOf a1) 26) = W at *
    have x0 := T0.out.x0
    have x1 := T0.out.x1
    have x2 := T0.out.x2
    have c10 := T0.out.c10
    go_wp2_with (first | (refine wpList_load_rowG rfl 26 _ rfl (w.heap.size + 1) rfl 26 _ (0, 0) _ T0.out.2.1 Try.underlying26 rfl info24 ?_))
    refine (HK.out _).mono ?_
    rintro o w1 ⟨rfl, b1⟩
    have T1 := Lib.hid (T0.out.next b1)
    clear x0 x1 x2 c10 T0 b1
    have x0 := T1.out.x0
    have x1 := T1.out.x1
    have x2 := T1.out.x2
    have c10 := T1.out.c10
    go_wp2_with (first | (refine wpList_load_rowG rfl 26 _ rfl (w.heap.size + 1) rfl 26 _ (0, 0) _ T1.out.2.1 Try.underlying26 rfl info24 ?_))
    refine (HV.out _).mono ?_
    rintro o w2 ⟨rfl, b2⟩
    have T2 := Lib.hid (T1.out.next b2)
    clear x0 x1 x2 c10 T1 b2
    have x0 := T2.out.x0
    have x1 := T2.out.x1
    have x2 := T2.out.x2
    have c10 := T2.out.c10
    go_wp2
    go_ret
    exact ⟨rfl, T2.out.2.2.1⟩
end Go.Proofs.Ytjleklhajmhekaa
