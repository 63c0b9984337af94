/- The walk of PenaltyDelays (written by mklaws.py). -/
import Derived.Test.YtfcjgllljejfcaaDelA
import Derived.Test.YtfcjgllljejfcaaDelB
namespace Go.Proofs.Ytfcjgllljejfcaa
open Go Go.RowKit
set_option linter.unusedVariables false
set_option linter.unusedSimpArgs false
set_option maxRecDepth 100000

theorem max_neg {n : Int} (h : 0 ≤ n) : max (-1) n = n := by omega
set_option maxHeartbeats 1600000 in
theorem walk_PenaltyDelays (a0 : Int) (a1 a2 : Nat → Int) (w : World) (w0 : (Lit.int .u64 a0).wf = true) (w1 : FitsH a1) (w2 : Fits a2) :
    Calls Try.prog 8 #[.int .u64 a0, .agg (cellsH a1), .agg (cellsOf a2)] w fun e w' => e = .returned (.bool true) ∧ Below w.heap.size w w' := by
  have HK := Lib.hid (refCheck_any a2)
  by_cases hc : chk a2 = 0
  · have G := good_of_chk w2 hc
    rw [hc] at HK
    have k0 := w1 0 (by omega)
    have k1 := w1 1 (by omega)
    have k2 := w1 2 (by omega)
    have u0 := G.ub0
    have u1 := G.ub1
    have s0 := G.sd0
    have s1 := G.sd1
    have hp : IntKind.i64.wrap (a1 0 + a2 10) = a1 0 + a2 10 := IntWalk.i64_in _ (by omega)
    have hr : IntKind.i64.wrap (a1 1 + a2 11) = a1 1 + a2 11 := IntWalk.i64_in _ (by omega)
    have lp : lOk (a1 0) (a2 10) := ⟨⟨k0.1, by omega⟩, by omega⟩
    have lr : lOk (a1 1) (a2 11) := ⟨⟨k1.1, by omega⟩, by omega⟩
    obtain ⟨q, hq⟩ : ∃ q, q = penQ ⟨a0, 3, false, 0, -1, -1, -1⟩ a2 := ⟨_, rfl⟩
    have fv : FitsV ⟨a0, 3, false, 0, -1, -1, -1⟩ := ⟨w0, (by decide : (Lit.int .i64 3).wf = true)⟩
    obtain ⟨q0, q1⟩ := pen_bound a2 fv
    have hb := bounds_u64 w0
    have wf : ∀ x : Int, 0 ≤ x → x ≤ 18446744073709551615 → (Lit.int .u64 x).wf = true := fun x h0 h1 => by
      simp [Lit.wf, IntKind.min, IntKind.max, IntKind.signed, IntKind.bits]; omega
    have E1 : runE [scheduleE (a1 0), holdE (a1 0) (a2 10)] ⟨a0, 3, false, 0, -1, -1, -1⟩ = (0, ⟨a0, 3, false, 0, a1 0, a1 0 + a2 10, -1⟩) := by
      rw [asg_ok (v := ⟨a0, 3, false, 0, -1, -1, -1⟩) ⟨rfl, rfl⟩ lp]
      simp only [max_neg (show 0 ≤ a1 0 + a2 10 by omega)]
    have E2 : slR ⟨a0, 3, false, 0, a1 0, a1 0 + a2 10, -1⟩ (a1 1) a2 = (0, ⟨a0 - q, 3, true, 0, a1 0, max (a1 0 + a2 10) (a1 1 + a2 11), -1⟩) := by
      rw [hq]
      exact (sl_ok (v := ⟨a0 - penQ ⟨a0, 3, false, 0, -1, -1, -1⟩ a2, 3, false, 0, a1 0, a1 0 + a2 10, -1⟩) rfl (show refN 3 7 ≠ 0 by decide) lr).trans rfl
    have E3 : slR ⟨a0, 3, false, 0, -1, -1, -1⟩ (a1 1) a2 = (0, ⟨a0 - q, 3, true, 0, -1, a1 1 + a2 11, -1⟩) := by
      rw [hq]
      refine (sl_ok (v := ⟨a0 - penQ ⟨a0, 3, false, 0, -1, -1, -1⟩ a2, 3, false, 0, -1, -1, -1⟩) rfl (show refN 3 7 ≠ 0 by decide) lr).trans ?_
      unfold slashV
      simp only [max_neg (show 0 ≤ a1 1 + a2 11 by omega)]
      rfl
    have E4 : runE [scheduleE (a1 0), holdE (a1 0) (a2 10)] ⟨a0 - q, 3, true, 0, -1, a1 1 + a2 11, -1⟩ = (0, ⟨a0 - q, 3, true, 0, a1 0, max (a1 0 + a2 10) (a1 1 + a2 11), -1⟩) := by
      rw [asg_ok (v := ⟨a0 - q, 3, true, 0, -1, a1 1 + a2 11, -1⟩) ⟨rfl, rfl⟩ lp]
      simp only [show max (a1 1 + a2 11) (a1 0 + a2 10) = max (a1 0 + a2 10) (a1 1 + a2 11) by omega]
    have N2 : slN ⟨a0, 3, false, 0, a1 0, a1 0 + a2 10, -1⟩ (a1 1) a2 = q := by
      unfold slN
      rw [E2, hq]
      rfl
    have N3 : slN ⟨a0, 3, false, 0, -1, -1, -1⟩ (a1 1) a2 = q := by
      unfold slN
      rw [E3, hq]
      rfl
    have H1 := Lib.hid (fun w => assign_lit ⟨a0, 3, false, 0, -1, -1, -1⟩ (a1 0) (c := a2) (by decide : (Lit.int .i64 3).wf = true) G w)
    rw [E1] at H1
    have H2 := Lib.hid (fun w => slash_lit (v := ⟨a0, 3, false, 0, a1 0, a1 0 + a2 10, -1⟩) (a1 1) (c := a2) ⟨w0, (by decide : (Lit.int .i64 3).wf = true)⟩ G w)
    rw [E2, N2] at H2
    have H3 := Lib.hid (fun w => slash_lit (v := ⟨a0, 3, false, 0, -1, -1, -1⟩) (a1 1) (c := a2) fv G w)
    rw [E3, N3] at H3
    have H4 := Lib.hid (fun w => assign_lit ⟨a0 - q, 3, true, 0, -1, a1 1 + a2 11, -1⟩ (a1 0) (c := a2) (by decide : (Lit.int .i64 3).wf = true) G w)
    rw [E4] at H4
    rw [← hq] at q0 q1
    have H5 := Lib.hid (fun w => pay_lit (v := ⟨a0 - q, 5, true, 0, a1 0, max (a1 0 + a2 10) (a1 1 + a2 11), -1⟩) (a1 2) ⟨wf _ (by simp only at q1 ⊢; omega) (by simp only; omega), (by decide : (Lit.int .i64 5).wf = true)⟩ w)
    have w0' := w0
    clear E1 E2 E3 E4 N2 N3 lp lr wf fv hq w0 u0 u1 s0 s1
    by_cases h1 : a1 0 + a2 10 ≤ a1 2
    · by_cases h2 : a1 1 + a2 11 ≤ a1 2
      · rw [settle_ok (v := ⟨a0 - q, 5, true, 0, a1 0, max (a1 0 + a2 10) (a1 1 + a2 11), -1⟩) rfl (by simp only; omega)] at H5
        exact delays_ok a0 (a1 0) (a1 1) (a1 2) _ _ _ q a1 a2 w rfl rfl rfl k0 k1 k2 HK hp hr H1 H2 H3 H4 H5 (by simpa using h1) (by simpa using h2)
      · rw [settle_bad (v := ⟨a0 - q, 5, true, 0, a1 0, max (a1 0 + a2 10) (a1 1 + a2 11), -1⟩) (fun x => by have := x.2; simp only at this; omega)] at H5
        exact delays_second a0 (a1 0) (a1 1) (a1 2) _ _ _ q a1 a2 w rfl rfl rfl k0 k1 k2 HK hp hr H1 H2 H3 H4 H5 (by simpa using h1) (by simpa using h2)
    · rw [settle_bad (v := ⟨a0 - q, 5, true, 0, a1 0, max (a1 0 + a2 10) (a1 1 + a2 11), -1⟩) (fun x => by have := x.2; simp only at this; omega)] at H5
      exact delays_first a0 (a1 0) (a1 1) (a1 2) _ _ _ q a1 a2 w rfl rfl rfl k0 k1 k2 HK hp hr H1 H2 H3 H4 H5 (by simpa using h1)
  · have HV := Lib.hid alive_any
    have hn : (chk a2 != 0) = true := by simpa using hc
    generalize chk a2 = x at *
    clear w0 w1 w2 hc
    have D0 : Hid (Blk ((w.alloc (.cells (cellsH a1) 48)).alloc (.cells (cellsOf a2) 30)) w.heap.size 48 (cellsH a1)) := Lib.hid (Blk.alloc (Blk.new w _ _) _)
    have G0 : Hid (Blk ((w.alloc (.cells (cellsH a1) 48)).alloc (.cells (cellsOf a2) 30)) (w.heap.size + 1) 30 (cellsOf a2)) := Lib.hid (cfg_two _ _ _)
    have B0 : Hid (Below w.heap.size w ((w.alloc (.cells (cellsH a1) 48)).alloc (.cells (cellsOf a2) 30))) := Lib.hid (((Below.refl _ _).alloc (Nat.le_refl _) _).alloc (by simp) _)
    go_enter Try.func8, Try.ntmps8
    go_upto_region 1 with (fail)
    generalize (w.alloc (.cells (cellsH a1) 48)).alloc (.cells (cellsOf a2) 30) = W at *
    clear D0
    go_wp2_with (first | (refine wpList_load_row rfl 30 _ rfl (w.heap.size + 1) rfl 30 _ (0, 0) _ G0.out Try.underlying30 rfl cfg_info ?_))
    refine (HK.out _).mono ?_
    rintro o w1 ⟨rfl, b1⟩
    have g1 : Blk w1 (w.heap.size + 1) 30 (cellsOf a2) := G0.out.below b1 G0.out.lt
    have d1 : Below w.heap.size w w1 := B0.out.trans (b1.mono B0.out.size)
    clear G0 B0 b1
    have G1 := Lib.hid g1
    have B1 := Lib.hid d1
    clear g1 d1 
    go_wp2_with (first | (refine wpList_load_row rfl 30 _ rfl (w.heap.size + 1) rfl 30 _ (0, 0) _ G1.out Try.underlying30 rfl cfg_info ?_))
    refine (HV.out _).mono ?_
    rintro o w2 ⟨rfl, b2⟩
    have g2 : Blk w2 (w.heap.size + 1) 30 (cellsOf a2) := G1.out.below b2 G1.out.lt
    have d2 : Below w.heap.size w w2 := B1.out.trans (b2.mono B1.out.size)
    clear G1 B1 b2
    have G2 := Lib.hid g2
    have B2 := Lib.hid d2
    clear g2 d2 
    go_wp2
    go_ret
    exact ⟨rfl, B2.out⟩
end Go.Proofs.Ytfcjgllljejfcaa
