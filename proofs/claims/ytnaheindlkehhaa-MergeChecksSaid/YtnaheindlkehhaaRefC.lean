/- The reference's Check. -/
import Derived.Test.YtnaheindlkehhaaStep
namespace Go.Proofs.Ytnaheindlkehhaa
open Go Go.RowKit Go.Deep
set_option linter.unusedVariables false
set_option linter.unusedSimpArgs false
set_option maxRecDepth 100000

set_option maxHeartbeats 1600000 in
theorem refchk_any (s d : Val) (c : Nat → Int) (w : World) (hs : FitsV s) (hd : FitsV d) :
    Calls Try.prog 13 #[.agg (cellsV s), .agg (cellsV d), .agg (cellsOf c)] w fun e w' => e = .returned (.int .i64 (chkM s d (c 6))) ∧ Below w.heap.size w w' := by
  have T := Tri.new w s d c
  obtain ⟨x0, x1, x2, y0, y1, y2, z6, -⟩ := T.cells
  have HT := Lib.hid T
  have HA := Lib.hid (fun (b : Nat) (w : World) (h0 : w.cell? ⟨b, 0, none⟩ = some (.int .u64 s.bal)) (h1 : w.cell? ⟨b, 1, none⟩ = some (.int .u64 d.bal)) => refadd_row b 0 2 2 [s.bal, d.bal] w (by omega) (fun i hi => by
    have : i = 0 ∨ i = 1 := by omega
    rcases this with rfl | rfl
    · exact h0
    · exact h1) (two_range hs.bal hd.bal))
  clear T hs hd
  by_cases h1 : s.st = 2
  · have q1 : (s.st != 2) = false := by simpa using h1
    by_cases h2 : d.st = 2
    · have q2 : (d.st != 2) = false := by simpa using h2
      have i0 : idleB s d = false := by simp [idleB, h1, h2]
      clear h1 h2
      cases h3 : s.sl with
      | true =>
        have E : Hid (chkM s d (c 6) = 9) := Lib.hid (by simp [chkM, i0, slashB, h3])
        rw [h3] at x2
        clear h3 i0 HA
        go_enter Try.func13, Try.ntmps13
        go_upto_region 1 with (fail)
        generalize ((w.alloc (.cells (cellsV s) 24)).alloc (.cells (cellsV d) 24)).alloc (.cells (cellsOf c) 26) = W at *
        go_wp2_with fail
        go_ret
        exact ⟨congrArg (fun x => Ending.returned (.int .i64 x)) E.out.symm, HT.out.2.2.2⟩
      | false =>
        rw [h3] at x2
        cases h4 : d.sl with
        | true =>
          have E : Hid (chkM s d (c 6) = 9) := Lib.hid (by simp [chkM, i0, slashB, h3, h4])
          rw [h4] at y2
          clear h3 h4 i0 HA
          go_enter Try.func13, Try.ntmps13
          go_upto_region 1 with (fail)
          generalize ((w.alloc (.cells (cellsV s) 24)).alloc (.cells (cellsV d) 24)).alloc (.cells (cellsOf c) 26) = W at *
          go_wp2_with fail
          go_ret
          exact ⟨congrArg (fun x => Ending.returned (.int .i64 x)) E.out.symm, HT.out.2.2.2⟩
        | false =>
          rw [h4] at y2
          have i1 : slashB s d = false := by simp [slashB, h3, h4]
          clear h3 h4
          by_cases h5 : s.bal + d.bal ≤ 18446744073709551615
          · have e := add_yes (z := [s.bal, d.bal]) (n := 2) (by rw [two_sum]; exact h5)
            rw [two_sum] at e
            rw [e.1, e.2] at HA
            obtain ⟨t, ht⟩ : ∃ t, s.bal + d.bal = t := ⟨_, rfl⟩
            rw [ht] at HA
            by_cases h6 : c 6 < t
            · have q2 : decide (c 6 < t) = true := by simpa using h6
              have E : Hid (chkM s d (c 6) = 3) := Lib.hid (by simp [chkM, i0, i1, overB, ht]; omega)
              clear i0 i1 h5 e ht h6
              go_enter Try.func13, Try.ntmps13
              go_upto_region 1 with (fail)
              generalize ((w.alloc (.cells (cellsV s) 24)).alloc (.cells (cellsV d) 24)).alloc (.cells (cellsOf c) 26) = W at *
              go_wp2_with fail
              refine (HA.out _ _ ((Blk.new W _ _).cell 0) ((Blk.new W _ _).cell 1)).mono ?_
              rintro e w1 ⟨rfl, m, rfl⟩
              have T2 := Lib.hid ((HT.out.next ((Below.refl _ W).alloc (Nat.le_refl _) (.cells #[.int .u64 s.bal, .int .u64 d.bal] 22))).drewN m)
              clear x0 x1 x2 y0 y1 y2 z6 HT HA
              generalize (W.alloc (.cells #[.int .u64 s.bal, .int .u64 d.bal] 22)).drewN m = W2 at *
              obtain ⟨-, -, -, -, -, -, z6, -⟩ := T2.out.cells
              go_wp2_with fail
              go_ret
              exact ⟨congrArg (fun x => Ending.returned (.int .i64 x)) E.out.symm, T2.out.2.2.2⟩
            · have q2 : decide (c 6 < t) = false := by simpa using h6
              have E : Hid (chkM s d (c 6) = 0) := Lib.hid (by simp [chkM, i0, i1, overB, ht]; omega)
              clear i0 i1 h5 e ht h6
              go_enter Try.func13, Try.ntmps13
              go_upto_region 1 with (fail)
              generalize ((w.alloc (.cells (cellsV s) 24)).alloc (.cells (cellsV d) 24)).alloc (.cells (cellsOf c) 26) = W at *
              go_wp2_with fail
              refine (HA.out _ _ ((Blk.new W _ _).cell 0) ((Blk.new W _ _).cell 1)).mono ?_
              rintro e w1 ⟨rfl, m, rfl⟩
              have T2 := Lib.hid ((HT.out.next ((Below.refl _ W).alloc (Nat.le_refl _) (.cells #[.int .u64 s.bal, .int .u64 d.bal] 22))).drewN m)
              clear x0 x1 x2 y0 y1 y2 z6 HT HA
              generalize (W.alloc (.cells #[.int .u64 s.bal, .int .u64 d.bal] 22)).drewN m = W2 at *
              obtain ⟨-, -, -, -, -, -, z6, -⟩ := T2.out.cells
              go_wp2_with fail
              go_ret
              exact ⟨congrArg (fun x => Ending.returned (.int .i64 x)) E.out.symm, T2.out.2.2.2⟩
          · have e := add_not (z := [s.bal, d.bal]) (n := 2) (by rw [two_sum]; exact h5)
            rw [e.1, e.2] at HA
            have E : Hid (chkM s d (c 6) = 3) := Lib.hid (by simp [chkM, i0, i1, overB]; omega)
            clear i0 i1 h5 e
            go_enter Try.func13, Try.ntmps13
            go_upto_region 1 with (fail)
            generalize ((w.alloc (.cells (cellsV s) 24)).alloc (.cells (cellsV d) 24)).alloc (.cells (cellsOf c) 26) = W at *
            go_wp2_with fail
            refine (HA.out _ _ ((Blk.new W _ _).cell 0) ((Blk.new W _ _).cell 1)).mono ?_
            rintro e w1 ⟨rfl, m, rfl⟩
            have T2 := Lib.hid ((HT.out.next ((Below.refl _ W).alloc (Nat.le_refl _) (.cells #[.int .u64 s.bal, .int .u64 d.bal] 22))).drewN m)
            clear x0 x1 x2 y0 y1 y2 z6 HT HA
            generalize (W.alloc (.cells #[.int .u64 s.bal, .int .u64 d.bal] 22)).drewN m = W2 at *
            obtain ⟨-, -, -, -, -, -, z6, -⟩ := T2.out.cells
            go_wp2_with fail
            go_ret
            exact ⟨congrArg (fun x => Ending.returned (.int .i64 x)) E.out.symm, T2.out.2.2.2⟩
    · have q2 : (d.st != 2) = true := by simpa using h2
      have E : Hid (chkM s d (c 6) = 8) := Lib.hid (by simp [chkM, idleB, h2])
      clear h1 h2 HA
      go_enter Try.func13, Try.ntmps13
      go_upto_region 1 with (fail)
      generalize ((w.alloc (.cells (cellsV s) 24)).alloc (.cells (cellsV d) 24)).alloc (.cells (cellsOf c) 26) = W at *
      go_wp2_with fail
      go_ret
      exact ⟨congrArg (fun x => Ending.returned (.int .i64 x)) E.out.symm, HT.out.2.2.2⟩
  · have q1 : (s.st != 2) = true := by simpa using h1
    have E : Hid (chkM s d (c 6) = 8) := Lib.hid (by simp [chkM, idleB, h1])
    clear h1 HA
    go_enter Try.func13, Try.ntmps13
    go_upto_region 1 with (fail)
    generalize ((w.alloc (.cells (cellsV s) 24)).alloc (.cells (cellsV d) 24)).alloc (.cells (cellsOf c) 26) = W at *
    go_wp2_with fail
    go_ret
    exact ⟨congrArg (fun x => Ending.returned (.int .i64 x)) E.out.symm, HT.out.2.2.2⟩
end Go.Proofs.Ytnaheindlkehhaa
