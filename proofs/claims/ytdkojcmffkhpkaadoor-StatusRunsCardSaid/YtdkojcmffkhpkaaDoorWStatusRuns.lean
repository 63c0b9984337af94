/- The statement StatusRuns, walked: it returns true for all numbers and slices. -/
import Derived.Test.YtdkojcmffkhpkaaDoorRun
namespace Go.Proofs.YtdkojcmffkhpkaaDoor
open Go Go.RowKit Go.Maps
set_option linter.unusedVariables false
set_option linter.unusedSimpArgs false

set_option maxHeartbeats 800000 in
theorem walk_StatusRuns (a0 : Int) (a1 : Option Addr) (len1 cap1 : Nat) (z1 : List Int) (w : World) (w0 : (Lit.int .i64 a0).wf = true) (w1 : IsRow .i64 w a1 len1 cap1 z1) (hL : laidMetH Tryd.prog Rows.statusRunsRow.laid w) :
    Calls Tryd.prog 4 #[.int .i64 a0, .slice a1 len1 cap1] w fun e w' => e = .returned (.bool true) ∧ Below w.heap.size w w' := by
  have h := names_of_laid hL
  have hR := Rd.of_row w1
  obtain ⟨_, hl, _, hz⟩ := w1.len_le
  have H := Lib.hid h
  clear hL h w1
  by_cases hbig : (1000 : Int) < len1
  · have HA := Lib.hid (alive_any w H.out)
    clear hR w0
    go_enter Tryd.func4, Tryd.ntmps4
    go_wp2_with fail
    refine HA.out.mono ?_
    rintro e w3 ⟨rfl, hb3⟩
    go_wp2_with fail
    go_ret
    exact ⟨rfl, hb3⟩
  · have H1 := Lib.hid (run_any a0 a1 len1 cap1 z1 w w0 hR hl hz)
    have HR0 := Lib.hid hR
    have HW0 := Lib.hid w0
    clear hR w0
    generalize hA : runS a0 (z1.take len1) = A
    rw [hA] at H1
    have HA := Lib.hid hA
    clear hA
    go_enter Tryd.func4, Tryd.ntmps4
    go_wp2_with fail
    refine H1.out.mono ?_
    rintro e w1 ⟨rfl, hb1⟩
    have HB := Lib.hid hb1
    have HN := Lib.hid (alive_any w1 (H.out.below hb1))
    have HR := Lib.hid (HR0.out.below hb1)
    clear hb1
    go_wp2_with fail
    go_loop [7, 8, 25] (fun t n i => ∃ (k : Nat) (sk : Int), k ≤ len1 ∧ i = .int .i64 k ∧ n = .int .i64 k ∧ t = .int .i64 sk ∧ (Lit.int .i64 sk).wf = true ∧ A.1 = (runS sk ((z1.take len1).drop k)).1 ∧ A.2 = (runS sk ((z1.take len1).drop k)).2 + k) (fun _ _ i => len1 - (intOf i).toNat)
    case atStart => exact ⟨0, a0, by omega, rfl, rfl, rfl, HW0.out, by rw [← HA.out]; rfl, by rw [← HA.out]; rfl⟩
    case round =>
      obtain ⟨k, sk, hk, rfl, rfl, rfl, hw, h1, h2⟩ := hrel
      have HW := Lib.hid hw
      have H1' := Lib.hid h1
      have H2' := Lib.hid h2
      clear hw h1 h2
      by_cases hlt : k < len1
      · obtain ⟨p, off, rfl, _, hc⟩ := HR.out (by omega)
        obtain ⟨hcell, hwf⟩ := hc k hlt
        have HC := Lib.hid (take_drop_cons hz hlt)
        clear hc
        generalize z1.getD k 0 = e at *
        have HX : Hid (∀ w : World, Calls Tryd.prog 10 #[.int .i64 sk, .int .i64 e] w fun x w' => x = .returned (.int .i64 (refN sk e)) ∧ w = w') := Lib.hid fun w => refnext_any sk e w HW.out hwf
        clear hwf
        by_cases h0 : refN sk e = 0
        · have HE : Hid (A.1 = sk ∧ A.2 = k) := by
            refine Lib.hid ⟨?_, ?_⟩
            · rw [H1'.out, HC.out, runS, if_pos h0]
            · rw [H2'.out, HC.out, runS, if_pos h0, Nat.zero_add]
          rw [h0] at HX
          clear h0
          go_wp2_with fail
          refine (HX.out _).mono ?_
          rintro x w2 ⟨rfl, rfl⟩
          go_wp2_with fail
          refine HN.out.mono ?_
          rintro x w2 ⟨rfl, hb2⟩
          have HB2 := Lib.hid (HB.out.trans (hb2.mono HB.out.size))
          clear hb2
          rw [HE.out.1, HE.out.2]
          go_wp2
          go_ret
          exact ⟨rfl, HB2.out⟩
        · have HE : Hid (A.1 = (runS (refN sk e) ((z1.take len1).drop (k + 1))).1 ∧ A.2 = (runS (refN sk e) ((z1.take len1).drop (k + 1))).2 + (k + 1)) := by
            refine Lib.hid ⟨?_, ?_⟩
            · rw [H1'.out, HC.out, runS, if_neg h0]
            · rw [H2'.out, HC.out, runS, if_neg h0]
              simp only
              omega
          have HF := Lib.hid (refN_wf sk e)
          generalize refN sk e = q at *
          have h0' : (q == 0) = false := by simpa using h0
          clear h0
          go_wp2_with fail
          refine (HX.out _).mono ?_
          rintro x w2 ⟨rfl, rfl⟩
          go_wp2
          go_round
          case rel => exact ⟨k + 1, q, by omega, by go_num, by go_num, rfl, HF.out, HE.out.1, HE.out.2⟩
          case measure => simp [intOf]; omega
      · obtain rfl : k = len1 := by omega
        clear hlt
        have hlt : ¬ k < k := by omega
        have HE : Hid (A.1 = sk ∧ A.2 = k) := by
          refine Lib.hid ⟨?_, ?_⟩
          · rw [H1'.out, take_drop_all, runS]
          · rw [H2'.out, take_drop_all, runS, Nat.zero_add]
        go_wp2_with fail
        refine HN.out.mono ?_
        rintro x w2 ⟨rfl, hb2⟩
        have HB2 := Lib.hid (HB.out.trans (hb2.mono HB.out.size))
        clear hb2
        rw [HE.out.1, HE.out.2]
        go_wp2
        go_ret
        exact ⟨rfl, HB2.out⟩
end Go.Proofs.YtdkojcmffkhpkaaDoor
