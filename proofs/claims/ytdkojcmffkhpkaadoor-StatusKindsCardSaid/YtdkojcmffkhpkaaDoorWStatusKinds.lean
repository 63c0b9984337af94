/- The statement StatusKinds, walked: it returns true for all numbers. -/
import Derived.Test.YtdkojcmffkhpkaaDoorLive
namespace Go.Proofs.YtdkojcmffkhpkaaDoor
open Go Go.RowKit Go.Maps
set_option linter.unusedVariables false
set_option linter.unusedSimpArgs false

set_option maxHeartbeats 800000 in
theorem walk_StatusKinds (a0 : Int) (a1 : Int) (w : World) (w0 : (Lit.int .i64 a0).wf = true) (w1 : (Lit.int .i64 a1).wf = true) (hL : laidMetH Tryd.prog Rows.statusKindsRow.laid w) :
    Calls Tryd.prog 5 #[.int .i64 a0, .int .i64 a1] w fun e w' => e = .returned (.bool true) ∧ Below w.heap.size w w' := by
  have h := names_of_laid hL
  have H := Lib.hid h
  have H1 := Lib.hid (next_any a0 a1 w w0 w1)
  have H2 : Hid (∀ w : World, Calls Tryd.prog 13 #[.int .i64 a0] w fun x w' => x = .returned (.bool (finalB a0)) ∧ w = w') := Lib.hid (final_any a0)
  have H3 : Hid (∀ w : World, Calls Tryd.prog 14 #[.int .i64 a0] w fun x w' => x = .returned (.bool (liveB a0)) ∧ w = w') := Lib.hid (live_any a0)
  have H4 : Hid (∀ w : World, Calls Tryd.prog 15 #[.int .i64 a0] w fun x w' => x = .returned (.bool (liveB a0)) ∧ w = w') := Lib.hid (reflive_any a0)
  clear w0 w1 hL h
  have hcase : (∃ l ok : Bool, (a0 == 6) = false ∧ (a0 == 7) = false ∧ finalB a0 = false ∧ liveB a0 = l ∧ (refN a0 a1 != 0) = ok) ∨ (finalB a0 = true ∧ liveB a0 = false ∧ (refN a0 a1 != 0) = false ∧ (((a0 == 6) = true) ∨ ((a0 == 6) = false ∧ (a0 == 7) = true))) := by
    by_cases h6 : a0 = 6
    · exact .inr ⟨by subst h6; rfl, by subst h6; rfl, by rw [refN_final (.inl h6)]; rfl, .inl (by simp [h6])⟩
    · by_cases h7 : a0 = 7
      · exact .inr ⟨by subst h7; rfl, by subst h7; rfl, by rw [refN_final (.inr h7)]; rfl, .inr ⟨by simp [h6], by simp [h7]⟩⟩
      · exact .inl ⟨_, _, by simp [h6], by simp [h7], by unfold finalB; simp [h6, h7], rfl, rfl⟩
  rcases hcase with ⟨l, ok, hb6, hb7, e1, e2, e3⟩ | ⟨e1, e2, e3, hb⟩
  · rw [e1] at H2
    rw [e2] at H3 H4
    rw [e3] at H1
    clear e1 e2 e3
    generalize refN a0 a1 = r at *
    go_enter Tryd.func5, Tryd.ntmps5
    go_wp2_with fail
    refine H1.out.mono ?_
    rintro e w1 ⟨rfl, hb1⟩
    have HB1 := Lib.hid hb1
    have HA := Lib.hid (alive_any w1 (H.out.below hb1))
    clear hb1
    go_wp2_with fail
    refine (H2.out _).mono ?_
    rintro e w2 ⟨rfl, rfl⟩
    go_wp2_with fail
    refine HA.out.mono ?_
    rintro e w2 ⟨rfl, hb2⟩
    have HB2 := Lib.hid (HB1.out.trans (hb2.mono HB1.out.size))
    clear hb2
    go_wp2_with fail
    refine (H3.out _).mono ?_
    rintro e w3 ⟨rfl, rfl⟩
    go_wp2_with fail
    refine (H4.out _).mono ?_
    rintro e w3 ⟨rfl, rfl⟩
    cases l <;>
    · go_wp2
      go_ret
      exact ⟨rfl, HB2.out⟩
  · rw [e1] at H2
    rw [e2] at H3 H4
    rw [e3] at H1
    clear e1 e2 e3
    generalize refN a0 a1 = r at *
    have HBB := Lib.hid hb
    clear hb
    go_enter Tryd.func5, Tryd.ntmps5
    go_wp2_with fail
    refine H1.out.mono ?_
    rintro e w1 ⟨rfl, hb1⟩
    have HB1 := Lib.hid hb1
    have HA := Lib.hid (alive_any w1 (H.out.below hb1))
    clear hb1
    go_wp2_with fail
    refine (H2.out _).mono ?_
    rintro e w2 ⟨rfl, rfl⟩
    go_wp2_with fail
    refine HA.out.mono ?_
    rintro e w2 ⟨rfl, hb2⟩
    have HB2 := Lib.hid (HB1.out.trans (hb2.mono HB1.out.size))
    clear hb2
    go_wp2_with fail
    refine (H3.out _).mono ?_
    rintro e w3 ⟨rfl, rfl⟩
    go_wp2_with fail
    refine (H4.out _).mono ?_
    rintro e w3 ⟨rfl, rfl⟩
    rcases HBB.out with hb | ⟨hb, hb'⟩
    all_goals
      go_wp2_with fail
      refine (H3.out _).mono ?_
      rintro e w3 ⟨rfl, rfl⟩
      go_wp2
      go_ret
      exact ⟨rfl, HB2.out⟩
end Go.Proofs.YtdkojcmffkhpkaaDoor
