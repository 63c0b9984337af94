/- The statement StatusSlash, walked: it returns true for all numbers. -/
import Derived.Test.YtdkojcmffkhpkaaDoorLive
namespace Go.Proofs.YtdkojcmffkhpkaaDoor
open Go Go.RowKit Go.Maps
set_option linter.unusedVariables false
set_option linter.unusedSimpArgs false

set_option maxHeartbeats 800000 in
theorem slash_no (a0 : Int) (w : World) (w0 : (Lit.int .i64 a0).wf = true) (h : NamesAt w) (hs : a0 < 2 ∨ 5 < a0) :
    Calls Tryd.prog 8 #[.int .i64 a0] w fun e w' => e = .returned (.bool true) ∧ Below w.heap.size w w' := by
  have H := Lib.hid h
  have h1 := next_any a0 7 w w0 (by decide)
  have e0 : refN a0 7 = 0 := by
    unfold refN
    repeat' split
    all_goals omega
  rw [e0] at h1
  have H1 := Lib.hid h1
  clear h h1 e0 w0
  go_enter Tryd.func8, Tryd.ntmps8
  go_wp2_with fail
  refine H1.out.mono ?_
  rintro e w1 ⟨rfl, hb1⟩
  have HB1 := Lib.hid hb1
  have HA := Lib.hid (alive_any w1 (H.out.below hb1))
  clear hb1
  go_wp2_with fail
  refine HA.out.mono ?_
  rintro e w2 ⟨rfl, hb2⟩
  have HB2 := Lib.hid (HB1.out.trans (hb2.mono HB1.out.size))
  clear hb2
  rcases hs with hs | hs
  · go_wp2
    go_ret
    exact ⟨rfl, HB2.out⟩
  · have hn : ¬ a0 < 2 := by omega
    go_wp2
    go_ret
    exact ⟨rfl, HB2.out⟩
set_option maxHeartbeats 800000 in
theorem slash_yes (a0 b : Int) (w : World) (h : NamesAt w) (w0 : (Lit.int .i64 a0).wf = true) (wb : (Lit.int .i64 b).wf = true) (e1 : refN a0 7 = b) (e2 : refN b 7 = b) (hb : b = 3 ∨ b = 4) (hl : liveB b = liveB a0) :
    Calls Tryd.prog 8 #[.int .i64 a0] w fun e w' => e = .returned (.bool true) ∧ Below w.heap.size w w' := by
  have H := Lib.hid h
  have h1 := next_any a0 7 w w0 (by decide)
  rw [e1] at h1
  have H2 : Hid (∀ w : World, Calls Tryd.prog 9 #[.int .i64 b, .int .i64 7] w fun x w' => x = .returned (.tuple #[.int .i64 b, .bool (b != 0)]) ∧ Below w.heap.size w w') := Lib.hid fun w => by
    have := next_any b 7 w wb (by decide)
    rwa [e2] at this
  have H1 := Lib.hid h1
  have H3 : Hid (∀ w : World, Calls Tryd.prog 14 #[.int .i64 b] w fun x w' => x = .returned (.bool (liveB a0)) ∧ w = w') := Lib.hid fun w => hl ▸ live_any b w
  have H4 : Hid (∀ w : World, Calls Tryd.prog 14 #[.int .i64 a0] w fun x w' => x = .returned (.bool (liveB a0)) ∧ w = w') := Lib.hid (live_any a0)
  clear h h1 e1 e2 hl w0 wb
  generalize liveB a0 = l at *
  rcases hb with rfl | rfl
  all_goals
    go_enter Tryd.func8, Tryd.ntmps8
    go_wp2_with fail
    refine H1.out.mono ?_
    rintro e w1 ⟨rfl, hb1⟩
    have HB1 := Lib.hid hb1
    have HN1 := Lib.hid (H.out.below hb1)
    clear hb1
    go_wp2_with fail
    refine (H2.out _).mono ?_
    rintro e w2 ⟨rfl, hb2⟩
    have HB2 := Lib.hid (HB1.out.trans (hb2.mono HB1.out.size))
    have HA := Lib.hid (alive_any w2 (HN1.out.below hb2))
    clear hb2
    go_wp2_with fail
    refine HA.out.mono ?_
    rintro e w3 ⟨rfl, hb3⟩
    have HB3 := Lib.hid (HB2.out.trans (hb3.mono HB2.out.size))
    clear hb3
    go_wp2_with fail
    refine (H3.out _).mono ?_
    rintro e w4 ⟨rfl, rfl⟩
    go_wp2_with fail
    refine (H4.out _).mono ?_
    rintro e w4 ⟨rfl, rfl⟩
    go_wp2
    go_ret
    exact ⟨by simp, HB3.out⟩
theorem walk_StatusSlash (a0 : Int) (w : World) (w0 : (Lit.int .i64 a0).wf = true) (hL : laidMetH Tryd.prog Rows.statusSlashRow.laid w) :
    Calls Tryd.prog 8 #[.int .i64 a0] w fun e w' => e = .returned (.bool true) ∧ Below w.heap.size w w' := by
  have h := names_of_laid hL
  by_cases hs : a0 < 2 ∨ 5 < a0
  · exact slash_no a0 w w0 h hs
  · obtain rfl | rfl | rfl | rfl : a0 = 2 ∨ a0 = 3 ∨ a0 = 4 ∨ a0 = 5 := by omega
    · exact slash_yes 2 3 w h w0 (by decide) (by decide) (by decide) (by decide) (by decide)
    · exact slash_yes 3 3 w h w0 (by decide) (by decide) (by decide) (by decide) (by decide)
    · exact slash_yes 4 4 w h w0 (by decide) (by decide) (by decide) (by decide) (by decide)
    · exact slash_yes 5 4 w h w0 (by decide) (by decide) (by decide) (by decide) (by decide)
end Go.Proofs.YtdkojcmffkhpkaaDoor
