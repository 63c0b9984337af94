/- The statement OpNames, walked: it returns true for all numbers and strings. -/
import Derived.Test.YtfepfcalfhegfaaDoorLive
namespace Go.Proofs.YtfepfcalfhegfaaDoor
open Go Go.RowKit
set_option linter.unusedVariables false
set_option linter.unusedSimpArgs false
set_option maxRecDepth 100000

set_option maxHeartbeats 1600000 in
theorem walk_OpNames (a0 : Int) (a1 : ByteArray) (w : World) (w0 : (Lit.int .i64 a0).wf = true) (w1 : a1.size ≤ maxLen) (hL : laidMetH Tryd.prog Rows.opNamesRow.laid w) :
    Calls Tryd.prog 8 #[.int .i64 a0, .string a1] w fun e w' => e = .returned (.bool true) ∧ Below w.heap.size w w' := by
  have h := names_of_laid hL
  have HN := Lib.hid h
  have HA := Lib.hid (fun w => alive_any w)
  have HS := Lib.hid (fun w => size_any a0 w0 w)
  have HRS := Lib.hid (fun w => refsize_any a0 w)
  have HK := Lib.hid (fun w => parse_any a1 w)
  have HX := Lib.hid (fun d w => index_any d a1 w)
  have HP := Lib.hid (posN_iff a1).1
  have hsz : ((sizeK a0 : Nat) : Int) ≤ 11 := by
    unfold sizeK
    rcases ho : ods a0 with _ | l
    · simp
    · have := (ods_some ho).2.2.1
      simp; omega
  generalize sizeK a0 = sz at *
  obtain ⟨p, hp⟩ : ∃ p, posN a1 = p := ⟨_, rfl⟩
  rw [hp] at HK HX HP
  clear hL h w1 hp
  by_cases hk : 1 ≤ a0 ∧ a0 ≤ 7
  · obtain ⟨j, rfl⟩ : ∃ j : Nat, a0 = (j : Int) + 1 := ⟨(a0 - 1).toNat, by omega⟩
    have hj : j < 7 := by omega
    have HNM := Lib.hid (fun w hh => name_yes j hj w hh)
    have hCj := nmC_at j hj
    have HCJ := Lib.hid hCj
    have hself := str_eq (nm j)
    have h7 : ((j : Int) + 1) ≤ 7 := by omega
    have h1 : (1 : Int) ≤ ((j : Int) + 1) := by omega
    have HJ := Lib.hid hj
    clear hCj hk w0 hj
    generalize nm j = S at *
    go_enter Tryd.func8, Tryd.ntmps8
    go_wp2_with (fail)
    refine (refnames_any w).mono ?_
    rintro e w1 ⟨d, rfl, _, hblk, b1⟩
    have B1 := Lib.hid b1
    have hcell1 : w1.cell? ⟨d, j, none⟩ = some (.string S) := by rw [hblk.cell, HCJ.out]
    clear b1 hblk HCJ
    go_wp2_with (fail)
    clear hcell1
    refine (refnames_any w1).mono ?_
    rintro e w2 ⟨d2, rfl, _, hblk, b2⟩
    have B2 := Lib.hid (B1.out.trans (b2.mono B1.out.size))
    have HX2 := Lib.hid (HX.out d2 w2 hblk)
    have HN2 := Lib.hid (HN.out.below B2.out)
    clear b2 hblk HX B1
    go_wp2_with (fail)
    refine HX2.out.mono ?_
    rintro e w3 ⟨rfl, rfl⟩
    have HPP : Hid (p = 0 ∨ ∃ q, p = q + 1) := Lib.hid (by rcases p with _ | q; exact .inl rfl; exact .inr ⟨q, rfl⟩)
    have hp7 : p ≤ 7 := HP.out
    go_wp2_with (fail)
    refine (HK.out w2 HN2.out).mono ?_
    rintro e w3 ⟨rfl, rfl⟩
    go_wp2_with (fail)
    refine (HA.out w2 HN2.out).mono ?_
    rintro e w4 ⟨rfl, b4⟩
    have B4 := Lib.hid (B2.out.trans (b4.mono B2.out.size))
    have HN4 := Lib.hid (HN.out.below B4.out)
    clear b4
    go_wp2_with (fail)
    refine (HS.out w4).mono ?_
    rintro e w5 ⟨rfl, b5⟩
    have B5 := Lib.hid (B4.out.trans (b5.mono B4.out.size))
    have HN5 := Lib.hid (HN.out.below B5.out)
    clear b5
    go_wp2_with (fail)
    refine (HRS.out w5).mono ?_
    rintro e w6 ⟨rfl, rfl⟩
    go_wp2_with (fail)
    refine (HNM.out w5 HN5.out).mono ?_
    rintro e w6 ⟨rfl, rfl⟩
    rcases HPP.out with rfl | ⟨q, rfl⟩
    all_goals
      go_wp2
      go_ret
      exact ⟨by simp, B5.out⟩
  · have ha : a0 < 1 ∨ 7 < a0 := by omega
    have HNM : Hid (∀ w : World, Calls Tryd.prog 22 #[.int .i64 a0] w fun e w' => e = .returned (.string ⟨#[]⟩) ∧ w = w') := Lib.hid fun w => name_no a0 ha w
    clear hk w0
    rcases ha with hlo | hhi
    all_goals
      go_enter Tryd.func8, Tryd.ntmps8
      go_wp2_with (fail)
      refine (refnames_any w).mono ?_
      rintro e w2 ⟨d2, rfl, _, hblk, b2⟩
      have B2 := Lib.hid b2
      have HX2 := Lib.hid (HX.out d2 w2 hblk)
      have HN2 := Lib.hid (HN.out.below B2.out)
      clear b2 hblk HX
      go_wp2_with (fail)
      refine HX2.out.mono ?_
      rintro e w3 ⟨rfl, rfl⟩
      have HPP : Hid (p = 0 ∨ ∃ q, p = q + 1) := Lib.hid (by rcases p with _ | q; exact .inl rfl; exact .inr ⟨q, rfl⟩)
      have hp7 : p ≤ 7 := HP.out
      go_wp2_with (fail)
      refine (HK.out w2 HN2.out).mono ?_
      rintro e w3 ⟨rfl, rfl⟩
      go_wp2_with (fail)
      refine (HA.out w2 HN2.out).mono ?_
      rintro e w4 ⟨rfl, b4⟩
      have B4 := Lib.hid (B2.out.trans (b4.mono B2.out.size))
      clear b4
      go_wp2_with (fail)
      refine (HS.out w4).mono ?_
      rintro e w5 ⟨rfl, b5⟩
      have B5 := Lib.hid (B4.out.trans (b5.mono B4.out.size))
      clear b5
      go_wp2_with (fail)
      refine (HRS.out w5).mono ?_
      rintro e w6 ⟨rfl, rfl⟩
      go_wp2_with (fail)
      refine (HNM.out w5).mono ?_
      rintro e w6 ⟨rfl, rfl⟩
      rcases HPP.out with rfl | ⟨q, rfl⟩
      all_goals
        go_wp2
        go_ret
        exact ⟨by simp, B5.out⟩
end Go.Proofs.YtfepfcalfhegfaaDoor
