/- The statement StatusNames, walked: it returns true for all numbers and strings. -/
import Derived.Test.YtdkojcmffkhpkaaDoorRun
namespace Go.Proofs.YtdkojcmffkhpkaaDoor
open Go Go.RowKit Go.Maps
set_option linter.unusedVariables false
set_option linter.unusedSimpArgs false

theorem nmC_at (k : Nat) (hk : k < 7) : nmC[k]? = some (.string (nm k)) := by
  obtain rfl | rfl | rfl | rfl | rfl | rfl | rfl : k = 0 ∨ k = 1 ∨ k = 2 ∨ k = 3 ∨ k = 4 ∨ k = 5 ∨ k = 6 := by omega
  all_goals rfl
theorem nm_isEmpty (k : Nat) (hk : k < 7) : (nm k).toList.isEmpty = false := by
  rw [ByteArray.toList_eq]
  have : ∀ k, k < 7 → (nm k).data.toList.isEmpty = false := by decide
  exact this k hk

set_option maxHeartbeats 1000000 in
theorem names_yes (j : Nat) (hj : j < 7) (a1 : ByteArray) (w : World) (h : NamesAt w) :
    Calls Tryd.prog 6 #[.int .i64 ((j : Int) + 1), .string a1] w fun e w' => e = .returned (.bool true) ∧ Below w.heap.size w w' := by
  have H := Lib.hid h
  have HPN : Hid (∀ w : World, NamesAt w → Calls Tryd.prog 17 #[.string a1] w fun e w' => e = .returned (.tuple #[.int .i64 (posN a1 : Nat), .bool (posN a1 != 0)]) ∧ w = w') := Lib.hid (parse_any a1)
  have HNM : Hid (∀ w : World, NamesAt w → Calls Tryd.prog 18 #[.int .i64 ((j : Int) + 1)] w fun e w' => e = .returned (.string (nm j)) ∧ w = w') := Lib.hid (name_yes j hj)
  have HPS : Hid (∀ w : World, NamesAt w → Calls Tryd.prog 17 #[.string (nm j)] w fun e w' => e = .returned (.tuple #[.int .i64 ((j : Int) + 1), .bool true]) ∧ w = w') := Lib.hid (parse_yes j hj)
  have HP := Lib.hid (posN_iff a1)
  have hne := nm_isEmpty j hj
  have hCj := nmC_at j hj
  have HCJ := Lib.hid hCj
  have h7 : ((j : Int) + 1) ≤ 7 := by omega
  have h1 : (1 : Int) ≤ ((j : Int) + 1) := by omega
  clear h hCj
  generalize nm j = S at *
  generalize hp : posN a1 = p at *
  clear hp
  go_enter Tryd.func6, Tryd.ntmps6
  go_wp2_with fail
  refine (refnames_any w).mono ?_
  rintro e w1 ⟨d, rfl, hcb1, hblk1, hb1⟩
  have HB1 := Lib.hid hb1
  have HN1 := Lib.hid (H.out.below hb1)
  have hcell1 : w1.cell? ⟨d, j, none⟩ = some (.string S) := by rw [hblk1.cell, HCJ.out]
  clear hb1 hcb1 hblk1 HCJ

  go_wp2_with fail
  clear hcell1
  refine (HPN.out w1 HN1.out).mono ?_
  rintro e w2 ⟨rfl, rfl⟩
  go_wp2_with fail
  refine (HNM.out w1 HN1.out).mono ?_
  rintro e w2 ⟨rfl, rfl⟩
  go_wp2_with fail
  refine (HPS.out w1 HN1.out).mono ?_
  rintro e w2 ⟨rfl, rfl⟩
  go_wp2_with fail
  refine (refnames_any w1).mono ?_
  rintro e w2 ⟨c, rfl, hcb, hblk, hb2⟩
  have HB2 := Lib.hid (HB1.out.trans (hb2.mono HB1.out.size))
  have HN2 := Lib.hid (HN1.out.below hb2)
  have HBK := Lib.hid hblk
  clear hb2 hblk hcb
  go_wp2_with fail
  go_loop [10, 37] (fun n i => ∃ k : Nat, k ≤ 7 ∧ i = .int .i64 k ∧ n = .int .i64 ((if p ≤ k then p else 0 : Nat) : Int)) (fun _ i => 7 - (intOf i).toNat)
  case atStart => exact ⟨0, by omega, rfl, by by_cases hp0 : p = 0 <;> simp [hp0]⟩
  case round =>
    obtain ⟨k, hk, rfl, rfl⟩ := hrel
    by_cases hlt : k < 7
    · have hcell : w2.cell? ⟨c, k, none⟩ = some (.string (nm k)) := by rw [HBK.out.cell, nmC_at k hlt]
      have hiff := HP.out.2 k hlt
      have HU : Hid (p = k + 1 → (if p ≤ k + 1 then p else 0) = k + 1) := Lib.hid fun h => by rw [if_pos (by omega), h]
      have HV : Hid (p ≠ k + 1 → (if p ≤ k + 1 then p else 0) = (if p ≤ k then p else 0)) := Lib.hid fun h => by
        by_cases h2 : p ≤ k
        · rw [if_pos h2, if_pos (by omega)]
        · rw [if_neg h2, if_neg (by omega)]
      by_cases hpk : p = k + 1
      · have hq : ((nm k).toList == a1.toList) = true := by rw [hiff.2 hpk]; exact str_eq _
        have HE := Lib.hid (HU.out hpk)
        clear hpk hiff
        generalize (if p ≤ k then p else 0) = q at *
        generalize nm k = x at *
        go_wp2
        go_round
        case rel => exact ⟨k + 1, by omega, by go_num, by rw [HE.out]; go_num⟩
        case measure => simp [intOf]; omega
      · have hq : ((nm k).toList == a1.toList) = false := str_ne fun e => hpk (hiff.1 e)
        have HE := Lib.hid (HV.out hpk)
        clear hpk hiff
        generalize (if p ≤ k then p else 0) = q at *
        generalize nm k = x at *
        go_wp2
        go_round
        case rel => exact ⟨k + 1, by omega, by go_num, by rw [HE.out]⟩
        case measure => simp [intOf]; omega
    · obtain rfl : k = 7 := by omega
      clear hlt hk
      rw [if_pos HP.out.1]
      go_wp2_with fail
      refine (alive_any w2 HN2.out).mono ?_
      rintro e w3 ⟨rfl, hb3⟩
      have HB3 := Lib.hid (HB2.out.trans (hb3.mono HB2.out.size))
      have HN3 := Lib.hid (HN2.out.below hb3)
      clear hb3
      go_wp2_with fail
      refine (HNM.out w3 HN3.out).mono ?_
      rintro e w4 ⟨rfl, rfl⟩
      have HPP : Hid (p = 0 ∨ ∃ q, p = q + 1) := Lib.hid (by rcases p with _ | q; exact .inl rfl; exact .inr ⟨q, rfl⟩)
      rcases HPP.out with rfl | ⟨q, rfl⟩
      all_goals
        go_wp2
        go_ret
        exact ⟨by simp, HB3.out⟩

set_option maxHeartbeats 1000000 in
theorem names_no (a0 : Int) (ha : a0 < 1 ∨ 7 < a0) (a1 : ByteArray) (w1 : World) (h : NamesAt w1) :
    Calls Tryd.prog 6 #[.int .i64 a0, .string a1] w1 fun e w' => e = .returned (.bool true) ∧ Below w1.heap.size w1 w' := by
  have HN1 := Lib.hid h
  have HB1 := Lib.hid (Below.refl w1.heap.size w1)
  have HPN : Hid (∀ w : World, NamesAt w → Calls Tryd.prog 17 #[.string a1] w fun e w' => e = .returned (.tuple #[.int .i64 (posN a1 : Nat), .bool (posN a1 != 0)]) ∧ w = w') := Lib.hid (parse_any a1)
  have HNM : Hid (∀ w : World, NamesAt w → Calls Tryd.prog 18 #[.int .i64 a0] w fun e w' => e = .returned (.string ⟨#[]⟩) ∧ w = w') := Lib.hid fun w _ => name_no a0 ha w
  have HPS : Hid (∀ w : World, NamesAt w → Calls Tryd.prog 17 #[.string ⟨#[]⟩] w fun e w' => e = .returned (.tuple #[.int .i64 0, .bool false]) ∧ w = w') := Lib.hid (parse_no _ (by decide))
  have HP := Lib.hid (posN_iff a1)
  clear h
  generalize hp : posN a1 = p at *
  clear hp
  rcases ha with hlo | hhi
  all_goals
    go_enter Tryd.func6, Tryd.ntmps6

    go_wp2_with fail
    refine (HPN.out w1 HN1.out).mono ?_
    rintro e w2 ⟨rfl, rfl⟩
    go_wp2_with fail
    refine (HNM.out w1 HN1.out).mono ?_
    rintro e w2 ⟨rfl, rfl⟩
    go_wp2_with fail
    refine (HPS.out w1 HN1.out).mono ?_
    rintro e w2 ⟨rfl, rfl⟩
    go_wp2_with fail
    refine (refnames_any w1).mono ?_
    rintro e w2 ⟨c, rfl, hcb, hblk, hb2⟩
    have HB2 := Lib.hid (HB1.out.trans (hb2.mono HB1.out.size))
    have HN2 := Lib.hid (HN1.out.below hb2)
    have HBK := Lib.hid hblk
    clear hb2 hblk hcb
    go_wp2_with fail
    go_loop [10, 37] (fun n i => ∃ k : Nat, k ≤ 7 ∧ i = .int .i64 k ∧ n = .int .i64 ((if p ≤ k then p else 0 : Nat) : Int)) (fun _ i => 7 - (intOf i).toNat)
    case atStart => exact ⟨0, by omega, rfl, by by_cases hp0 : p = 0 <;> simp [hp0]⟩
    case round =>
      obtain ⟨k, hk, rfl, rfl⟩ := hrel
      by_cases hlt : k < 7
      · have hcell : w2.cell? ⟨c, k, none⟩ = some (.string (nm k)) := by rw [HBK.out.cell, nmC_at k hlt]
        have hiff := HP.out.2 k hlt
        have HU : Hid (p = k + 1 → (if p ≤ k + 1 then p else 0) = k + 1) := Lib.hid fun h => by rw [if_pos (by omega), h]
        have HV : Hid (p ≠ k + 1 → (if p ≤ k + 1 then p else 0) = (if p ≤ k then p else 0)) := Lib.hid fun h => by
          by_cases h2 : p ≤ k
          · rw [if_pos h2, if_pos (by omega)]
          · rw [if_neg h2, if_neg (by omega)]
        by_cases hpk : p = k + 1
        · have hq : ((nm k).toList == a1.toList) = true := by rw [hiff.2 hpk]; exact str_eq _
          have HE := Lib.hid (HU.out hpk)
          clear hpk hiff
          generalize (if p ≤ k then p else 0) = q at *
          generalize nm k = x at *
          go_wp2
          go_round
          case rel => exact ⟨k + 1, by omega, by go_num, by rw [HE.out]; go_num⟩
          case measure => simp [intOf]; omega
        · have hq : ((nm k).toList == a1.toList) = false := str_ne fun e => hpk (hiff.1 e)
          have HE := Lib.hid (HV.out hpk)
          clear hpk hiff
          generalize (if p ≤ k then p else 0) = q at *
          generalize nm k = x at *
          go_wp2
          go_round
          case rel => exact ⟨k + 1, by omega, by go_num, by rw [HE.out]⟩
          case measure => simp [intOf]; omega
      · obtain rfl : k = 7 := by omega
        clear hlt hk
        rw [if_pos HP.out.1]
        go_wp2_with fail
        refine (alive_any w2 HN2.out).mono ?_
        rintro e w3 ⟨rfl, hb3⟩
        have HB3 := Lib.hid (HB2.out.trans (hb3.mono HB2.out.size))
        have HN3 := Lib.hid (HN2.out.below hb3)
        clear hb3
        go_wp2_with fail
        refine (HNM.out w3 HN3.out).mono ?_
        rintro e w4 ⟨rfl, rfl⟩
        have HPP : Hid (p = 0 ∨ ∃ q, p = q + 1) := Lib.hid (by rcases p with _ | q; exact .inl rfl; exact .inr ⟨q, rfl⟩)
        rcases HPP.out with rfl | ⟨q, rfl⟩
        all_goals
          go_wp2
          go_ret
          exact ⟨by simp, HB3.out⟩

theorem walk_StatusNames (a0 : Int) (a1 : ByteArray) (w : World) (w0 : (Lit.int .i64 a0).wf = true) (w1 : a1.size ≤ maxLen) (hL : laidMetH Tryd.prog Rows.statusNamesRow.laid w) :
    Calls Tryd.prog 6 #[.int .i64 a0, .string a1] w fun e w' => e = .returned (.bool true) ∧ Below w.heap.size w w' := by
  have h := names_of_laid hL
  by_cases ha : a0 < 1 ∨ 7 < a0
  · exact names_no a0 ha a1 w h
  · obtain ⟨j, rfl⟩ : ∃ j : Nat, a0 = (j : Int) + 1 := ⟨(a0 - 1).toNat, by omega⟩
    exact names_yes j (by omega) a1 w h
end Go.Proofs.YtdkojcmffkhpkaaDoor
