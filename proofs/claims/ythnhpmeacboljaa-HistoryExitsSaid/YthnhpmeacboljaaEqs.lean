/- slices.Equal at payments and at assignments (stage 22's text for payments, for both). -/
import Derived.Test.YthnhpmeacboljaaOrdL
import Derived.Deep.CutRange
namespace Go.Proofs.Ythnhpmeacboljaa
open Go Go.RowKit Go.Deep
set_option linter.unusedVariables false
set_option linter.unusedSimpArgs false
set_option maxRecDepth 100000

theorem eq_snoc {α : Type} {la lb : List α} {k : Nat} {x y : α} (hx : la[k]? = some x) (hy : lb[k]? = some y) (h : la.take k = lb.take k) : (la.take (k + 1) = lb.take (k + 1) ↔ x = y) := by
  rw [List.take_add_one, List.take_add_one, hx, hy, h]
  simp
theorem ne_of_at {α : Type} {la lb : List α} {k : Nat} {x y : α} (hx : la[k]? = some x) (hy : lb[k]? = some y) (h : x ≠ y) : la ≠ lb := by
  rintro rfl
  rw [hx] at hy
  exact h (Option.some.inj hy)
theorem rangeAt_below {w w' : World} {b o : Nat} {cs : List Value} (h : w.rangeAt b o cs) (hl : b < w.heap.size) (hb : Below w.heap.size w w') : w'.rangeAt b o cs := rangeAt_same h (hb.block b hl)
set_option maxHeartbeats 1600000 in
theorem eqPay_any (a1 a2 : Option Addr) (n1 n2 c1 c2 : Nat) (la lb : List (Pm)) (w : World) (S1 S2 : Nat → Prop) (h1 : LstR Pm.row 3 w S1 a1 la) (h2 : LstR Pm.row 3 w S2 a2 lb) (e1 : la.length = n1) (e2 : lb.length = n2) (b1 : n1 ≤ 9223372036854775807) (b2 : n2 ≤ 9223372036854775807) :
    Calls Try.prog 12 #[.slice a1 n1 c1, .slice a2 n2 c2] w fun e w' => e = .returned (.bool (decide (la = lb))) ∧ Below w.heap.size w w' := by
  have H1 := Lib.hid h1
  have H2 := Lib.hid h2
  by_cases hn : n1 = n2
  · have E1 := Lib.hid e1
    have E2 : Hid (lb.length = n1) := Lib.hid (by rw [hn]; exact e2)
    obtain rfl : n1 = n2 := hn
    clear e1 e2 h1 h2 b2
    go_enter Try.func12, Try.ntmps12
    go_wp2
    go_loopw [13] (fun i wr => ∃ k : Nat, k ≤ n1 ∧ i = .int .i64 k ∧ Hid (la.take k = lb.take k) ∧ Hid (Below w.heap.size w wr)) (fun i _ => n1 - (intOf i).toNat)
    case atStart => exact ⟨0, by omega, rfl, Lib.hid rfl, Lib.hid (Below.refl _ _)⟩
    case round =>
      obtain ⟨k, hk, rfl, HQ, B1⟩ := hrel
      by_cases hlt : k < n1
      · obtain ⟨x, hx⟩ : ∃ x, la[k]? = some x := ⟨_, List.getElem?_eq_getElem (by rw [E1.out]; exact hlt)⟩
        obtain ⟨y, hy⟩ : ∃ y, lb[k]? = some y := ⟨_, List.getElem?_eq_getElem (by rw [E2.out]; exact hlt)⟩
        obtain ⟨g1, o1, rfl, _, l1, r1⟩ := H1.out.at hx
        obtain ⟨g2, o2, rfl, _, l2, r2⟩ := H2.out.at hy
        have R1 := Lib.hid (And.intro r1 l1)
        have R2 := Lib.hid (And.intro r2 l2)
        have HX := Lib.hid (And.intro hx hy)
        have HQ2 := Lib.hid (eq_snoc hx hy HQ.out)
        clear r1 r2 l1 l2 hx hy
        have hki : (0 : Int) ≤ (k : Int) := by omega
        have hkn : (k : Int) < (n1 : Int) := by omega
        cases hd : (!decide (x = y)) with
        | true =>
          have HNE : Hid (decide (la = lb) = false) := Lib.hid (decide_eq_false (ne_of_at HX.out.1 HX.out.2 (by simpa using hd)))
          have HD := Lib.hid hd
          clear hd
          go_wp2_with (fail)
          try simp only [Act.put]
          refine wp_region_class (fun w' => Below w.heap.size w w') (by kernel_rfl) (by kernel_rfl) B1.out.drew ?_
          iterate 3 (go_big_quiet_step ((intros; rfl)))
          refine q_load_Pm 41 _ g1 (o1 + k * 3) x _ rfl rfl rfl (fun w' h => rangeAt_below R1.out.1 R1.out.2 h) Try.underlying41 rfl infoPm ?_
          simp only [Act.put, List.setIfInBounds_toArray, List.set_cons_zero, List.set_cons_succ]
          iterate 3 (go_big_quiet_step ((intros; rfl)))
          refine q_load_Pm 41 _ g2 (o2 + k * 3) y _ rfl rfl rfl (fun w' h => rangeAt_below R2.out.1 R2.out.2 h) Try.underlying41 rfl infoPm ?_
          simp only [Act.put, List.setIfInBounds_toArray, List.set_cons_zero, List.set_cons_succ]
          refine q_nePm x y true rfl rfl rfl HD.out ?_
          simp only [Act.put, List.setIfInBounds_toArray, List.set_cons_zero, List.set_cons_succ]
          refine wpQuiet_nil ?_
          intro w9 b9
          go_wp2_with (fail)
          go_ret
          exact ⟨by rw [HNE.out]; rfl, b9⟩
        | false =>
          have HD := Lib.hid hd
          have HE : Hid (la.take (k + 1) = lb.take (k + 1)) := Lib.hid (HQ2.out.2 (by simpa using hd))
          clear hd
          go_wp2_with (fail)
          try simp only [Act.put]
          refine wp_region_class (fun w' => Below w.heap.size w w') (by kernel_rfl) (by kernel_rfl) B1.out.drew ?_
          iterate 3 (go_big_quiet_step ((intros; rfl)))
          refine q_load_Pm 41 _ g1 (o1 + k * 3) x _ rfl rfl rfl (fun w' h => rangeAt_below R1.out.1 R1.out.2 h) Try.underlying41 rfl infoPm ?_
          simp only [Act.put, List.setIfInBounds_toArray, List.set_cons_zero, List.set_cons_succ]
          iterate 3 (go_big_quiet_step ((intros; rfl)))
          refine q_load_Pm 41 _ g2 (o2 + k * 3) y _ rfl rfl rfl (fun w' h => rangeAt_below R2.out.1 R2.out.2 h) Try.underlying41 rfl infoPm ?_
          simp only [Act.put, List.setIfInBounds_toArray, List.set_cons_zero, List.set_cons_succ]
          refine q_nePm x y false rfl rfl rfl HD.out ?_
          simp only [Act.put, List.setIfInBounds_toArray, List.set_cons_zero, List.set_cons_succ]
          refine wpQuiet_nil ?_
          intro w9 b9
          have B9 := Lib.hid b9
          clear b9
          go_wp2_with (fail)
          go_roundw
          case rel => exact ⟨k + 1, by omega, by go_num, HE, B9⟩
          case measure => simp [intOf]; omega
      · obtain rfl : k = n1 := by omega
        have HE : Hid (decide (la = lb) = true) := Lib.hid (decide_eq_true (by
          have h := HQ.out
          rwa [List.take_of_length_le (by rw [E1.out]; exact Nat.le_refl _), List.take_of_length_le (by rw [E2.out]; exact Nat.le_refl _)] at h))
        clear hlt
        have hlt : ¬ k < k := by omega
        go_wp2
        go_ret
        exact ⟨by rw [HE.out]; rfl, B1.out⟩
  · have HE : Hid (decide (la = lb) = false) := Lib.hid (decide_eq_false (by rintro rfl; omega))
    have hb : ((n1 : Int) == n2) = false := by simp; omega
    clear hn e1 e2 h1 h2
    go_enter Try.func12, Try.ntmps12
    go_wp2
    go_ret
    exact ⟨by rw [HE.out]; rfl, Below.refl _ _⟩
set_option maxHeartbeats 1600000 in
theorem eqAsg_any (a1 a2 : Option Addr) (n1 n2 c1 c2 : Nat) (la lb : List (As)) (w : World) (S1 S2 : Nat → Prop) (h1 : LstR As.row 3 w S1 a1 la) (h2 : LstR As.row 3 w S2 a2 lb) (e1 : la.length = n1) (e2 : lb.length = n2) (b1 : n1 ≤ 9223372036854775807) (b2 : n2 ≤ 9223372036854775807) :
    Calls Try.prog 15 #[.slice a1 n1 c1, .slice a2 n2 c2] w fun e w' => e = .returned (.bool (decide (la = lb))) ∧ Below w.heap.size w w' := by
  have H1 := Lib.hid h1
  have H2 := Lib.hid h2
  by_cases hn : n1 = n2
  · have E1 := Lib.hid e1
    have E2 : Hid (lb.length = n1) := Lib.hid (by rw [hn]; exact e2)
    obtain rfl : n1 = n2 := hn
    clear e1 e2 h1 h2 b2
    go_enter Try.func15, Try.ntmps15
    go_wp2
    go_loopw [13] (fun i wr => ∃ k : Nat, k ≤ n1 ∧ i = .int .i64 k ∧ Hid (la.take k = lb.take k) ∧ Hid (Below w.heap.size w wr)) (fun i _ => n1 - (intOf i).toNat)
    case atStart => exact ⟨0, by omega, rfl, Lib.hid rfl, Lib.hid (Below.refl _ _)⟩
    case round =>
      obtain ⟨k, hk, rfl, HQ, B1⟩ := hrel
      by_cases hlt : k < n1
      · obtain ⟨x, hx⟩ : ∃ x, la[k]? = some x := ⟨_, List.getElem?_eq_getElem (by rw [E1.out]; exact hlt)⟩
        obtain ⟨y, hy⟩ : ∃ y, lb[k]? = some y := ⟨_, List.getElem?_eq_getElem (by rw [E2.out]; exact hlt)⟩
        obtain ⟨g1, o1, rfl, _, l1, r1⟩ := H1.out.at hx
        obtain ⟨g2, o2, rfl, _, l2, r2⟩ := H2.out.at hy
        have R1 := Lib.hid (And.intro r1 l1)
        have R2 := Lib.hid (And.intro r2 l2)
        have HX := Lib.hid (And.intro hx hy)
        have HQ2 := Lib.hid (eq_snoc hx hy HQ.out)
        clear r1 r2 l1 l2 hx hy
        have hki : (0 : Int) ≤ (k : Int) := by omega
        have hkn : (k : Int) < (n1 : Int) := by omega
        cases hd : (!decide (x = y)) with
        | true =>
          have HNE : Hid (decide (la = lb) = false) := Lib.hid (decide_eq_false (ne_of_at HX.out.1 HX.out.2 (by simpa using hd)))
          have HD := Lib.hid hd
          clear hd
          go_wp2_with (fail)
          try simp only [Act.put]
          refine wp_region_class (fun w' => Below w.heap.size w w') (by kernel_rfl) (by kernel_rfl) B1.out.drew ?_
          iterate 3 (go_big_quiet_step ((intros; rfl)))
          refine q_load_As 47 _ g1 (o1 + k * 3) x _ rfl rfl rfl (fun w' h => rangeAt_below R1.out.1 R1.out.2 h) Try.underlying47 rfl infoAs ?_
          simp only [Act.put, List.setIfInBounds_toArray, List.set_cons_zero, List.set_cons_succ]
          iterate 3 (go_big_quiet_step ((intros; rfl)))
          refine q_load_As 47 _ g2 (o2 + k * 3) y _ rfl rfl rfl (fun w' h => rangeAt_below R2.out.1 R2.out.2 h) Try.underlying47 rfl infoAs ?_
          simp only [Act.put, List.setIfInBounds_toArray, List.set_cons_zero, List.set_cons_succ]
          refine q_neAs x y true rfl rfl rfl HD.out ?_
          simp only [Act.put, List.setIfInBounds_toArray, List.set_cons_zero, List.set_cons_succ]
          refine wpQuiet_nil ?_
          intro w9 b9
          go_wp2_with (fail)
          go_ret
          exact ⟨by rw [HNE.out]; rfl, b9⟩
        | false =>
          have HD := Lib.hid hd
          have HE : Hid (la.take (k + 1) = lb.take (k + 1)) := Lib.hid (HQ2.out.2 (by simpa using hd))
          clear hd
          go_wp2_with (fail)
          try simp only [Act.put]
          refine wp_region_class (fun w' => Below w.heap.size w w') (by kernel_rfl) (by kernel_rfl) B1.out.drew ?_
          iterate 3 (go_big_quiet_step ((intros; rfl)))
          refine q_load_As 47 _ g1 (o1 + k * 3) x _ rfl rfl rfl (fun w' h => rangeAt_below R1.out.1 R1.out.2 h) Try.underlying47 rfl infoAs ?_
          simp only [Act.put, List.setIfInBounds_toArray, List.set_cons_zero, List.set_cons_succ]
          iterate 3 (go_big_quiet_step ((intros; rfl)))
          refine q_load_As 47 _ g2 (o2 + k * 3) y _ rfl rfl rfl (fun w' h => rangeAt_below R2.out.1 R2.out.2 h) Try.underlying47 rfl infoAs ?_
          simp only [Act.put, List.setIfInBounds_toArray, List.set_cons_zero, List.set_cons_succ]
          refine q_neAs x y false rfl rfl rfl HD.out ?_
          simp only [Act.put, List.setIfInBounds_toArray, List.set_cons_zero, List.set_cons_succ]
          refine wpQuiet_nil ?_
          intro w9 b9
          have B9 := Lib.hid b9
          clear b9
          go_wp2_with (fail)
          go_roundw
          case rel => exact ⟨k + 1, by omega, by go_num, HE, B9⟩
          case measure => simp [intOf]; omega
      · obtain rfl : k = n1 := by omega
        have HE : Hid (decide (la = lb) = true) := Lib.hid (decide_eq_true (by
          have h := HQ.out
          rwa [List.take_of_length_le (by rw [E1.out]; exact Nat.le_refl _), List.take_of_length_le (by rw [E2.out]; exact Nat.le_refl _)] at h))
        clear hlt
        have hlt : ¬ k < k := by omega
        go_wp2
        go_ret
        exact ⟨by rw [HE.out]; rfl, B1.out⟩
  · have HE : Hid (decide (la = lb) = false) := Lib.hid (decide_eq_false (by rintro rfl; omega))
    have hb : ((n1 : Int) == n2) = false := by simp; omega
    clear hn e1 e2 h1 h2
    go_enter Try.func15, Try.ntmps15
    go_wp2
    go_ret
    exact ⟨by rw [HE.out]; rfl, Below.refl _ _⟩
end Go.Proofs.Ythnhpmeacboljaa
