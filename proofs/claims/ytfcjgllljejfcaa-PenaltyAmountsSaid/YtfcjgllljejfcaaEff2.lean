/- The closures of hold, pass and ripe; what a function value does to a validator; the makers. -/
import Derived.Test.YtfcjgllljejfcaaEff
import Derived.Test.YtfcjgllljejfcaaKept
namespace Go.Proofs.Ytfcjgllljejfcaa
open Go Go.RowKit
set_option linter.unusedVariables false
set_option linter.unusedSimpArgs false
set_option maxRecDepth 100000

section
variable {w w' : World} {b g g2 : Nat} {x y : Val}
theorem ripe1_any (e : Int) (x : Val) (w : World) (hb : VB w b x) (hg : w.cell? ⟨g, 0, none⟩ = some (.int .i64 e)) :
    Calls Try.prog 49 #[.pointer (some ⟨b, 0, none⟩), .pointer (some ⟨g, 0, none⟩)] w fun o w' => o = .returned (.int .i64 (ripeE e x).1) ∧ VB w' b (ripeE e x).2 ∧ w.grownBy w' (some b) := by
  have HB := Lib.hid hb
  have hc5 : w.cell? ⟨b, 5, none⟩ = some (.int .i64 x.wd) := Blk.cell hb 5
  clear hb
  by_cases h : e < x.wd
  · have HE := Lib.hid (show ripeE e x = (8, x) from if_pos h)
    go_enter Try.func49, Try.ntmps49
    go_wp2
    go_quiet (fail)
    go_wp2
    go_ret
    rw [HE.out]
    exact ⟨rfl, Blk.drewN HB.out _, only_drewN (only_refl _ _) _⟩
  · have HE := Lib.hid (show ripeE e x = (0, x) from if_neg h)
    go_enter Try.func49, Try.ntmps49
    go_wp2
    go_quiet (fail)
    go_wp2
    go_ret
    rw [HE.out]
    exact ⟨rfl, Blk.drewN HB.out _, only_drewN (only_refl _ _) _⟩
set_option maxHeartbeats 800000 in
theorem hold1_any (e n : Int) (x : Val) (w : World) (h0 : 0 ≤ n) (h1 : n ≤ 9223372036854775807) (hb : VB w b x) (hg : w.cell? ⟨g, 0, none⟩ = some (.int .i64 e)) (hg2 : w.cell? ⟨g2, 0, none⟩ = some (.int .i64 n)) :
    Calls Try.prog 46 #[.pointer (some ⟨b, 0, none⟩), .pointer (some ⟨g, 0, none⟩), .pointer (some ⟨g2, 0, none⟩)] w fun o w' => o = .returned (.int .i64 (holdE e n x).1) ∧ VB w' b (holdE e n x).2 ∧ w.grownBy w' (some b) := by
  have HL := Lib.hid (laterOne e n w.heap.size (w.alloc (.cells #[.int .i64 n] 3)) h0 h1 ((Blk.new w 3 #[.int .i64 n]).cell 0))
  have HB := Lib.hid hb
  have HM := Lib.hid (fun c (w : World) => maxTwo x.wd c w.heap.size (w.alloc (.cells #[.int .i64 x.wd, .int .i64 c] 3)) (Blk.new w _ _))
  have hf := hb.fz 5
  have hc5 : w.cell? ⟨b, 5, none⟩ = some (.int .i64 x.wd) := Blk.cell hb 5
  clear hb h0 h1
  by_cases h : lOk e n
  · have HE := Lib.hid (show holdE e n x = (0, { x with wd := max x.wd (e + n) }) from if_pos h)
    rw [if_pos h, decide_eq_true h] at HL
    generalize e + n = c at *
    clear h
    go_enter Try.func46, Try.ntmps46
    go_wp2_with fail
    refine HL.out.mono ?_
    rintro o w1 ⟨rfl, hw1⟩
    have B1 : Hid (w.grownBy w1 (some b)) := Lib.hid (by rw [← hw1]; exact only_alloc (only_refl _ _) _)
    have K1 : Hid (VB w1 b x) := Lib.hid (by rw [← hw1]; exact Blk.alloc HB.out _)
    have hc5 : w1.cell? ⟨b, 5, none⟩ = some (.int .i64 x.wd) := Blk.cell K1.out 5
    have F1 := K1.out.fz 5
    clear hw1 HL hg hg2 hf HB
    go_wp2_with fail
    refine (HM.out _ _).mono ?_
    rintro o w2 ⟨rfl, hw2⟩
    have B2 : Hid (w.grownBy w2 (some b)) := Lib.hid (by rw [← hw2]; exact only_alloc B1.out _)
    have K2 : Hid (VB w2 b x) := Lib.hid (by rw [← hw2]; exact Blk.alloc K1.out _)
    have F2 := K2.out.fz 5
    have c2 : w2.cell? ⟨b, 5, none⟩ = some (.int .i64 x.wd) := Blk.cell K2.out 5
    clear hw2 HM F1 hc5 B1 K1
    generalize max x.wd c = m at *
    go_wp2
    go_ret
    rw [HE.out]
    exact ⟨rfl, K2.out.set rfl, only_setCell B2.out (.inl rfl) _⟩
  · have HE := Lib.hid (show holdE e n x = (10, x) from if_neg h)
    rw [if_neg h, decide_eq_false h] at HL
    clear h
    go_enter Try.func46, Try.ntmps46
    go_wp2_with fail
    refine HL.out.mono ?_
    rintro o w1 ⟨rfl, hw1⟩
    have B1 : Hid (w.grownBy w1 (some b)) := Lib.hid (by rw [← hw1]; exact only_alloc (only_refl _ _) _)
    have K1 : Hid (VB w1 b x) := Lib.hid (by rw [← hw1]; exact Blk.alloc HB.out _)
    clear hw1 HL hg hg2 hf HB
    go_wp2
    go_ret
    rw [HE.out]
    exact ⟨rfl, K1.out, B1.out⟩
set_option maxHeartbeats 800000 in
theorem pass1_any (ev : Int) (x : Val) (w : World) (hs : (Lit.int .i64 x.st).wf = true) (he : (Lit.int .i64 ev).wf = true) (hb : VB w b x) (hg : w.cell? ⟨g, 0, none⟩ = some (.int .i64 ev)) :
    Calls Try.prog 43 #[.pointer (some ⟨b, 0, none⟩), .pointer (some ⟨g, 0, none⟩)] w fun o w' => o = .returned (.int .i64 (passE ev x).1) ∧ VB w' b (passE ev x).2 ∧ w.grownBy w' (some b) := by
  have HN := Lib.hid (next_any x.st ev w.drew hs he)
  have HB := Lib.hid hb
  have hc1 : w.cell? ⟨b, 1, none⟩ = some (.int .i64 x.st) := Blk.cell hb 1
  have HC := Lib.hid (And.intro hc1 hg)
  clear hb hc1 hg hs he
  go_enter Try.func43, Try.ntmps43
  go_wp2
  refine wp_region_first (fun w' => w'.cell? ⟨b, 1, none⟩ = some (.int .i64 x.st) ∧ w'.cell? ⟨g, 0, none⟩ = some (.int .i64 ev)) 10 5 [0, 1, 2, 3, 4] (by kernel_rfl) (by kernel_rfl) HC.out ?_
  simp only [List.filterMap_cons, List.filterMap_nil, List.getElem?_toArray, List.getElem?_cons_zero, List.getElem?_cons_succ]
  show wpQuiet _ _ _ _ [_, _, _, _, _] _
  iterate 3 (go_big_quiet_step ((intros; rfl)))
  refine q_cell 3 _ ⟨b, 1, none⟩ (.int .i64 x.st) rfl rfl rfl (fun w h => by simp [go_sem, h]) (fun w h => h.1) ?_
  refine q_cell 3 _ ⟨g, 0, none⟩ (.int .i64 ev) rfl rfl rfl (fun w h => by simp [go_sem, h]) (fun w h => h.2) ?_
  simp only [Act.put, List.setIfInBounds_toArray, List.set_cons_zero, List.set_cons_succ]
  refine wpQuiet_nil ?_
  refine headF_one (i := 5) (by kernel_rfl) (by omega) ?_
  refine wpOp_at rfl rfl (wp_call_at rfl #[.int .i64 x.st, .int .i64 ev] (by kernel_rfl) Try.call44 (HN.out.mono ?_))
  rintro o w1 ⟨rfl, b1⟩
  have hB1 : Below w.heap.size w w1 := (Below.drew (Below.refl _ _)).trans b1
  have B1 : Hid (w.grownBy w1 (some b)) := Lib.hid (only_of_below hB1 _)
  have K1 : Hid (VB w1 b x) := Lib.hid (Blk.below HB.out hB1 HB.out.lt)
  have S1 : w1.cell? ⟨b, 1, none⟩ = some (.int .i64 x.st) ∧ w1.cell? ⟨g, 0, none⟩ = some (.int .i64 ev) := ⟨Blk.cell K1.out 1, (hB1.cell (p := ⟨g, 0, none⟩) (cell_lt HC.out.2)).trans HC.out.2⟩
  clear b1 HN hB1
  refine ⟨_, rfl, S1, ?_⟩
  simp only [Act.put, List.getElem_toArray, List.getElem_cons_zero, List.getElem_cons_succ, List.setIfInBounds_toArray, List.set_cons_zero, List.set_cons_succ]
  refine headF_takes (fun w' => w'.cell? ⟨b, 1, none⟩ = some (.int .i64 x.st) ∧ w'.cell? ⟨g, 0, none⟩ = some (.int .i64 ev)) (m := 4) (f := 0) [6, 7, 8, 9] (fun _ h => h) (by kernel_rfl) S1 ?_
  simp only [List.filterMap_cons, List.filterMap_nil, List.getElem?_toArray, List.getElem?_cons_zero, List.getElem?_cons_succ]
  show wpQuiet _ _ _ _ [_, _, _, _] _
  iterate 4 (go_big_quiet_step ((intros; rfl)))
  refine wpQuiet_nil ?_
  show Region.seqB _ _ _ _ _ = true ∧ _
  refine ⟨by kernel_rfl, ?_⟩
  simp only [Act.put, List.getElem_toArray, List.getElem_cons_zero, List.getElem_cons_succ, List.setIfInBounds_toArray, List.set_cons_zero, List.set_cons_succ, List.drop_succ_cons, List.drop_zero]
  have F1 := K1.out.fz 1
  have c1 := S1.1
  clear S1 HC
  by_cases h : refN x.st ev = 0
  · have HE := Lib.hid (show passE ev x = (8, x) from if_pos h)
    rw [h]
    clear h
    go_wp2
    refine NoPanic.normal ?_
    go_wp2
    go_ret
    rw [HE.out]
    exact ⟨rfl, K1.out, B1.out⟩
  · have HE := Lib.hid (show passE ev x = (0, { x with st := refN x.st ev }) from if_neg h)
    have hn : (refN x.st ev != 0) = true := by simpa using h
    generalize refN x.st ev = r at *
    rw [hn]
    clear h hn
    go_wp2
    refine NoPanic.normal ?_
    go_wp2
    go_ret
    rw [HE.out]
    exact ⟨rfl, K1.out.set rfl, only_setCell B1.out (.inl rfl) _⟩
end
end Go.Proofs.Ytfcjgllljejfcaa
