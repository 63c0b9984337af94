/- Format, the reference's: rejected operations, and accepted ones that are no ticks. -/
import Derived.Test.YtjbbcnepeffiaaaDoorCat
import Derived.Deep.CutRange
namespace Go.Proofs.YtjbbcnepeffiaaaDoor
open Go Go.RowKit
set_option linter.unusedVariables false
set_option linter.unusedSimpArgs false
set_option maxRecDepth 100000

/-- " error ", " ok ", " block " -/
def errE : List UInt8 := [32, 101, 114, 114, 111, 114, 32]
def okE : List UInt8 := [32, 111, 107, 32]
def blkE : List UInt8 := [32, 98, 108, 111, 99, 107, 32]
set_option maxHeartbeats 3200000 in
theorem refformat_erry (r : Rc) (la : List As) (lp : List Pm) (w : World) (hn : RcNums r) (h1 : 1 ≤ r.kd) (h7 : r.kd ≤ 7) (hcd : r.cd ≠ 0) :
    Calls Tryd.prog 19 #[.agg (cellsRc r)] w fun e w' => e = .returned (.string (bs (lineL r la lp))) ∧ Below w.heap.size w w' := by
  obtain ⟨T1, hT1⟩ : ∃ T1, kindL r.kd ++ errE = T1 := ⟨_, rfl⟩
  obtain ⟨T2, hT2⟩ : ∃ T2, T1 ++ Lib.itoa r.cd = T2 := ⟨_, rfl⟩
  have HT1 : Hid (kindL r.kd ++ errE = T1 ∧ T1.length ≤ 9223372036854775807) := Lib.hid ⟨hT1, by have z0 := kindL_len r.kd; have z1 := itoa_short hn.cd; have z2 := itoa_short hn.ix; have z3 := itoa_short hn.dl; have z4 := itoa_short hn.bl; have z5 := itoa_short hn.ep; have z6 := itoa_short hn.vs; simp only [← hT1, List.length_append]; simp [errE, okE, byS, blkE, epoS, visS]; omega⟩
  have HT2 : Hid (T1 ++ Lib.itoa r.cd = T2 ∧ T2.length ≤ 9223372036854775807) := Lib.hid ⟨hT2, by have z0 := kindL_len r.kd; have z1 := itoa_short hn.cd; have z2 := itoa_short hn.ix; have z3 := itoa_short hn.dl; have z4 := itoa_short hn.bl; have z5 := itoa_short hn.ep; have z6 := itoa_short hn.vs; simp only [← hT2, ← hT1, List.length_append]; simp [errE, okE, byS, blkE, epoS, visS]; omega⟩
  have HL : Hid (lineL r la lp = T2) := Lib.hid (by rw [← hT2, ← hT1]; unfold lineL headL; rw [if_neg hcd]; simp [errS, okS, byS, errE, okE, elseL, *])
  clear hT1 hT2
  have hcb : (r.cd == 0) = false := by simpa using hcd
  clear hcd
  have F0 : Hid (RF w (w.alloc (.cells (cellsRc r) 26)) w.heap.size r) := Lib.hid ⟨Blk.new w _ _, (Below.refl _ _).alloc (Nat.le_refl _) _⟩
  have HN := Lib.hid hn
  have HK := Lib.hid (kindL_len r.kd)
  obtain ⟨k, hk⟩ : ∃ k : Nat, r.kd = (k : Int) + 1 := ⟨(r.kd - 1).toNat, by omega⟩
  have hk7 : k < 7 := by omega
  have HNM : Hid (bs (kindL r.kd) = nm k) := Lib.hid (by rw [kindL_yes ⟨h1, h7⟩, show (r.kd - 1).toNat = k by omega])
  have HNC : Hid (nmC[k]? = some (.string (bs (kindL r.kd)))) := Lib.hid (by rw [nmC_at k hk7, HNM.out])
  have HSUB : Hid (IntKind.i64.wrap (r.kd - 1) = (k : Int)) := Lib.hid (by rw [hk]; simp [IntKind.wrap, IntKind.bits, IntKind.signed]; omega)
  have HK7 := Lib.hid hk7
  clear hk hn hk7
  go_enter Tryd.func19, Tryd.ntmps19
  go_upto_region 1 with (fail)
  generalize w.alloc (.cells (cellsRc r) 26) = W at *
  have c0 : W.cell? ⟨w.heap.size, 0, none⟩ = some (.int .i64 r.kd) := F0.out.cell 0
  go_upto_region 3 with (fail)
  have hsub := HSUB.out
  have hk0 : (0 : Int) ≤ (k : Int) := by omega
  have hk8 : (k : Int) < 7 := by have := HK7.out; omega
  refine wp_region_first (fun w' => RF w w' w.heap.size r) 6 3 [1, 2, 3] (by kernel_rfl) (by kernel_rfl) F0.out.drew ?_
  simp only [List.filterMap_cons, List.filterMap_nil, List.getElem?_toArray, List.getElem?_cons_zero, List.getElem?_cons_succ]
  show wpQuiet _ _ _ _ [_, _, _] _
  iterate 1 (go_big_quiet_step ((intros; rfl)))
  refine q_cell 3 _ _ (.int .i64 r.kd) rfl rfl rfl (fun w h => by simp [go_sem, h]) (fun w h => h.cell 0) ?_
  simp only [Act.put, List.setIfInBounds_toArray, List.set_cons_zero, List.set_cons_succ]
  iterate 1 (go_big_quiet_step ((intros; rfl)))
  refine wpQuiet_nil ?_
  refine headF_one (i := 0) (by kernel_rfl) (by omega) ?_
  refine wpOp_at rfl rfl (wp_call_at rfl #[] (by kernel_rfl) Tryd.call33 ((refnames_any W.drew).mono ?_))
  rintro e w2 ⟨b, rfl, _, hT, hb⟩
  have F1 := Lib.hid (F0.out.drew.below hb)
  have hnc : w2.cell? ⟨b, k, none⟩ = some (.string (bs (kindL r.kd))) := by rw [hT.cell k]; exact HNC.out
  clear hb hT F0
  refine ⟨_, rfl, F1.out, ?_⟩
  simp only [Act.put, List.getElem_toArray, List.getElem_cons_zero, List.getElem_cons_succ, List.setIfInBounds_toArray, List.set_cons_zero, List.set_cons_succ]
  refine headF_takes (fun w' => w'.cell? ⟨b, k, none⟩ = some (.string (bs (kindL r.kd))) ∧ RF w w' w.heap.size r) (m := 2) (f := 0) [4, 5] (fun _ h => h.2) (by kernel_rfl) ⟨hnc, F1.out⟩ ?_
  simp only [List.filterMap_cons, List.filterMap_nil, List.getElem?_toArray, List.getElem?_cons_zero, List.getElem?_cons_succ]
  show wpQuiet _ _ _ _ [_, _] _
  iterate 1 (go_big_quiet_step ((intros; rfl)))
  refine q_cell 9 _ _ (.string (bs (kindL r.kd))) rfl rfl rfl (fun w h => by simp [go_sem, h]) (fun w h => by simpa using h.1) ?_
  simp only [Act.put, List.setIfInBounds_toArray, List.set_cons_zero, List.set_cons_succ]
  refine wpQuiet_nil ?_
  show Region.seqB _ _ _ _ _ = true ∧ _
  refine ⟨by kernel_rfl, ?_⟩
  simp only [Act.put, List.getElem_toArray, List.getElem_cons_zero, List.getElem_cons_succ, List.setIfInBounds_toArray, List.set_cons_zero, List.set_cons_succ, List.drop_succ_cons, List.drop_zero]
  clear hnc HNC HSUB hsub hk0 hk8 c0 HNM HK7
  go_wp2_with (fail)
  refine NoPanic.normal ?_
  have m1 : w2.cell? ⟨w.heap.size, 1, none⟩ = some (.int .i64 r.cd) := F1.out.cell 1
  go_wp2_with (refine wpList_cat (dst := some 27) (kindL r.kd) errE T1 HT1 rfl rfl rfl ?_)
  refine (decimal_any r.cd HN.out.cd _).mono ?_
  rintro e w9 ⟨rfl, rfl⟩
  go_wp2_with (refine wpList_cat (dst := some 31) T1 (Lib.itoa r.cd) T2 HT2 rfl rfl rfl ?_)
  go_wp2_with (fail)
  go_ret
  exact ⟨by rw [HL.out]; rfl, F1.out.bel⟩
set_option maxHeartbeats 3200000 in
theorem refformat_noney (r : Rc) (la : List As) (lp : List Pm) (w : World) (hn : RcNums r) (h1 : 1 ≤ r.kd) (h7 : r.kd ≤ 7) (hcd : r.cd = 0) (hkd : r.kd ≠ 7) (hdl : r.dl = -1) :
    Calls Tryd.prog 19 #[.agg (cellsRc r)] w fun e w' => e = .returned (.string (bs (lineL r la lp))) ∧ Below w.heap.size w w' := by
  obtain ⟨T1, hT1⟩ : ∃ T1, kindL r.kd ++ okE = T1 := ⟨_, rfl⟩
  obtain ⟨T2, hT2⟩ : ∃ T2, T1 ++ Lib.itoa r.ix = T2 := ⟨_, rfl⟩
  have HT1 : Hid (kindL r.kd ++ okE = T1 ∧ T1.length ≤ 9223372036854775807) := Lib.hid ⟨hT1, by have z0 := kindL_len r.kd; have z1 := itoa_short hn.cd; have z2 := itoa_short hn.ix; have z3 := itoa_short hn.dl; have z4 := itoa_short hn.bl; have z5 := itoa_short hn.ep; have z6 := itoa_short hn.vs; simp only [← hT1, List.length_append]; simp [errE, okE, byS, blkE, epoS, visS]; omega⟩
  have HT2 : Hid (T1 ++ Lib.itoa r.ix = T2 ∧ T2.length ≤ 9223372036854775807) := Lib.hid ⟨hT2, by have z0 := kindL_len r.kd; have z1 := itoa_short hn.cd; have z2 := itoa_short hn.ix; have z3 := itoa_short hn.dl; have z4 := itoa_short hn.bl; have z5 := itoa_short hn.ep; have z6 := itoa_short hn.vs; simp only [← hT2, ← hT1, List.length_append]; simp [errE, okE, byS, blkE, epoS, visS]; omega⟩
  have HL : Hid (lineL r la lp = T2) := Lib.hid (by rw [← hT2, ← hT1]; unfold lineL headL; rw [if_pos hcd, if_neg hkd]; simp [errS, okS, byS, errE, okE, elseL, *])
  clear hT1 hT2
  have hkb : (r.kd == 7) = false := by simpa using hkd
  have HC := Lib.hid (And.intro hcd hdl)
  clear hcd hdl hkd
  have F0 : Hid (RF w (w.alloc (.cells (cellsRc r) 26)) w.heap.size r) := Lib.hid ⟨Blk.new w _ _, (Below.refl _ _).alloc (Nat.le_refl _) _⟩
  have HN := Lib.hid hn
  have HK := Lib.hid (kindL_len r.kd)
  obtain ⟨k, hk⟩ : ∃ k : Nat, r.kd = (k : Int) + 1 := ⟨(r.kd - 1).toNat, by omega⟩
  have hk7 : k < 7 := by omega
  have HNM : Hid (bs (kindL r.kd) = nm k) := Lib.hid (by rw [kindL_yes ⟨h1, h7⟩, show (r.kd - 1).toNat = k by omega])
  have HNC : Hid (nmC[k]? = some (.string (bs (kindL r.kd)))) := Lib.hid (by rw [nmC_at k hk7, HNM.out])
  have HSUB : Hid (IntKind.i64.wrap (r.kd - 1) = (k : Int)) := Lib.hid (by rw [hk]; simp [IntKind.wrap, IntKind.bits, IntKind.signed]; omega)
  have HK7 := Lib.hid hk7
  clear hk hn hk7
  go_enter Tryd.func19, Tryd.ntmps19
  go_upto_region 1 with (fail)
  generalize w.alloc (.cells (cellsRc r) 26) = W at *
  have c0 : W.cell? ⟨w.heap.size, 0, none⟩ = some (.int .i64 r.kd) := F0.out.cell 0
  go_upto_region 3 with (fail)
  have hsub := HSUB.out
  have hk0 : (0 : Int) ≤ (k : Int) := by omega
  have hk8 : (k : Int) < 7 := by have := HK7.out; omega
  refine wp_region_first (fun w' => RF w w' w.heap.size r) 6 3 [1, 2, 3] (by kernel_rfl) (by kernel_rfl) F0.out.drew ?_
  simp only [List.filterMap_cons, List.filterMap_nil, List.getElem?_toArray, List.getElem?_cons_zero, List.getElem?_cons_succ]
  show wpQuiet _ _ _ _ [_, _, _] _
  iterate 1 (go_big_quiet_step ((intros; rfl)))
  refine q_cell 3 _ _ (.int .i64 r.kd) rfl rfl rfl (fun w h => by simp [go_sem, h]) (fun w h => h.cell 0) ?_
  simp only [Act.put, List.setIfInBounds_toArray, List.set_cons_zero, List.set_cons_succ]
  iterate 1 (go_big_quiet_step ((intros; rfl)))
  refine wpQuiet_nil ?_
  refine headF_one (i := 0) (by kernel_rfl) (by omega) ?_
  refine wpOp_at rfl rfl (wp_call_at rfl #[] (by kernel_rfl) Tryd.call33 ((refnames_any W.drew).mono ?_))
  rintro e w2 ⟨b, rfl, _, hT, hb⟩
  have F1 := Lib.hid (F0.out.drew.below hb)
  have hnc : w2.cell? ⟨b, k, none⟩ = some (.string (bs (kindL r.kd))) := by rw [hT.cell k]; exact HNC.out
  clear hb hT F0
  refine ⟨_, rfl, F1.out, ?_⟩
  simp only [Act.put, List.getElem_toArray, List.getElem_cons_zero, List.getElem_cons_succ, List.setIfInBounds_toArray, List.set_cons_zero, List.set_cons_succ]
  refine headF_takes (fun w' => w'.cell? ⟨b, k, none⟩ = some (.string (bs (kindL r.kd))) ∧ RF w w' w.heap.size r) (m := 2) (f := 0) [4, 5] (fun _ h => h.2) (by kernel_rfl) ⟨hnc, F1.out⟩ ?_
  simp only [List.filterMap_cons, List.filterMap_nil, List.getElem?_toArray, List.getElem?_cons_zero, List.getElem?_cons_succ]
  show wpQuiet _ _ _ _ [_, _] _
  iterate 1 (go_big_quiet_step ((intros; rfl)))
  refine q_cell 9 _ _ (.string (bs (kindL r.kd))) rfl rfl rfl (fun w h => by simp [go_sem, h]) (fun w h => by simpa using h.1) ?_
  simp only [Act.put, List.setIfInBounds_toArray, List.set_cons_zero, List.set_cons_succ]
  refine wpQuiet_nil ?_
  show Region.seqB _ _ _ _ _ = true ∧ _
  refine ⟨by kernel_rfl, ?_⟩
  simp only [Act.put, List.getElem_toArray, List.getElem_cons_zero, List.getElem_cons_succ, List.setIfInBounds_toArray, List.set_cons_zero, List.set_cons_succ, List.drop_succ_cons, List.drop_zero]
  clear hnc HNC HSUB hsub hk0 hk8 c0 HNM HK7
  go_wp2_with (fail)
  refine NoPanic.normal ?_
  have m0 : w2.cell? ⟨w.heap.size, 0, none⟩ = some (.int .i64 r.kd) := F1.out.cell 0
  have m1 : w2.cell? ⟨w.heap.size, 1, none⟩ = some (.int .i64 0) := by rw [← HC.out.1]; exact F1.out.cell 1
  have m5 : w2.cell? ⟨w.heap.size, 5, none⟩ = some (.int .i64 (-1)) := by rw [← HC.out.2]; exact F1.out.cell 5
  have n1 : w2.cell? ⟨w.heap.size, 2, none⟩ = some (.int .i64 r.ix) := F1.out.cell 2
  go_wp2_with (refine wpList_cat (dst := some 36) (kindL r.kd) okE T1 HT1 rfl rfl rfl ?_)
  refine (decimal_any r.ix HN.out.ix _).mono ?_
  rintro e w9 ⟨rfl, rfl⟩
  go_wp2_with (refine wpList_cat (dst := some 40) T1 (Lib.itoa r.ix) T2 HT2 rfl rfl rfl ?_)
  go_wp2_with (fail)
  go_ret
  exact ⟨by rw [HL.out]; rfl, F1.out.bel⟩
set_option maxHeartbeats 3200000 in
theorem refformat_byy (r : Rc) (la : List As) (lp : List Pm) (w : World) (hn : RcNums r) (h1 : 1 ≤ r.kd) (h7 : r.kd ≤ 7) (hcd : r.cd = 0) (hkd : r.kd ≠ 7) (hdl : r.dl ≠ -1) :
    Calls Tryd.prog 19 #[.agg (cellsRc r)] w fun e w' => e = .returned (.string (bs (lineL r la lp))) ∧ Below w.heap.size w w' := by
  obtain ⟨T1, hT1⟩ : ∃ T1, kindL r.kd ++ okE = T1 := ⟨_, rfl⟩
  obtain ⟨T2, hT2⟩ : ∃ T2, T1 ++ Lib.itoa r.ix = T2 := ⟨_, rfl⟩
  obtain ⟨T3, hT3⟩ : ∃ T3, T2 ++ byS = T3 := ⟨_, rfl⟩
  obtain ⟨T4, hT4⟩ : ∃ T4, T3 ++ Lib.itoa r.dl = T4 := ⟨_, rfl⟩
  have HT1 : Hid (kindL r.kd ++ okE = T1 ∧ T1.length ≤ 9223372036854775807) := Lib.hid ⟨hT1, by have z0 := kindL_len r.kd; have z1 := itoa_short hn.cd; have z2 := itoa_short hn.ix; have z3 := itoa_short hn.dl; have z4 := itoa_short hn.bl; have z5 := itoa_short hn.ep; have z6 := itoa_short hn.vs; simp only [← hT1, List.length_append]; simp [errE, okE, byS, blkE, epoS, visS]; omega⟩
  have HT2 : Hid (T1 ++ Lib.itoa r.ix = T2 ∧ T2.length ≤ 9223372036854775807) := Lib.hid ⟨hT2, by have z0 := kindL_len r.kd; have z1 := itoa_short hn.cd; have z2 := itoa_short hn.ix; have z3 := itoa_short hn.dl; have z4 := itoa_short hn.bl; have z5 := itoa_short hn.ep; have z6 := itoa_short hn.vs; simp only [← hT2, ← hT1, List.length_append]; simp [errE, okE, byS, blkE, epoS, visS]; omega⟩
  have HT3 : Hid (T2 ++ byS = T3 ∧ T3.length ≤ 9223372036854775807) := Lib.hid ⟨hT3, by have z0 := kindL_len r.kd; have z1 := itoa_short hn.cd; have z2 := itoa_short hn.ix; have z3 := itoa_short hn.dl; have z4 := itoa_short hn.bl; have z5 := itoa_short hn.ep; have z6 := itoa_short hn.vs; simp only [← hT3, ← hT2, ← hT1, List.length_append]; simp [errE, okE, byS, blkE, epoS, visS]; omega⟩
  have HT4 : Hid (T3 ++ Lib.itoa r.dl = T4 ∧ T4.length ≤ 9223372036854775807) := Lib.hid ⟨hT4, by have z0 := kindL_len r.kd; have z1 := itoa_short hn.cd; have z2 := itoa_short hn.ix; have z3 := itoa_short hn.dl; have z4 := itoa_short hn.bl; have z5 := itoa_short hn.ep; have z6 := itoa_short hn.vs; simp only [← hT4, ← hT3, ← hT2, ← hT1, List.length_append]; simp [errE, okE, byS, blkE, epoS, visS]; omega⟩
  have HL : Hid (lineL r la lp = T4) := Lib.hid (by rw [← hT4, ← hT3, ← hT2, ← hT1]; unfold lineL headL; rw [if_pos hcd, if_neg hkd]; simp [errS, okS, byS, errE, okE, elseL, *])
  clear hT1 hT2 hT3 hT4
  have hdb : (r.dl == -1) = false := by simpa using hdl
  have hkb : (r.kd == 7) = false := by simpa using hkd
  have HC := Lib.hid (And.intro hcd hdl)
  clear hcd hdl hkd
  have F0 : Hid (RF w (w.alloc (.cells (cellsRc r) 26)) w.heap.size r) := Lib.hid ⟨Blk.new w _ _, (Below.refl _ _).alloc (Nat.le_refl _) _⟩
  have HN := Lib.hid hn
  have HK := Lib.hid (kindL_len r.kd)
  obtain ⟨k, hk⟩ : ∃ k : Nat, r.kd = (k : Int) + 1 := ⟨(r.kd - 1).toNat, by omega⟩
  have hk7 : k < 7 := by omega
  have HNM : Hid (bs (kindL r.kd) = nm k) := Lib.hid (by rw [kindL_yes ⟨h1, h7⟩, show (r.kd - 1).toNat = k by omega])
  have HNC : Hid (nmC[k]? = some (.string (bs (kindL r.kd)))) := Lib.hid (by rw [nmC_at k hk7, HNM.out])
  have HSUB : Hid (IntKind.i64.wrap (r.kd - 1) = (k : Int)) := Lib.hid (by rw [hk]; simp [IntKind.wrap, IntKind.bits, IntKind.signed]; omega)
  have HK7 := Lib.hid hk7
  clear hk hn hk7
  go_enter Tryd.func19, Tryd.ntmps19
  go_upto_region 1 with (fail)
  generalize w.alloc (.cells (cellsRc r) 26) = W at *
  have c0 : W.cell? ⟨w.heap.size, 0, none⟩ = some (.int .i64 r.kd) := F0.out.cell 0
  go_upto_region 3 with (fail)
  have hsub := HSUB.out
  have hk0 : (0 : Int) ≤ (k : Int) := by omega
  have hk8 : (k : Int) < 7 := by have := HK7.out; omega
  refine wp_region_first (fun w' => RF w w' w.heap.size r) 6 3 [1, 2, 3] (by kernel_rfl) (by kernel_rfl) F0.out.drew ?_
  simp only [List.filterMap_cons, List.filterMap_nil, List.getElem?_toArray, List.getElem?_cons_zero, List.getElem?_cons_succ]
  show wpQuiet _ _ _ _ [_, _, _] _
  iterate 1 (go_big_quiet_step ((intros; rfl)))
  refine q_cell 3 _ _ (.int .i64 r.kd) rfl rfl rfl (fun w h => by simp [go_sem, h]) (fun w h => h.cell 0) ?_
  simp only [Act.put, List.setIfInBounds_toArray, List.set_cons_zero, List.set_cons_succ]
  iterate 1 (go_big_quiet_step ((intros; rfl)))
  refine wpQuiet_nil ?_
  refine headF_one (i := 0) (by kernel_rfl) (by omega) ?_
  refine wpOp_at rfl rfl (wp_call_at rfl #[] (by kernel_rfl) Tryd.call33 ((refnames_any W.drew).mono ?_))
  rintro e w2 ⟨b, rfl, _, hT, hb⟩
  have F1 := Lib.hid (F0.out.drew.below hb)
  have hnc : w2.cell? ⟨b, k, none⟩ = some (.string (bs (kindL r.kd))) := by rw [hT.cell k]; exact HNC.out
  clear hb hT F0
  refine ⟨_, rfl, F1.out, ?_⟩
  simp only [Act.put, List.getElem_toArray, List.getElem_cons_zero, List.getElem_cons_succ, List.setIfInBounds_toArray, List.set_cons_zero, List.set_cons_succ]
  refine headF_takes (fun w' => w'.cell? ⟨b, k, none⟩ = some (.string (bs (kindL r.kd))) ∧ RF w w' w.heap.size r) (m := 2) (f := 0) [4, 5] (fun _ h => h.2) (by kernel_rfl) ⟨hnc, F1.out⟩ ?_
  simp only [List.filterMap_cons, List.filterMap_nil, List.getElem?_toArray, List.getElem?_cons_zero, List.getElem?_cons_succ]
  show wpQuiet _ _ _ _ [_, _] _
  iterate 1 (go_big_quiet_step ((intros; rfl)))
  refine q_cell 9 _ _ (.string (bs (kindL r.kd))) rfl rfl rfl (fun w h => by simp [go_sem, h]) (fun w h => by simpa using h.1) ?_
  simp only [Act.put, List.setIfInBounds_toArray, List.set_cons_zero, List.set_cons_succ]
  refine wpQuiet_nil ?_
  show Region.seqB _ _ _ _ _ = true ∧ _
  refine ⟨by kernel_rfl, ?_⟩
  simp only [Act.put, List.getElem_toArray, List.getElem_cons_zero, List.getElem_cons_succ, List.setIfInBounds_toArray, List.set_cons_zero, List.set_cons_succ, List.drop_succ_cons, List.drop_zero]
  clear hnc HNC HSUB hsub hk0 hk8 c0 HNM HK7
  go_wp2_with (fail)
  refine NoPanic.normal ?_
  have m0 : w2.cell? ⟨w.heap.size, 0, none⟩ = some (.int .i64 r.kd) := F1.out.cell 0
  have m1 : w2.cell? ⟨w.heap.size, 1, none⟩ = some (.int .i64 0) := by rw [← HC.out.1]; exact F1.out.cell 1
  have m5 : w2.cell? ⟨w.heap.size, 5, none⟩ = some (.int .i64 r.dl) := F1.out.cell 5
  have n1 : w2.cell? ⟨w.heap.size, 2, none⟩ = some (.int .i64 r.ix) := F1.out.cell 2
  go_wp2_with (refine wpList_cat (dst := some 36) (kindL r.kd) okE T1 HT1 rfl rfl rfl ?_)
  refine (decimal_any r.ix HN.out.ix _).mono ?_
  rintro e w9 ⟨rfl, rfl⟩
  go_wp2_with (first | (refine wpList_cat (dst := some 40) T1 (Lib.itoa r.ix) T2 HT2 rfl rfl rfl ?_) | (refine wpList_cat (dst := some 45) T2 byS T3 HT3 rfl rfl rfl ?_))
  refine (decimal_any r.dl HN.out.dl _).mono ?_
  rintro e w9 ⟨rfl, rfl⟩
  go_wp2_with (refine wpList_cat (dst := some 49) T3 (Lib.itoa r.dl) T4 HT4 rfl rfl rfl ?_)
  go_wp2_with (fail)
  go_ret
  exact ⟨by rw [HL.out]; rfl, F1.out.bel⟩
set_option maxHeartbeats 3200000 in
theorem refformat_errn (r : Rc) (la : List As) (lp : List Pm) (w : World) (hn : RcNums r) (hno : ¬ (1 ≤ r.kd ∧ r.kd ≤ 7)) (hcd : r.cd ≠ 0) :
    Calls Tryd.prog 19 #[.agg (cellsRc r)] w fun e w' => e = .returned (.string (bs (lineL r la lp))) ∧ Below w.heap.size w w' := by
  obtain ⟨T1, hT1⟩ : ∃ T1, kindL r.kd ++ errE = T1 := ⟨_, rfl⟩
  obtain ⟨T2, hT2⟩ : ∃ T2, T1 ++ Lib.itoa r.cd = T2 := ⟨_, rfl⟩
  have HT1 : Hid (kindL r.kd ++ errE = T1 ∧ T1.length ≤ 9223372036854775807) := Lib.hid ⟨hT1, by have z0 := kindL_len r.kd; have z1 := itoa_short hn.cd; have z2 := itoa_short hn.ix; have z3 := itoa_short hn.dl; have z4 := itoa_short hn.bl; have z5 := itoa_short hn.ep; have z6 := itoa_short hn.vs; simp only [← hT1, List.length_append]; simp [errE, okE, byS, blkE, epoS, visS]; omega⟩
  have HT2 : Hid (T1 ++ Lib.itoa r.cd = T2 ∧ T2.length ≤ 9223372036854775807) := Lib.hid ⟨hT2, by have z0 := kindL_len r.kd; have z1 := itoa_short hn.cd; have z2 := itoa_short hn.ix; have z3 := itoa_short hn.dl; have z4 := itoa_short hn.bl; have z5 := itoa_short hn.ep; have z6 := itoa_short hn.vs; simp only [← hT2, ← hT1, List.length_append]; simp [errE, okE, byS, blkE, epoS, visS]; omega⟩
  have HL : Hid (lineL r la lp = T2) := Lib.hid (by rw [← hT2, ← hT1]; unfold lineL headL; rw [if_neg hcd]; simp [errS, okS, byS, errE, okE, elseL, *])
  clear hT1 hT2
  have hcb : (r.cd == 0) = false := by simpa using hcd
  clear hcd
  have F0 : Hid (RF w (w.alloc (.cells (cellsRc r) 26)) w.heap.size r) := Lib.hid ⟨Blk.new w _ _, (Below.refl _ _).alloc (Nat.le_refl _) _⟩
  have HN := Lib.hid hn
  have HK := Lib.hid (kindL_len r.kd)
  have HKL := Lib.hid (kindL_no hno)
  have hno2 : r.kd < 1 ∨ (¬ r.kd < 1 ∧ 7 < r.kd) := by omega
  clear hn hno
  rw [HKL.out] at HT1
  rcases hno2 with hno2 | ⟨hno1, hno2⟩
  all_goals
    go_enter Tryd.func19, Tryd.ntmps19
    go_upto_region 1 with (fail)
    generalize w.alloc (.cells (cellsRc r) 26) = W at *
    have c0 : W.cell? ⟨w.heap.size, 0, none⟩ = some (.int .i64 r.kd) := F0.out.cell 0
    have m1 : W.cell? ⟨w.heap.size, 1, none⟩ = some (.int .i64 r.cd) := F0.out.cell 1
    go_wp2_with (refine wpList_cat (dst := some 27) (malL) errE T1 HT1 rfl rfl rfl ?_)
    refine (decimal_any r.cd HN.out.cd _).mono ?_
    rintro e w9 ⟨rfl, rfl⟩
    go_wp2_with (refine wpList_cat (dst := some 31) T1 (Lib.itoa r.cd) T2 HT2 rfl rfl rfl ?_)
    go_wp2_with (fail)
    go_ret
    exact ⟨by rw [HL.out]; rfl, F0.out.bel⟩
set_option maxHeartbeats 3200000 in
theorem refformat_nonen (r : Rc) (la : List As) (lp : List Pm) (w : World) (hn : RcNums r) (hno : ¬ (1 ≤ r.kd ∧ r.kd ≤ 7)) (hcd : r.cd = 0) (hkd : r.kd ≠ 7) (hdl : r.dl = -1) :
    Calls Tryd.prog 19 #[.agg (cellsRc r)] w fun e w' => e = .returned (.string (bs (lineL r la lp))) ∧ Below w.heap.size w w' := by
  obtain ⟨T1, hT1⟩ : ∃ T1, kindL r.kd ++ okE = T1 := ⟨_, rfl⟩
  obtain ⟨T2, hT2⟩ : ∃ T2, T1 ++ Lib.itoa r.ix = T2 := ⟨_, rfl⟩
  have HT1 : Hid (kindL r.kd ++ okE = T1 ∧ T1.length ≤ 9223372036854775807) := Lib.hid ⟨hT1, by have z0 := kindL_len r.kd; have z1 := itoa_short hn.cd; have z2 := itoa_short hn.ix; have z3 := itoa_short hn.dl; have z4 := itoa_short hn.bl; have z5 := itoa_short hn.ep; have z6 := itoa_short hn.vs; simp only [← hT1, List.length_append]; simp [errE, okE, byS, blkE, epoS, visS]; omega⟩
  have HT2 : Hid (T1 ++ Lib.itoa r.ix = T2 ∧ T2.length ≤ 9223372036854775807) := Lib.hid ⟨hT2, by have z0 := kindL_len r.kd; have z1 := itoa_short hn.cd; have z2 := itoa_short hn.ix; have z3 := itoa_short hn.dl; have z4 := itoa_short hn.bl; have z5 := itoa_short hn.ep; have z6 := itoa_short hn.vs; simp only [← hT2, ← hT1, List.length_append]; simp [errE, okE, byS, blkE, epoS, visS]; omega⟩
  have HL : Hid (lineL r la lp = T2) := Lib.hid (by rw [← hT2, ← hT1]; unfold lineL headL; rw [if_pos hcd, if_neg hkd]; simp [errS, okS, byS, errE, okE, elseL, *])
  clear hT1 hT2
  have hkb : (r.kd == 7) = false := by simpa using hkd
  have HC := Lib.hid (And.intro hcd hdl)
  clear hcd hdl hkd
  have F0 : Hid (RF w (w.alloc (.cells (cellsRc r) 26)) w.heap.size r) := Lib.hid ⟨Blk.new w _ _, (Below.refl _ _).alloc (Nat.le_refl _) _⟩
  have HN := Lib.hid hn
  have HK := Lib.hid (kindL_len r.kd)
  have HKL := Lib.hid (kindL_no hno)
  have hno2 : r.kd < 1 ∨ (¬ r.kd < 1 ∧ 7 < r.kd) := by omega
  clear hn hno
  rw [HKL.out] at HT1
  rcases hno2 with hno2 | ⟨hno1, hno2⟩
  all_goals
    go_enter Tryd.func19, Tryd.ntmps19
    go_upto_region 1 with (fail)
    generalize w.alloc (.cells (cellsRc r) 26) = W at *
    have c0 : W.cell? ⟨w.heap.size, 0, none⟩ = some (.int .i64 r.kd) := F0.out.cell 0
    have m0 : W.cell? ⟨w.heap.size, 0, none⟩ = some (.int .i64 r.kd) := F0.out.cell 0
    have m1 : W.cell? ⟨w.heap.size, 1, none⟩ = some (.int .i64 0) := by rw [← HC.out.1]; exact F0.out.cell 1
    have m5 : W.cell? ⟨w.heap.size, 5, none⟩ = some (.int .i64 (-1)) := by rw [← HC.out.2]; exact F0.out.cell 5
    have n1 : W.cell? ⟨w.heap.size, 2, none⟩ = some (.int .i64 r.ix) := F0.out.cell 2
    go_wp2_with (refine wpList_cat (dst := some 36) (malL) okE T1 HT1 rfl rfl rfl ?_)
    refine (decimal_any r.ix HN.out.ix _).mono ?_
    rintro e w9 ⟨rfl, rfl⟩
    go_wp2_with (refine wpList_cat (dst := some 40) T1 (Lib.itoa r.ix) T2 HT2 rfl rfl rfl ?_)
    go_wp2_with (fail)
    go_ret
    exact ⟨by rw [HL.out]; rfl, F0.out.bel⟩
set_option maxHeartbeats 3200000 in
theorem refformat_byn (r : Rc) (la : List As) (lp : List Pm) (w : World) (hn : RcNums r) (hno : ¬ (1 ≤ r.kd ∧ r.kd ≤ 7)) (hcd : r.cd = 0) (hkd : r.kd ≠ 7) (hdl : r.dl ≠ -1) :
    Calls Tryd.prog 19 #[.agg (cellsRc r)] w fun e w' => e = .returned (.string (bs (lineL r la lp))) ∧ Below w.heap.size w w' := by
  obtain ⟨T1, hT1⟩ : ∃ T1, kindL r.kd ++ okE = T1 := ⟨_, rfl⟩
  obtain ⟨T2, hT2⟩ : ∃ T2, T1 ++ Lib.itoa r.ix = T2 := ⟨_, rfl⟩
  obtain ⟨T3, hT3⟩ : ∃ T3, T2 ++ byS = T3 := ⟨_, rfl⟩
  obtain ⟨T4, hT4⟩ : ∃ T4, T3 ++ Lib.itoa r.dl = T4 := ⟨_, rfl⟩
  have HT1 : Hid (kindL r.kd ++ okE = T1 ∧ T1.length ≤ 9223372036854775807) := Lib.hid ⟨hT1, by have z0 := kindL_len r.kd; have z1 := itoa_short hn.cd; have z2 := itoa_short hn.ix; have z3 := itoa_short hn.dl; have z4 := itoa_short hn.bl; have z5 := itoa_short hn.ep; have z6 := itoa_short hn.vs; simp only [← hT1, List.length_append]; simp [errE, okE, byS, blkE, epoS, visS]; omega⟩
  have HT2 : Hid (T1 ++ Lib.itoa r.ix = T2 ∧ T2.length ≤ 9223372036854775807) := Lib.hid ⟨hT2, by have z0 := kindL_len r.kd; have z1 := itoa_short hn.cd; have z2 := itoa_short hn.ix; have z3 := itoa_short hn.dl; have z4 := itoa_short hn.bl; have z5 := itoa_short hn.ep; have z6 := itoa_short hn.vs; simp only [← hT2, ← hT1, List.length_append]; simp [errE, okE, byS, blkE, epoS, visS]; omega⟩
  have HT3 : Hid (T2 ++ byS = T3 ∧ T3.length ≤ 9223372036854775807) := Lib.hid ⟨hT3, by have z0 := kindL_len r.kd; have z1 := itoa_short hn.cd; have z2 := itoa_short hn.ix; have z3 := itoa_short hn.dl; have z4 := itoa_short hn.bl; have z5 := itoa_short hn.ep; have z6 := itoa_short hn.vs; simp only [← hT3, ← hT2, ← hT1, List.length_append]; simp [errE, okE, byS, blkE, epoS, visS]; omega⟩
  have HT4 : Hid (T3 ++ Lib.itoa r.dl = T4 ∧ T4.length ≤ 9223372036854775807) := Lib.hid ⟨hT4, by have z0 := kindL_len r.kd; have z1 := itoa_short hn.cd; have z2 := itoa_short hn.ix; have z3 := itoa_short hn.dl; have z4 := itoa_short hn.bl; have z5 := itoa_short hn.ep; have z6 := itoa_short hn.vs; simp only [← hT4, ← hT3, ← hT2, ← hT1, List.length_append]; simp [errE, okE, byS, blkE, epoS, visS]; omega⟩
  have HL : Hid (lineL r la lp = T4) := Lib.hid (by rw [← hT4, ← hT3, ← hT2, ← hT1]; unfold lineL headL; rw [if_pos hcd, if_neg hkd]; simp [errS, okS, byS, errE, okE, elseL, *])
  clear hT1 hT2 hT3 hT4
  have hdb : (r.dl == -1) = false := by simpa using hdl
  have hkb : (r.kd == 7) = false := by simpa using hkd
  have HC := Lib.hid (And.intro hcd hdl)
  clear hcd hdl hkd
  have F0 : Hid (RF w (w.alloc (.cells (cellsRc r) 26)) w.heap.size r) := Lib.hid ⟨Blk.new w _ _, (Below.refl _ _).alloc (Nat.le_refl _) _⟩
  have HN := Lib.hid hn
  have HK := Lib.hid (kindL_len r.kd)
  have HKL := Lib.hid (kindL_no hno)
  have hno2 : r.kd < 1 ∨ (¬ r.kd < 1 ∧ 7 < r.kd) := by omega
  clear hn hno
  rw [HKL.out] at HT1
  rcases hno2 with hno2 | ⟨hno1, hno2⟩
  all_goals
    go_enter Tryd.func19, Tryd.ntmps19
    go_upto_region 1 with (fail)
    generalize w.alloc (.cells (cellsRc r) 26) = W at *
    have c0 : W.cell? ⟨w.heap.size, 0, none⟩ = some (.int .i64 r.kd) := F0.out.cell 0
    have m0 : W.cell? ⟨w.heap.size, 0, none⟩ = some (.int .i64 r.kd) := F0.out.cell 0
    have m1 : W.cell? ⟨w.heap.size, 1, none⟩ = some (.int .i64 0) := by rw [← HC.out.1]; exact F0.out.cell 1
    have m5 : W.cell? ⟨w.heap.size, 5, none⟩ = some (.int .i64 r.dl) := F0.out.cell 5
    have n1 : W.cell? ⟨w.heap.size, 2, none⟩ = some (.int .i64 r.ix) := F0.out.cell 2
    go_wp2_with (refine wpList_cat (dst := some 36) (malL) okE T1 HT1 rfl rfl rfl ?_)
    refine (decimal_any r.ix HN.out.ix _).mono ?_
    rintro e w9 ⟨rfl, rfl⟩
    go_wp2_with (first | (refine wpList_cat (dst := some 40) T1 (Lib.itoa r.ix) T2 HT2 rfl rfl rfl ?_) | (refine wpList_cat (dst := some 45) T2 byS T3 HT3 rfl rfl rfl ?_))
    refine (decimal_any r.dl HN.out.dl _).mono ?_
    rintro e w9 ⟨rfl, rfl⟩
    go_wp2_with (refine wpList_cat (dst := some 49) T3 (Lib.itoa r.dl) T4 HT4 rfl rfl rfl ?_)
    go_wp2_with (fail)
    go_ret
    exact ⟨by rw [HL.out]; rfl, F0.out.bel⟩
end Go.Proofs.YtjbbcnepeffiaaaDoor
