/- Format, the reference's: ticks. -/
import Derived.Test.YtjbbcnepeffiaaaDoorRForm
import Derived.Deep.CutRange
namespace Go.Proofs.YtjbbcnepeffiaaaDoor
open Go Go.RowKit
set_option linter.unusedVariables false
set_option linter.unusedSimpArgs false
set_option maxRecDepth 100000

set_option maxHeartbeats 6400000 in
theorem refformat_tick (r : Rc) (la : List As) (lp : List Pm) (w : World) (hr : RcAt w (fun _ => False) r la lp) (hcd : r.cd = 0) (hkd : r.kd = 7) (hla : la.length ≤ 1000000) (hlp : lp.length ≤ 1000000) :
    Calls Tryd.prog 19 #[.agg (cellsRc r)] w fun e w' => e = .returned (.string (bs (lineL r la lp))) ∧ Below w.heap.size w w' := by
  have hn := hr.nums
  have h1 : 1 ≤ r.kd := by omega
  have h7 : r.kd ≤ 7 := by omega
  obtain ⟨T1, hT1⟩ : ∃ T1, kindL r.kd ++ blkE = T1 := ⟨_, rfl⟩
  obtain ⟨T2, hT2⟩ : ∃ T2, T1 ++ Lib.itoa r.bl = T2 := ⟨_, rfl⟩
  obtain ⟨T3, hT3⟩ : ∃ T3, T2 ++ epoS = T3 := ⟨_, rfl⟩
  obtain ⟨T4, hT4⟩ : ∃ T4, T3 ++ Lib.itoa r.ep = T4 := ⟨_, rfl⟩
  obtain ⟨T5, hT5⟩ : ∃ T5, T4 ++ visS = T5 := ⟨_, rfl⟩
  obtain ⟨T6, hT6⟩ : ∃ T6, T5 ++ Lib.itoa r.vs = T6 := ⟨_, rfl⟩
  have HT1 : Hid (kindL r.kd ++ blkE = T1 ∧ T1.length ≤ 9223372036854775807) := Lib.hid ⟨hT1, by have z0 := kindL_len r.kd; have z4 := itoa_short hn.bl; have z5 := itoa_short hn.ep; have z6 := itoa_short hn.vs; simp only [← hT1, List.length_append]; simp [blkE, epoS, visS]; omega⟩
  have HT2 : Hid (T1 ++ Lib.itoa r.bl = T2 ∧ T2.length ≤ 9223372036854775807) := Lib.hid ⟨hT2, by have z0 := kindL_len r.kd; have z4 := itoa_short hn.bl; have z5 := itoa_short hn.ep; have z6 := itoa_short hn.vs; simp only [← hT2, ← hT1, List.length_append]; simp [blkE, epoS, visS]; omega⟩
  have HT3 : Hid (T2 ++ epoS = T3 ∧ T3.length ≤ 9223372036854775807) := Lib.hid ⟨hT3, by have z0 := kindL_len r.kd; have z4 := itoa_short hn.bl; have z5 := itoa_short hn.ep; have z6 := itoa_short hn.vs; simp only [← hT3, ← hT2, ← hT1, List.length_append]; simp [blkE, epoS, visS]; omega⟩
  have HT4 : Hid (T3 ++ Lib.itoa r.ep = T4 ∧ T4.length ≤ 9223372036854775807) := Lib.hid ⟨hT4, by have z0 := kindL_len r.kd; have z4 := itoa_short hn.bl; have z5 := itoa_short hn.ep; have z6 := itoa_short hn.vs; simp only [← hT4, ← hT3, ← hT2, ← hT1, List.length_append]; simp [blkE, epoS, visS]; omega⟩
  have HT5 : Hid (T4 ++ visS = T5 ∧ T5.length ≤ 9223372036854775807) := Lib.hid ⟨hT5, by have z0 := kindL_len r.kd; have z4 := itoa_short hn.bl; have z5 := itoa_short hn.ep; have z6 := itoa_short hn.vs; simp only [← hT5, ← hT4, ← hT3, ← hT2, ← hT1, List.length_append]; simp [blkE, epoS, visS]; omega⟩
  have HT6 : Hid (T5 ++ Lib.itoa r.vs = T6 ∧ T6.length ≤ 9223372036854775807) := Lib.hid ⟨hT6, by have z0 := kindL_len r.kd; have z4 := itoa_short hn.bl; have z5 := itoa_short hn.ep; have z6 := itoa_short hn.vs; simp only [← hT6, ← hT5, ← hT4, ← hT3, ← hT2, ← hT1, List.length_append]; simp [blkE, epoS, visS]; omega⟩
  have HL : Hid (lineL r la lp = T6 ++ asgsL la ++ paysL lp) := Lib.hid (by rw [← hT6, ← hT5, ← hT4, ← hT3, ← hT2, ← hT1]; unfold lineL headL tickL; rw [if_pos hcd, if_pos hkd]; simp [blkS, blkE])
  have HZ6 : Hid (T6.length ≤ 200) := Lib.hid (by have z0 := kindL_len r.kd; have z4 := itoa_short hn.bl; have z5 := itoa_short hn.ep; have z6 := itoa_short hn.vs; simp only [← hT6, ← hT5, ← hT4, ← hT3, ← hT2, ← hT1, List.length_append]; simp [blkE, epoS, visS]; omega)
  clear hT1 hT2 hT3 hT4 hT5 hT6
  have HR := Lib.hid hr
  have HSZ := Lib.hid (And.intro hla hlp)
  have HKC := Lib.hid (And.intro hkd hcd)
  obtain ⟨aa, haa⟩ : ∃ aa, r.aa = aa := ⟨_, rfl⟩
  obtain ⟨pa, hpa⟩ : ∃ pa, r.pa = pa := ⟨_, rfl⟩
  have hac := hr.ac
  have hpc := hr.pc
  unfold maxLen at hac hpc
  obtain ⟨an, han⟩ : ∃ an, r.an = an := ⟨_, rfl⟩
  obtain ⟨pn, hpn⟩ : ∃ pn, r.pn = pn := ⟨_, rfl⟩
  obtain ⟨ac, hac2⟩ : ∃ ac, r.ac = ac := ⟨_, rfl⟩
  obtain ⟨pc, hpc2⟩ : ∃ pc, r.pc = pc := ⟨_, rfl⟩
  rw [han, hac2] at hac
  rw [hpn, hpc2] at hpc
  have HA : Hid (r.aa = aa ∧ r.an = an ∧ r.ac = ac) := Lib.hid ⟨haa, han, hac2⟩
  have HP : Hid (r.pa = pa ∧ r.pn = pn ∧ r.pc = pc) := Lib.hid ⟨hpa, hpn, hpc2⟩
  have HLA : Hid (LstR As.row 3 w (fun _ => False) aa la ∧ la.length = an) := Lib.hid ⟨by rw [← haa]; exact hr.asg, by rw [← han]; exact hr.an⟩
  have HLP : Hid (LstR Pm.row 3 w (fun _ => False) pa lp ∧ lp.length = pn) := Lib.hid ⟨by rw [← hpa]; exact hr.pay, by rw [← hpn]; exact hr.pn⟩
  have hal : an ≤ 9223372036854775807 := by omega
  have hpl : pn ≤ 9223372036854775807 := by omega
  clear hr hcd hkd hla hlp haa hpa han hpn hac2 hpc2 hac hpc
  have F0 : Hid (RF w (w.alloc (.cells (cellsRc r) 26)) w.heap.size r) := Lib.hid ⟨Blk.new w _ _, (Below.refl _ _).alloc (Nat.le_refl _) _⟩
  have HN := Lib.hid hn
  have HK := Lib.hid (kindL_len r.kd)
  obtain ⟨k, hk⟩ : ∃ k : Nat, r.kd = (k : Int) + 1 := ⟨(r.kd - 1).toNat, by omega⟩
  have hk7 : k < 7 := by omega
  have HNM : Hid (bs (kindL r.kd) = nm k) := Lib.hid (by rw [kindL_yes ⟨h1, h7⟩, show (r.kd - 1).toNat = k by omega])
  have HNC : Hid (nmC[k]? = some (.string (bs (kindL r.kd)))) := Lib.hid (by rw [nmC_at k hk7, HNM.out])
  have HSUB : Hid (IntKind.i64.wrap (r.kd - 1) = (k : Int)) := Lib.hid (by rw [hk]; simp [IntKind.wrap, IntKind.bits, IntKind.signed]; omega)
  have HK7 := Lib.hid hk7
  clear hk hn hk7
  go_enter Tryd.func19, Tryd.ntmps19
  go_upto_region 1 with (fail)
  generalize w.alloc (.cells (cellsRc r) 26) = W at *
  have c0 : W.cell? ⟨w.heap.size, 0, none⟩ = some (.int .i64 r.kd) := F0.out.cell 0
  go_upto_region 3 with (fail)
  have hsub := HSUB.out
  have hk0 : (0 : Int) ≤ (k : Int) := by omega
  have hk8 : (k : Int) < 7 := by have := HK7.out; omega
  refine wp_region_first (fun w' => RF w w' w.heap.size r) 6 3 [1, 2, 3] (by kernel_rfl) (by kernel_rfl) F0.out.drew ?_
  simp only [List.filterMap_cons, List.filterMap_nil, List.getElem?_toArray, List.getElem?_cons_zero, List.getElem?_cons_succ]
  show wpQuiet _ _ _ _ [_, _, _] _
  iterate 1 (go_big_quiet_step ((intros; rfl)))
  refine q_cell 3 _ _ (.int .i64 r.kd) rfl rfl rfl (fun w h => by simp [go_sem, h]) (fun w h => h.cell 0) ?_
  simp only [Act.put, List.setIfInBounds_toArray, List.set_cons_zero, List.set_cons_succ]
  iterate 1 (go_big_quiet_step ((intros; rfl)))
  refine wpQuiet_nil ?_
  refine headF_one (i := 0) (by kernel_rfl) (by omega) ?_
  refine wpOp_at rfl rfl (wp_call_at rfl #[] (by kernel_rfl) Tryd.call33 ((refnames_any W.drew).mono ?_))
  rintro e w2 ⟨b, rfl, _, hT, hb⟩
  have F1 := Lib.hid (F0.out.drew.below hb)
  have hnc : w2.cell? ⟨b, k, none⟩ = some (.string (bs (kindL r.kd))) := by rw [hT.cell k]; exact HNC.out
  clear hb hT F0
  refine ⟨_, rfl, F1.out, ?_⟩
  simp only [Act.put, List.getElem_toArray, List.getElem_cons_zero, List.getElem_cons_succ, List.setIfInBounds_toArray, List.set_cons_zero, List.set_cons_succ]
  refine headF_takes (fun w' => w'.cell? ⟨b, k, none⟩ = some (.string (bs (kindL r.kd))) ∧ RF w w' w.heap.size r) (m := 2) (f := 0) [4, 5] (fun _ h => h.2) (by kernel_rfl) ⟨hnc, F1.out⟩ ?_
  simp only [List.filterMap_cons, List.filterMap_nil, List.getElem?_toArray, List.getElem?_cons_zero, List.getElem?_cons_succ]
  show wpQuiet _ _ _ _ [_, _] _
  iterate 1 (go_big_quiet_step ((intros; rfl)))
  refine q_cell 9 _ _ (.string (bs (kindL r.kd))) rfl rfl rfl (fun w h => by simp [go_sem, h]) (fun w h => by simpa using h.1) ?_
  simp only [Act.put, List.setIfInBounds_toArray, List.set_cons_zero, List.set_cons_succ]
  refine wpQuiet_nil ?_
  show Region.seqB _ _ _ _ _ = true ∧ _
  refine ⟨by kernel_rfl, ?_⟩
  simp only [Act.put, List.getElem_toArray, List.getElem_cons_zero, List.getElem_cons_succ, List.setIfInBounds_toArray, List.set_cons_zero, List.set_cons_succ, List.drop_succ_cons, List.drop_zero]
  clear hnc HNC HSUB hsub hk0 hk8 c0 HNM HK7
  go_wp2_with (fail)
  refine NoPanic.normal ?_
  have m0 : w2.cell? ⟨w.heap.size, 0, none⟩ = some (.int .i64 7) := by rw [← HKC.out.1]; exact F1.out.cell 0
  have m1 : w2.cell? ⟨w.heap.size, 1, none⟩ = some (.int .i64 0) := by rw [← HKC.out.2]; exact F1.out.cell 1
  go_wp2_with (fail)
  refine wp_region_class (fun w' => RF w w' w.heap.size r) (by kernel_rfl) (by kernel_rfl) F1.out.drew ?_
  iterate 1 (go_big_quiet_step ((intros; rfl)))
  refine q_cat (kindL r.kd) blkE T1 HT1 rfl rfl rfl ?_
  simp only [Act.put, List.setIfInBounds_toArray, List.set_cons_zero, List.set_cons_succ]
  iterate 1 (go_big_quiet_step ((intros; rfl)))
  refine q_cell 3 _ _ (.int .i64 r.bl) rfl rfl rfl (fun w h => by simp [go_sem, h]) (fun w h => h.cell 3) ?_
  simp only [Act.put, List.setIfInBounds_toArray, List.set_cons_zero, List.set_cons_succ]
  refine q_call (.string (bs (Lib.itoa r.bl))) #[.int .i64 r.bl] rfl (by kernel_rfl) Tryd.call34 (fun w' h => same_keeps h (decimal_any r.bl HN.out.bl w')) ?_
  simp only [Act.put, List.setIfInBounds_toArray, List.set_cons_zero, List.set_cons_succ]
  refine q_cat T1 (Lib.itoa r.bl) T2 HT2 rfl rfl rfl ?_
  simp only [Act.put, List.setIfInBounds_toArray, List.set_cons_zero, List.set_cons_succ]
  refine q_cat T2 epoS T3 HT3 rfl rfl rfl ?_
  simp only [Act.put, List.setIfInBounds_toArray, List.set_cons_zero, List.set_cons_succ]
  iterate 1 (go_big_quiet_step ((intros; rfl)))
  refine q_cell 3 _ _ (.int .i64 r.ep) rfl rfl rfl (fun w h => by simp [go_sem, h]) (fun w h => h.cell 4) ?_
  simp only [Act.put, List.setIfInBounds_toArray, List.set_cons_zero, List.set_cons_succ]
  refine q_call (.string (bs (Lib.itoa r.ep))) #[.int .i64 r.ep] rfl (by kernel_rfl) Tryd.call34 (fun w' h => same_keeps h (decimal_any r.ep HN.out.ep w')) ?_
  simp only [Act.put, List.setIfInBounds_toArray, List.set_cons_zero, List.set_cons_succ]
  refine q_cat T3 (Lib.itoa r.ep) T4 HT4 rfl rfl rfl ?_
  simp only [Act.put, List.setIfInBounds_toArray, List.set_cons_zero, List.set_cons_succ]
  refine q_cat T4 visS T5 HT5 rfl rfl rfl ?_
  simp only [Act.put, List.setIfInBounds_toArray, List.set_cons_zero, List.set_cons_succ]
  iterate 1 (go_big_quiet_step ((intros; rfl)))
  refine q_cell 3 _ _ (.int .i64 r.vs) rfl rfl rfl (fun w h => by simp [go_sem, h]) (fun w h => h.cell 8) ?_
  simp only [Act.put, List.setIfInBounds_toArray, List.set_cons_zero, List.set_cons_succ]
  refine q_call (.string (bs (Lib.itoa r.vs))) #[.int .i64 r.vs] rfl (by kernel_rfl) Tryd.call34 (fun w' h => same_keeps h (decimal_any r.vs HN.out.vs w')) ?_
  simp only [Act.put, List.setIfInBounds_toArray, List.set_cons_zero, List.set_cons_succ]
  refine q_cat T5 (Lib.itoa r.vs) T6 HT6 rfl rfl rfl ?_
  simp only [Act.put, List.setIfInBounds_toArray, List.set_cons_zero, List.set_cons_succ]
  iterate 1 (go_big_quiet_step ((intros; rfl)))
  refine wpQuiet_nil ?_
  intro w3 f3
  have F3 := Lib.hid f3
  clear f3 m0 m1 F1 HT1 HT2 HT3 HT4 HT5 HT6
  go_wp2_with (fail)
  go_loopw [3, 4] (fun s i wr => ∃ (k : Nat) (T : List UInt8), k ≤ an ∧ i = .int .i64 k ∧ s = .string (bs T) ∧ Hid (T = T6 ++ asgsL (la.take k)) ∧ Hid (RF w wr w.heap.size r)) (fun _ i _ => an - (intOf i).toNat)
  case atStart => exact ⟨0, _, by omega, rfl, rfl, Lib.hid (by simp [asgsL]), F3⟩
  case round =>
    clear F3
    obtain ⟨k, T, hk, rfl, rfl, HTT, FR⟩ := hrel
    by_cases hlt : k < an
    · obtain ⟨x, hx⟩ : ∃ x, la[k]? = some x := ⟨_, List.getElem?_eq_getElem (by rw [HLA.out.2]; exact hlt)⟩
      obtain ⟨b, off, rfl, _, hbl, hrg⟩ := (HLA.out.1.below FR.out.bel).at hx
      have RG := Lib.hid hrg
      have HFX := Lib.hid (HR.out.fa x (List.mem_of_getElem? hx))
      have HT : Hid (T ++ asgL x = T6 ++ asgsL (la.take (k + 1))) := Lib.hid (by rw [HTT.out, asgsL_snoc hx, List.append_assoc])
      have HZ : Hid (T.length ≤ 1000000000) := Lib.hid (by
        have z1 := asgsL_len (l := la.take k) (fun y hy => HR.out.fa y (List.mem_of_mem_take hy))
        have z2 := HSZ.out
        have z3 := HZ6.out
        have z5 := asgsL_len (l := la) HR.out.fa
        have z6 : (la.take k).length ≤ la.length := List.length_take_le' _ _
        rw [HTT.out]
        simp only [List.length_append]
        omega)
      have mS : wr.cell? ⟨w.heap.size, 6, none⟩ = some (.slice (some ⟨b, off, none⟩) an ac) := by rw [← HA.out.1, ← HA.out.2.1, ← HA.out.2.2]; exact FR.out.cell 6
      clear hrg hx HTT
      go_upto_region 16 with (first | (refine wpList_load_As rfl 32 _ rfl b (off + k * 3) rfl x _ RG.out Tryd.underlying32 rfl infoAs ?_) | (refine wpList_store_row rfl _ _ _ rfl wr.heap.size (cellsAs x) rfl rfl 32 _ (heap_alloc_new wr _) infoAs rfl (cellsAs_one _) ?_; rw [World.setRow_alloc_new]))
      have A1 : Hid (RF w (wr.alloc (.cells (cellsAs x) 32)) w.heap.size r ∧ Blk (wr.alloc (.cells (cellsAs x) 32)) wr.heap.size 32 (cellsAs x)) := Lib.hid ⟨FR.out.alloc _, Blk.new _ _ _⟩
      clear FR RG mS
      generalize wr.alloc (.cells (cellsAs x) 32) = w8 at *
      generalize wr.heap.size = ab at *
      by_cases hcl : x.cl = 0
      · obtain ⟨U1, hU1⟩ : ∃ U1, T ++ [32] = U1 := ⟨_, rfl⟩
        obtain ⟨U2, hU2⟩ : ∃ U2, U1 ++ Lib.itoa x.ix = U2 := ⟨_, rfl⟩
        obtain ⟨U3, hU3⟩ : ∃ U3, U2 ++ [102] = U3 := ⟨_, rfl⟩
        obtain ⟨U4, hU4⟩ : ∃ U4, U3 ++ [64] = U4 := ⟨_, rfl⟩
        obtain ⟨U5, hU5⟩ : ∃ U5, U4 ++ Lib.itoa x.ep = U5 := ⟨_, rfl⟩
        have HU1 : Hid (T ++ [32] = U1 ∧ U1.length ≤ 9223372036854775807) := Lib.hid ⟨hU1, by have z0 := HZ.out; have z1 := itoa_short (i64_of HFX.out.1); have z2 := itoa_short (i64_of HFX.out.2.2); simp only [← hU1, List.length_append]; simp; omega⟩
        have HU2 : Hid (U1 ++ Lib.itoa x.ix = U2 ∧ U2.length ≤ 9223372036854775807) := Lib.hid ⟨hU2, by have z0 := HZ.out; have z1 := itoa_short (i64_of HFX.out.1); have z2 := itoa_short (i64_of HFX.out.2.2); simp only [← hU2, ← hU1, List.length_append]; simp; omega⟩
        have HU3 : Hid (U2 ++ [102] = U3 ∧ U3.length ≤ 9223372036854775807) := Lib.hid ⟨hU3, by have z0 := HZ.out; have z1 := itoa_short (i64_of HFX.out.1); have z2 := itoa_short (i64_of HFX.out.2.2); simp only [← hU3, ← hU2, ← hU1, List.length_append]; simp; omega⟩
        have HU4 : Hid (U3 ++ [64] = U4 ∧ U4.length ≤ 9223372036854775807) := Lib.hid ⟨hU4, by have z0 := HZ.out; have z1 := itoa_short (i64_of HFX.out.1); have z2 := itoa_short (i64_of HFX.out.2.2); simp only [← hU4, ← hU3, ← hU2, ← hU1, List.length_append]; simp; omega⟩
        have HU5 : Hid (U4 ++ Lib.itoa x.ep = U5 ∧ U5.length ≤ 9223372036854775807) := Lib.hid ⟨hU5, by have z0 := HZ.out; have z1 := itoa_short (i64_of HFX.out.1); have z2 := itoa_short (i64_of HFX.out.2.2); simp only [← hU5, ← hU4, ← hU3, ← hU2, ← hU1, List.length_append]; simp; omega⟩
        have HU : Hid (U5 = T6 ++ asgsL (la.take (k + 1))) := Lib.hid (by rw [← HT.out, ← hU5, ← hU4, ← hU3, ← hU2, ← hU1]; unfold asgL letL; rw [if_pos hcl]; simp)
        clear hU1 hU2 hU3 hU4 hU5 HT
        have mC : w8.cell? ⟨ab, 1, none⟩ = some (.int .i64 0) := by rw [← hcl]; exact A1.out.2.cell 1
        clear hcl
        go_wp2_with (fail)
        try simp only [Act.put]
        refine wp_region_class (fun w' => RF w w' w.heap.size r ∧ Blk w' ab 32 (cellsAs x)) (by kernel_rfl) (by kernel_rfl) ⟨A1.out.1.drew, A1.out.2⟩ ?_
        iterate 1 (go_big_quiet_step ((intros; rfl)))
        refine q_cat T [32] U1 HU1 rfl rfl rfl ?_
        simp only [Act.put, List.setIfInBounds_toArray, List.set_cons_zero, List.set_cons_succ]
        iterate 1 (go_big_quiet_step ((intros; rfl)))
        refine q_cell 3 _ _ (.int .i64 x.ix) rfl rfl rfl (fun w h => by simp [go_sem, h]) (fun w h => h.2.cell 0) ?_
        simp only [Act.put, List.setIfInBounds_toArray, List.set_cons_zero, List.set_cons_succ]
        refine q_call (.string (bs (Lib.itoa x.ix))) #[.int .i64 x.ix] rfl (by kernel_rfl) Tryd.call34 (fun w' h => same_keeps h (decimal_any x.ix (i64_of HFX.out.1) w')) ?_
        simp only [Act.put, List.setIfInBounds_toArray, List.set_cons_zero, List.set_cons_succ]
        refine q_cat U1 (Lib.itoa x.ix) U2 HU2 rfl rfl rfl ?_
        simp only [Act.put, List.setIfInBounds_toArray, List.set_cons_zero, List.set_cons_succ]
        iterate 1 (go_big_quiet_step ((intros; rfl)))
        refine q_cat U2 [102] U3 HU3 rfl rfl rfl ?_
        simp only [Act.put, List.setIfInBounds_toArray, List.set_cons_zero, List.set_cons_succ]
        refine q_cat U3 [64] U4 HU4 rfl rfl rfl ?_
        simp only [Act.put, List.setIfInBounds_toArray, List.set_cons_zero, List.set_cons_succ]
        iterate 1 (go_big_quiet_step ((intros; rfl)))
        refine q_cell 3 _ _ (.int .i64 x.ep) rfl rfl rfl (fun w h => by simp [go_sem, h]) (fun w h => h.2.cell 2) ?_
        simp only [Act.put, List.setIfInBounds_toArray, List.set_cons_zero, List.set_cons_succ]
        refine q_call (.string (bs (Lib.itoa x.ep))) #[.int .i64 x.ep] rfl (by kernel_rfl) Tryd.call34 (fun w' h => same_keeps h (decimal_any x.ep (i64_of HFX.out.2.2) w')) ?_
        simp only [Act.put, List.setIfInBounds_toArray, List.set_cons_zero, List.set_cons_succ]
        refine q_cat U4 (Lib.itoa x.ep) U5 HU5 rfl rfl rfl ?_
        simp only [Act.put, List.setIfInBounds_toArray, List.set_cons_zero, List.set_cons_succ]
        iterate 1 (go_big_quiet_step ((intros; rfl)))
        refine wpQuiet_nil ?_
        intro w9 f9
        have F9 := Lib.hid f9.1
        clear f9 mC A1
        go_wp2_with (fail)
        go_roundw
        case rel => exact ⟨k + 1, _, by omega, by go_num, rfl, HU, F9⟩
        case measure => simp [intOf]; omega
      · obtain ⟨U1, hU1⟩ : ∃ U1, T ++ [32] = U1 := ⟨_, rfl⟩
        obtain ⟨U2, hU2⟩ : ∃ U2, U1 ++ Lib.itoa x.ix = U2 := ⟨_, rfl⟩
        obtain ⟨U3, hU3⟩ : ∃ U3, U2 ++ [118] = U3 := ⟨_, rfl⟩
        obtain ⟨U4, hU4⟩ : ∃ U4, U3 ++ [64] = U4 := ⟨_, rfl⟩
        obtain ⟨U5, hU5⟩ : ∃ U5, U4 ++ Lib.itoa x.ep = U5 := ⟨_, rfl⟩
        have HU1 : Hid (T ++ [32] = U1 ∧ U1.length ≤ 9223372036854775807) := Lib.hid ⟨hU1, by have z0 := HZ.out; have z1 := itoa_short (i64_of HFX.out.1); have z2 := itoa_short (i64_of HFX.out.2.2); simp only [← hU1, List.length_append]; simp; omega⟩
        have HU2 : Hid (U1 ++ Lib.itoa x.ix = U2 ∧ U2.length ≤ 9223372036854775807) := Lib.hid ⟨hU2, by have z0 := HZ.out; have z1 := itoa_short (i64_of HFX.out.1); have z2 := itoa_short (i64_of HFX.out.2.2); simp only [← hU2, ← hU1, List.length_append]; simp; omega⟩
        have HU3 : Hid (U2 ++ [118] = U3 ∧ U3.length ≤ 9223372036854775807) := Lib.hid ⟨hU3, by have z0 := HZ.out; have z1 := itoa_short (i64_of HFX.out.1); have z2 := itoa_short (i64_of HFX.out.2.2); simp only [← hU3, ← hU2, ← hU1, List.length_append]; simp; omega⟩
        have HU4 : Hid (U3 ++ [64] = U4 ∧ U4.length ≤ 9223372036854775807) := Lib.hid ⟨hU4, by have z0 := HZ.out; have z1 := itoa_short (i64_of HFX.out.1); have z2 := itoa_short (i64_of HFX.out.2.2); simp only [← hU4, ← hU3, ← hU2, ← hU1, List.length_append]; simp; omega⟩
        have HU5 : Hid (U4 ++ Lib.itoa x.ep = U5 ∧ U5.length ≤ 9223372036854775807) := Lib.hid ⟨hU5, by have z0 := HZ.out; have z1 := itoa_short (i64_of HFX.out.1); have z2 := itoa_short (i64_of HFX.out.2.2); simp only [← hU5, ← hU4, ← hU3, ← hU2, ← hU1, List.length_append]; simp; omega⟩
        have HU : Hid (U5 = T6 ++ asgsL (la.take (k + 1))) := Lib.hid (by rw [← HT.out, ← hU5, ← hU4, ← hU3, ← hU2, ← hU1]; unfold asgL letL; rw [if_neg hcl]; simp)
        clear hU1 hU2 hU3 hU4 hU5 HT
        have mC : w8.cell? ⟨ab, 1, none⟩ = some (.int .i64 x.cl) := A1.out.2.cell 1
        have hcb : (x.cl == 0) = false := by simpa using hcl
        clear hcl
        go_wp2_with (fail)
        try simp only [Act.put]
        refine wp_region_class (fun w' => RF w w' w.heap.size r ∧ Blk w' ab 32 (cellsAs x)) (by kernel_rfl) (by kernel_rfl) ⟨A1.out.1.drew, A1.out.2⟩ ?_
        iterate 1 (go_big_quiet_step ((intros; rfl)))
        refine q_cat T [32] U1 HU1 rfl rfl rfl ?_
        simp only [Act.put, List.setIfInBounds_toArray, List.set_cons_zero, List.set_cons_succ]
        iterate 1 (go_big_quiet_step ((intros; rfl)))
        refine q_cell 3 _ _ (.int .i64 x.ix) rfl rfl rfl (fun w h => by simp [go_sem, h]) (fun w h => h.2.cell 0) ?_
        simp only [Act.put, List.setIfInBounds_toArray, List.set_cons_zero, List.set_cons_succ]
        refine q_call (.string (bs (Lib.itoa x.ix))) #[.int .i64 x.ix] rfl (by kernel_rfl) Tryd.call34 (fun w' h => same_keeps h (decimal_any x.ix (i64_of HFX.out.1) w')) ?_
        simp only [Act.put, List.setIfInBounds_toArray, List.set_cons_zero, List.set_cons_succ]
        refine q_cat U1 (Lib.itoa x.ix) U2 HU2 rfl rfl rfl ?_
        simp only [Act.put, List.setIfInBounds_toArray, List.set_cons_zero, List.set_cons_succ]
        iterate 1 (go_big_quiet_step ((intros; rfl)))
        refine q_cat U2 [118] U3 HU3 rfl rfl rfl ?_
        simp only [Act.put, List.setIfInBounds_toArray, List.set_cons_zero, List.set_cons_succ]
        refine q_cat U3 [64] U4 HU4 rfl rfl rfl ?_
        simp only [Act.put, List.setIfInBounds_toArray, List.set_cons_zero, List.set_cons_succ]
        iterate 1 (go_big_quiet_step ((intros; rfl)))
        refine q_cell 3 _ _ (.int .i64 x.ep) rfl rfl rfl (fun w h => by simp [go_sem, h]) (fun w h => h.2.cell 2) ?_
        simp only [Act.put, List.setIfInBounds_toArray, List.set_cons_zero, List.set_cons_succ]
        refine q_call (.string (bs (Lib.itoa x.ep))) #[.int .i64 x.ep] rfl (by kernel_rfl) Tryd.call34 (fun w' h => same_keeps h (decimal_any x.ep (i64_of HFX.out.2.2) w')) ?_
        simp only [Act.put, List.setIfInBounds_toArray, List.set_cons_zero, List.set_cons_succ]
        refine q_cat U4 (Lib.itoa x.ep) U5 HU5 rfl rfl rfl ?_
        simp only [Act.put, List.setIfInBounds_toArray, List.set_cons_zero, List.set_cons_succ]
        iterate 1 (go_big_quiet_step ((intros; rfl)))
        refine wpQuiet_nil ?_
        intro w9 f9
        have F9 := Lib.hid f9.1
        clear f9 mC A1
        go_wp2_with (fail)
        go_roundw
        case rel => exact ⟨k + 1, _, by omega, by go_num, rfl, HU, F9⟩
        case measure => simp [intOf]; omega
    · obtain rfl : k = an := by omega
      have HE : Hid (T = T6 ++ asgsL la) := Lib.hid (by
        have h := HTT.out
        rwa [List.take_of_length_le (by rw [HLA.out.2]; exact Nat.le_refl _)] at h)
      have mS : wr.cell? ⟨w.heap.size, 6, none⟩ = some (.slice aa k ac) := by rw [← HA.out.1, ← HA.out.2.1, ← HA.out.2.2]; exact FR.out.cell 6
      clear hlt HTT
      have hlt : ¬ k < k := by omega
      have HZ7 : Hid (T.length ≤ 100000300) := Lib.hid (by
        have z3 := HZ6.out
        have z2 := HSZ.out
        have z5 := asgsL_len (l := la) HR.out.fa
        rw [HE.out, List.length_append]
        omega)
      have HEE : Hid (lineL r la lp = T ++ paysL lp) := Lib.hid (by rw [HL.out, HE.out])
      clear HL HE HZ6 
      obtain ⟨T7, rfl⟩ : ∃ T7, T7 = T := ⟨_, rfl⟩
      obtain ⟨wo, rfl⟩ : ∃ wo : World, wo = wr := ⟨_, rfl⟩
      go_wp2_with (fail)
      clear mS
      go_loopw [3, 7] (fun s i wr => ∃ (k : Nat) (T : List UInt8), k ≤ pn ∧ i = .int .i64 k ∧ s = .string (bs T) ∧ Hid (T = T7 ++ paysL (lp.take k)) ∧ Hid (RF w wr w.heap.size r)) (fun _ i _ => pn - (intOf i).toNat)
      case atStart => exact ⟨0, _, by omega, rfl, rfl, Lib.hid (by simp [paysL]), FR⟩
      case round =>
        clear FR
        obtain ⟨k, T, hk, rfl, rfl, HTT, FR⟩ := hrel
        by_cases hlt : k < pn
        · obtain ⟨x, hx⟩ : ∃ x, lp[k]? = some x := ⟨_, List.getElem?_eq_getElem (by rw [HLP.out.2]; exact hlt)⟩
          obtain ⟨b, off, rfl, _, hbl, hrg⟩ := (HLP.out.1.below FR.out.bel).at hx
          have RG := Lib.hid hrg
          have HFX := Lib.hid (HR.out.fp x (List.mem_of_getElem? hx))
          have HT : Hid (T ++ payL x = T7 ++ paysL (lp.take (k + 1))) := Lib.hid (by rw [HTT.out, paysL_snoc hx, List.append_assoc])
          have HZ : Hid (T.length ≤ 1000000000) := Lib.hid (by
            have z1 := paysL_len (l := lp.take k) (fun y hy => HR.out.fp y (List.mem_of_mem_take hy))
            have z2 := HSZ.out
            have z3 := HZ7.out
            have z5 := asgsL_len (l := la) HR.out.fa
            have z6 : (lp.take k).length ≤ lp.length := List.length_take_le' _ _
            rw [HTT.out]
            simp only [List.length_append]
            omega)
          have mS : wr.cell? ⟨w.heap.size, 7, none⟩ = some (.slice (some ⟨b, off, none⟩) pn pc) := by rw [← HP.out.1, ← HP.out.2.1, ← HP.out.2.2]; exact FR.out.cell 7
          clear hrg hx HTT
          go_upto_region 24 with (first | (refine wpList_load_Pm rfl 35 _ rfl b (off + k * 3) rfl x _ RG.out Tryd.underlying35 rfl infoPm ?_) | (refine wpList_store_row rfl _ _ _ rfl wr.heap.size (cellsPm x) rfl rfl 35 _ (heap_alloc_new wr _) infoPm rfl (cellsPm_one _) ?_; rw [World.setRow_alloc_new]))
          have A1 : Hid (RF w (wr.alloc (.cells (cellsPm x) 35)) w.heap.size r ∧ Blk (wr.alloc (.cells (cellsPm x) 35)) wr.heap.size 35 (cellsPm x)) := Lib.hid ⟨FR.out.alloc _, Blk.new _ _ _⟩
          clear FR RG mS
          generalize wr.alloc (.cells (cellsPm x) 35) = w8 at *
          generalize wr.heap.size = ab at *
          cases hfl : x.fl with
          | true =>
            obtain ⟨U1, hU1⟩ : ∃ U1, T ++ [32] = U1 := ⟨_, rfl⟩
            obtain ⟨U2, hU2⟩ : ∃ U2, U1 ++ Lib.itoa x.ix = U2 := ⟨_, rfl⟩
            obtain ⟨U3, hU3⟩ : ∃ U3, U2 ++ [43] = U3 := ⟨_, rfl⟩
            obtain ⟨U4, hU4⟩ : ∃ U4, U3 ++ Lib.decDigits x.am.toNat = U4 := ⟨_, rfl⟩
            obtain ⟨U5, hU5⟩ : ∃ U5, U4 ++ [33] = U5 := ⟨_, rfl⟩
            have HU1 : Hid (T ++ [32] = U1 ∧ U1.length ≤ 9223372036854775807) := Lib.hid ⟨hU1, by have z0 := HZ.out; have z1 := itoa_short (i64_of HFX.out.1); have z2 := dec_short x.am.toNat (by have := u64_of HFX.out.2; omega); simp only [← hU1, List.length_append]; simp; omega⟩
            have HU2 : Hid (U1 ++ Lib.itoa x.ix = U2 ∧ U2.length ≤ 9223372036854775807) := Lib.hid ⟨hU2, by have z0 := HZ.out; have z1 := itoa_short (i64_of HFX.out.1); have z2 := dec_short x.am.toNat (by have := u64_of HFX.out.2; omega); simp only [← hU2, ← hU1, List.length_append]; simp; omega⟩
            have HU3 : Hid (U2 ++ [43] = U3 ∧ U3.length ≤ 9223372036854775807) := Lib.hid ⟨hU3, by have z0 := HZ.out; have z1 := itoa_short (i64_of HFX.out.1); have z2 := dec_short x.am.toNat (by have := u64_of HFX.out.2; omega); simp only [← hU3, ← hU2, ← hU1, List.length_append]; simp; omega⟩
            have HU4 : Hid (U3 ++ Lib.decDigits x.am.toNat = U4 ∧ U4.length ≤ 9223372036854775807) := Lib.hid ⟨hU4, by have z0 := HZ.out; have z1 := itoa_short (i64_of HFX.out.1); have z2 := dec_short x.am.toNat (by have := u64_of HFX.out.2; omega); simp only [← hU4, ← hU3, ← hU2, ← hU1, List.length_append]; simp; omega⟩
            have HU5 : Hid (U4 ++ [33] = U5 ∧ U5.length ≤ 9223372036854775807) := Lib.hid ⟨hU5, by have z0 := HZ.out; have z1 := itoa_short (i64_of HFX.out.1); have z2 := dec_short x.am.toNat (by have := u64_of HFX.out.2; omega); simp only [← hU5, ← hU4, ← hU3, ← hU2, ← hU1, List.length_append]; simp; omega⟩
            have HU : Hid (U5 = T7 ++ paysL (lp.take (k + 1))) := Lib.hid (by rw [← HT.out, ← hU5, ← hU4, ← hU3, ← hU2, ← hU1]; unfold payL markL; rw [hfl]; simp)
            clear hU1 hU2 hU3 hU4 hU5 HT
            go_wp2_with (fail)
            try simp only [Act.put]
            refine wp_region_class (fun w' => RF w w' w.heap.size r ∧ Blk w' ab 35 (cellsPm x)) (by kernel_rfl) (by kernel_rfl) ⟨A1.out.1.drew, A1.out.2⟩ ?_
            iterate 1 (go_big_quiet_step ((intros; rfl)))
            refine q_cat T [32] U1 HU1 rfl rfl rfl ?_
            simp only [Act.put, List.setIfInBounds_toArray, List.set_cons_zero, List.set_cons_succ]
            iterate 1 (go_big_quiet_step ((intros; rfl)))
            refine q_cell 3 _ _ (.int .i64 x.ix) rfl rfl rfl (fun w h => by simp [go_sem, h]) (fun w h => h.2.cell 0) ?_
            simp only [Act.put, List.setIfInBounds_toArray, List.set_cons_zero, List.set_cons_succ]
            refine q_call (.string (bs (Lib.itoa x.ix))) #[.int .i64 x.ix] rfl (by kernel_rfl) Tryd.call34 (fun w' h => same_keeps h (decimal_any x.ix (i64_of HFX.out.1) w')) ?_
            simp only [Act.put, List.setIfInBounds_toArray, List.set_cons_zero, List.set_cons_succ]
            refine q_cat U1 (Lib.itoa x.ix) U2 HU2 rfl rfl rfl ?_
            simp only [Act.put, List.setIfInBounds_toArray, List.set_cons_zero, List.set_cons_succ]
            refine q_cat U2 [43] U3 HU3 rfl rfl rfl ?_
            simp only [Act.put, List.setIfInBounds_toArray, List.set_cons_zero, List.set_cons_succ]
            iterate 1 (go_big_quiet_step ((intros; rfl)))
            refine q_cell 33 _ _ (.int .u64 x.am) rfl rfl rfl (fun w h => by simp [go_sem, h]) (fun w h => h.2.cell 1) ?_
            simp only [Act.put, List.setIfInBounds_toArray, List.set_cons_zero, List.set_cons_succ]
            refine q_call (.string (bs (Lib.decDigits x.am.toNat))) #[.int .u64 x.am] rfl (by kernel_rfl) Tryd.call35 (fun w' h => same_keeps h (reffmt_any x.am (u64_of HFX.out.2) w')) ?_
            simp only [Act.put, List.setIfInBounds_toArray, List.set_cons_zero, List.set_cons_succ]
            refine q_cat U3 (Lib.decDigits x.am.toNat) U4 HU4 rfl rfl rfl ?_
            simp only [Act.put, List.setIfInBounds_toArray, List.set_cons_zero, List.set_cons_succ]
            iterate 1 (go_big_quiet_step ((intros; rfl)))
            refine wpQuiet_nil ?_
            intro w9 f9
            have F9 := Lib.hid f9.1
            have mF : w9.cell? ⟨ab, 2, none⟩ = some (.bool true) := by rw [← hfl]; exact f9.2.cell 2
            clear f9 A1 hfl
            go_wp2_with (refine wpList_cat (dst := some 121) U4 [33] U5 HU5 rfl rfl rfl ?_)
            go_roundw
            case rel => exact ⟨k + 1, _, by omega, by go_num, rfl, HU, F9⟩
            case measure => simp [intOf]; omega
          | false =>
            obtain ⟨U1, hU1⟩ : ∃ U1, T ++ [32] = U1 := ⟨_, rfl⟩
            obtain ⟨U2, hU2⟩ : ∃ U2, U1 ++ Lib.itoa x.ix = U2 := ⟨_, rfl⟩
            obtain ⟨U3, hU3⟩ : ∃ U3, U2 ++ [43] = U3 := ⟨_, rfl⟩
            obtain ⟨U4, hU4⟩ : ∃ U4, U3 ++ Lib.decDigits x.am.toNat = U4 := ⟨_, rfl⟩
            have HU1 : Hid (T ++ [32] = U1 ∧ U1.length ≤ 9223372036854775807) := Lib.hid ⟨hU1, by have z0 := HZ.out; have z1 := itoa_short (i64_of HFX.out.1); have z2 := dec_short x.am.toNat (by have := u64_of HFX.out.2; omega); simp only [← hU1, List.length_append]; simp; omega⟩
            have HU2 : Hid (U1 ++ Lib.itoa x.ix = U2 ∧ U2.length ≤ 9223372036854775807) := Lib.hid ⟨hU2, by have z0 := HZ.out; have z1 := itoa_short (i64_of HFX.out.1); have z2 := dec_short x.am.toNat (by have := u64_of HFX.out.2; omega); simp only [← hU2, ← hU1, List.length_append]; simp; omega⟩
            have HU3 : Hid (U2 ++ [43] = U3 ∧ U3.length ≤ 9223372036854775807) := Lib.hid ⟨hU3, by have z0 := HZ.out; have z1 := itoa_short (i64_of HFX.out.1); have z2 := dec_short x.am.toNat (by have := u64_of HFX.out.2; omega); simp only [← hU3, ← hU2, ← hU1, List.length_append]; simp; omega⟩
            have HU4 : Hid (U3 ++ Lib.decDigits x.am.toNat = U4 ∧ U4.length ≤ 9223372036854775807) := Lib.hid ⟨hU4, by have z0 := HZ.out; have z1 := itoa_short (i64_of HFX.out.1); have z2 := dec_short x.am.toNat (by have := u64_of HFX.out.2; omega); simp only [← hU4, ← hU3, ← hU2, ← hU1, List.length_append]; simp; omega⟩
            have HU : Hid (U4 = T7 ++ paysL (lp.take (k + 1))) := Lib.hid (by rw [← HT.out, ← hU4, ← hU3, ← hU2, ← hU1]; unfold payL markL; rw [hfl]; simp)
            clear hU1 hU2 hU3 hU4 HT
            go_wp2_with (fail)
            try simp only [Act.put]
            refine wp_region_class (fun w' => RF w w' w.heap.size r ∧ Blk w' ab 35 (cellsPm x)) (by kernel_rfl) (by kernel_rfl) ⟨A1.out.1.drew, A1.out.2⟩ ?_
            iterate 1 (go_big_quiet_step ((intros; rfl)))
            refine q_cat T [32] U1 HU1 rfl rfl rfl ?_
            simp only [Act.put, List.setIfInBounds_toArray, List.set_cons_zero, List.set_cons_succ]
            iterate 1 (go_big_quiet_step ((intros; rfl)))
            refine q_cell 3 _ _ (.int .i64 x.ix) rfl rfl rfl (fun w h => by simp [go_sem, h]) (fun w h => h.2.cell 0) ?_
            simp only [Act.put, List.setIfInBounds_toArray, List.set_cons_zero, List.set_cons_succ]
            refine q_call (.string (bs (Lib.itoa x.ix))) #[.int .i64 x.ix] rfl (by kernel_rfl) Tryd.call34 (fun w' h => same_keeps h (decimal_any x.ix (i64_of HFX.out.1) w')) ?_
            simp only [Act.put, List.setIfInBounds_toArray, List.set_cons_zero, List.set_cons_succ]
            refine q_cat U1 (Lib.itoa x.ix) U2 HU2 rfl rfl rfl ?_
            simp only [Act.put, List.setIfInBounds_toArray, List.set_cons_zero, List.set_cons_succ]
            refine q_cat U2 [43] U3 HU3 rfl rfl rfl ?_
            simp only [Act.put, List.setIfInBounds_toArray, List.set_cons_zero, List.set_cons_succ]
            iterate 1 (go_big_quiet_step ((intros; rfl)))
            refine q_cell 33 _ _ (.int .u64 x.am) rfl rfl rfl (fun w h => by simp [go_sem, h]) (fun w h => h.2.cell 1) ?_
            simp only [Act.put, List.setIfInBounds_toArray, List.set_cons_zero, List.set_cons_succ]
            refine q_call (.string (bs (Lib.decDigits x.am.toNat))) #[.int .u64 x.am] rfl (by kernel_rfl) Tryd.call35 (fun w' h => same_keeps h (reffmt_any x.am (u64_of HFX.out.2) w')) ?_
            simp only [Act.put, List.setIfInBounds_toArray, List.set_cons_zero, List.set_cons_succ]
            refine q_cat U3 (Lib.decDigits x.am.toNat) U4 HU4 rfl rfl rfl ?_
            simp only [Act.put, List.setIfInBounds_toArray, List.set_cons_zero, List.set_cons_succ]
            iterate 1 (go_big_quiet_step ((intros; rfl)))
            refine wpQuiet_nil ?_
            intro w9 f9
            have F9 := Lib.hid f9.1
            have mF : w9.cell? ⟨ab, 2, none⟩ = some (.bool false) := by rw [← hfl]; exact f9.2.cell 2
            clear f9 A1 hfl
            go_wp2_with (fail)
            go_roundw
            case rel => exact ⟨k + 1, _, by omega, by go_num, rfl, HU, F9⟩
            case measure => simp [intOf]; omega
        · obtain rfl : k = pn := by omega
          have HE : Hid (T = T7 ++ paysL lp) := Lib.hid (by
            have h := HTT.out
            rwa [List.take_of_length_le (by rw [HLP.out.2]; exact Nat.le_refl _)] at h)
          have mS : wr.cell? ⟨w.heap.size, 7, none⟩ = some (.slice pa k pc) := by rw [← HP.out.1, ← HP.out.2.1, ← HP.out.2.2]; exact FR.out.cell 7
          clear hlt HTT
          have hlt : ¬ k < k := by omega
          have HF : Hid (lineL r la lp = T) := Lib.hid (by rw [HEE.out, HE.out])
          go_wp2_with (fail)
          go_ret
          exact ⟨by rw [HF.out]; rfl, FR.out.bel⟩
theorem refline_any (r : Rc) (la : List As) (lp : List Pm) (w : World) (hr : RcAt w (fun _ => False) r la lp) (hla : la.length ≤ 1000000) (hlp : lp.length ≤ 1000000) :
    Calls Tryd.prog 19 #[.agg (cellsRc r)] w fun e w' => e = .returned (.string (bs (lineL r la lp))) ∧ Below w.heap.size w w' := by
  by_cases h1 : r.cd = 0
  · by_cases h2 : r.kd = 7
    · exact refformat_tick r la lp w hr h1 h2 hla hlp
    · by_cases h0 : 1 ≤ r.kd ∧ r.kd ≤ 7
      · by_cases h3 : r.dl = -1
        · exact refformat_noney r la lp w hr.nums h0.1 h0.2 h1 h2 h3
        · exact refformat_byy r la lp w hr.nums h0.1 h0.2 h1 h2 h3
      · by_cases h3 : r.dl = -1
        · exact refformat_nonen r la lp w hr.nums h0 h1 h2 h3
        · exact refformat_byn r la lp w hr.nums h0 h1 h2 h3
  · by_cases h0 : 1 ≤ r.kd ∧ r.kd ≤ 7
    · exact refformat_erry r la lp w hr.nums h0.1 h0.2 h1
    · exact refformat_errn r la lp w hr.nums h0 h1
end Go.Proofs.YtjbbcnepeffiaaaDoor
