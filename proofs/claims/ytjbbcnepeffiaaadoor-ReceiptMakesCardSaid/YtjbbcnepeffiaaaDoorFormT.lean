/- Format, the program's: ticks. -/
import Derived.Test.YtjbbcnepeffiaaaDoorForm
import Derived.Laws.Rows
namespace Go.Proofs.YtjbbcnepeffiaaaDoor
open Go Go.RowKit Go.Deep
set_option linter.unusedVariables false
set_option linter.unusedSimpArgs false
set_option maxRecDepth 100000

theorem gwei_any (x : Int) (h : 0 ≤ x ∧ x ≤ 18446744073709551615) (w : World) (ht : PowTab w) : Calls Tryd.prog 31 #[.int .u64 x] w fun e w' => e = .returned (.string (bs (Lib.decDigits x.toNat))) ∧ Below w.heap.size w w' := by
  have h1 := gformat_any x.toNat (by omega) w ht
  rwa [show ((x.toNat : Nat) : Int) = x by omega] at h1
/-- A record of its own beside: where Format stands within a round. -/
def FmA (w0 w : World) (rb tb ab : Nat) (t : TypeId) (cs : Array Value) (r : Rc) (T : List UInt8) : Prop := Fm w0 w rb tb r T ∧ Blk w ab t cs
theorem FmA.below {w0 w w' : World} {rb tb ab : Nat} {t : TypeId} {cs : Array Value} {r : Rc} {T : List UInt8} (h : FmA w0 w rb tb ab t cs r T) (hb : Below w.heap.size w w') : FmA w0 w' rb tb ab t cs r T := ⟨h.1.below hb, h.2.below hb h.2.lt⟩
theorem FmA.drew {w0 w : World} {rb tb ab : Nat} {t : TypeId} {cs : Array Value} {r : Rc} {T : List UInt8} (h : FmA w0 w rb tb ab t cs r T) : FmA w0 w.drew rb tb ab t cs r T := ⟨h.1.drew, h.2⟩
theorem FmA.alloc {w0 w : World} {rb tb ab : Nat} {t : TypeId} {cs : Array Value} {r : Rc} {T : List UInt8} (h : FmA w0 w rb tb ab t cs r T) (o : Obj) : FmA w0 (w.alloc o) rb tb ab t cs r T := ⟨h.1.alloc o, h.2.alloc o⟩
set_option maxHeartbeats 6400000 in
theorem format_tick (r : Rc) (la : List As) (lp : List Pm) (w : World) (hr : RcAt w (fun _ => False) r la lp) (hv : Vars w) (hcd : r.cd = 0) (hkd : r.kd = 7) (hla : la.length ≤ 1000000) (hlp : lp.length ≤ 1000000) :
    Calls Tryd.prog 18 #[.agg (cellsRc r)] w fun e w' => e = .returned (.string (bs (lineL r la lp))) ∧ Below w.heap.size w w' := by
  have HL : Hid (lineL r la lp = headL r ++ tickL r ++ asgsL la ++ paysL lp) := Lib.hid (by unfold lineL; rw [if_pos hcd, if_pos hkd]; simp)
  have hn := hr.nums
  have HTL := Lib.hid (tickL_len hn)
  have HR := Lib.hid hr
  have HSZ := Lib.hid (And.intro hla hlp)
  have HKC := Lib.hid (And.intro hkd hcd)
  obtain ⟨aa, haa⟩ : ∃ aa, r.aa = aa := ⟨_, rfl⟩
  obtain ⟨pa, hpa⟩ : ∃ pa, r.pa = pa := ⟨_, rfl⟩
  have hac := hr.ac
  have hpc := hr.pc
  unfold maxLen at hac hpc
  obtain ⟨an, han⟩ : ∃ an, r.an = an := ⟨_, rfl⟩
  obtain ⟨pn, hpn⟩ : ∃ pn, r.pn = pn := ⟨_, rfl⟩
  obtain ⟨ac, hac2⟩ : ∃ ac, r.ac = ac := ⟨_, rfl⟩
  obtain ⟨pc, hpc2⟩ : ∃ pc, r.pc = pc := ⟨_, rfl⟩
  rw [han, hac2] at hac
  rw [hpn, hpc2] at hpc
  have HA : Hid (r.aa = aa ∧ r.an = an ∧ r.ac = ac) := Lib.hid ⟨haa, han, hac2⟩
  have HP : Hid (r.pa = pa ∧ r.pn = pn ∧ r.pc = pc) := Lib.hid ⟨hpa, hpn, hpc2⟩
  have HLA : Hid (LstR As.row 3 w (fun _ => False) aa la ∧ la.length = an) := Lib.hid ⟨by rw [← haa]; exact hr.asg, by rw [← han]; exact hr.an⟩
  have HLP : Hid (LstR Pm.row 3 w (fun _ => False) pa lp ∧ lp.length = pn) := Lib.hid ⟨by rw [← hpa]; exact hr.pay, by rw [← hpn]; exact hr.pn⟩
  have hal : an ≤ 9223372036854775807 := by omega
  have hpl : pn ≤ 9223372036854775807 := by omega
  clear hr hcd hkd hla hlp haa hpa han hpn hac2 hpc2 hac hpc
  have K0 : Hid (Blk (w.alloc (.cells (cellsRc r) 26)) w.heap.size 26 (cellsRc r)) := Lib.hid (Blk.new w _ _)
  have B0 : Hid (Below w.heap.size w (w.alloc (.cells (cellsRc r) 26))) := Lib.hid ((Below.refl _ _).alloc (Nat.le_refl _) _)
  have HV := Lib.hid hv
  have HN := Lib.hid hn
  have HH := Lib.hid (headL_len r)
  clear hv hn
  go_enter Tryd.func18, Tryd.ntmps18
  go_upto_region 1 with (fail)
  generalize w.alloc (.cells (cellsRc r) 26) = W at *
  go_wp2_with (fail)
  refine (writer_any W).mono ?_
  rintro e w1 ⟨rfl, e1⟩
  have F0 : Hid (Fm w w1 w.heap.size W.heap.size r []) := Lib.hid (by
    rw [e1]
    exact ⟨K0.out.alloc _, Bld.new W, B0.out.alloc B0.out.size _, B0.out.size⟩)
  clear e1 K0 B0
  generalize W.heap.size = tb at *
  have c0 : w1.cell? ⟨w.heap.size, 0, none⟩ = some (.int .i64 r.kd) := F0.out.cell 0
  go_wp2_with (fail)
  refine (name_any r.kd w1 (HV.out.below F0.out.bel).names).mono ?_
  rintro e w2 ⟨rfl, rfl⟩
  clear c0
  go_wp2_with (refine wpList_strs2 (o := ⟨some 17, _, _, _, _, _⟩) rfl _ _ (nameE r.kd) malL rfl rfl rfl ?_)
  refine (or_any r.kd _ _ (Blk.new _ _ _)).mono ?_
  rintro e w2 ⟨rfl, rfl⟩
  have F1 := Lib.hid (F0.out.alloc (.cells (strs [nameE r.kd, malL]) 9))
  clear F0
  generalize w1.alloc (.cells (strs [nameE r.kd, malL]) 9) = w2 at *
  go_wp2_with (refine wpList_strs2 (o := ⟨some 19, _, _, _, _, _⟩) rfl _ _ (kindL r.kd) [32] rfl rfl rfl ?_)
  refine (F1.out.add [kindL r.kd, [32]] 2 (headL r) (by simp [headL]) rfl (by omega) (by have := HH.out; omega)).mono ?_
  rintro e w3 ⟨rfl, f2⟩
  have F2 := Lib.hid f2
  clear f2 F1
  have m0 : w3.cell? ⟨w.heap.size, 0, none⟩ = some (.int .i64 7) := by rw [← HKC.out.1]; exact F2.out.cell 0
  have m1 : w3.cell? ⟨w.heap.size, 1, none⟩ = some (.int .i64 0) := by rw [← HKC.out.2]; exact F2.out.cell 1
  go_wp2_with (fail)
  refine wp_region_first (fun w' => Fm w w' w.heap.size tb r (headL r)) 11 4 [0, 1, 2, 4, 5, 7, 8] (by kernel_rfl) (by kernel_rfl) F2.out.drew ?_
  simp only [List.filterMap_cons, List.filterMap_nil, List.getElem?_toArray, List.getElem?_cons_zero, List.getElem?_cons_succ]
  show wpQuiet _ _ _ _ [_, _, _, _, _, _, _] _
  iterate 2 (go_big_quiet_step ((intros; rfl)))
  refine q_cell 3 _ _ (.int .i64 r.bl) rfl rfl rfl (fun w h => by simp [go_sem, h]) (fun w h => Fm.cell h 3) ?_
  simp only [Act.put, List.setIfInBounds_toArray, List.set_cons_zero, List.set_cons_succ]
  iterate 1 (go_big_quiet_step ((intros; rfl)))
  refine q_cell 3 _ _ (.int .i64 r.ep) rfl rfl rfl (fun w h => by simp [go_sem, h]) (fun w h => Fm.cell h 4) ?_
  simp only [Act.put, List.setIfInBounds_toArray, List.set_cons_zero, List.set_cons_succ]
  iterate 1 (go_big_quiet_step ((intros; rfl)))
  refine q_cell 3 _ _ (.int .i64 r.vs) rfl rfl rfl (fun w h => by simp [go_sem, h]) (fun w h => Fm.cell h 8) ?_
  simp only [Act.put, List.setIfInBounds_toArray, List.set_cons_zero, List.set_cons_succ]
  refine wpQuiet_nil ?_
  refine headF_one (i := 3) (by kernel_rfl) (by omega) ?_
  refine wpOp_at rfl rfl (wp_call_at rfl #[.int .i64 r.bl] (by kernel_rfl) Tryd.call29 ((itoa_any r.bl HN.out.bl w3.drew (HV.out.below F2.out.drew.bel).pow).mono ?_))
  rintro e w4 ⟨rfl, b4⟩
  have F4 := Lib.hid (F2.out.drew.below b4)
  clear b4
  refine ⟨_, rfl, F4.out, ?_⟩
  simp only [Act.put, List.getElem_toArray, List.getElem_cons_zero, List.getElem_cons_succ, List.setIfInBounds_toArray, List.set_cons_zero, List.set_cons_succ]
  refine headF_one (i := 6) (by kernel_rfl) (by omega) ?_
  refine wpOp_at rfl rfl (wp_call_at rfl #[.int .i64 r.ep] (by kernel_rfl) Tryd.call29 ((itoa_any r.ep HN.out.ep w4 (HV.out.below F4.out.bel).pow).mono ?_))
  rintro e w5 ⟨rfl, b5⟩
  have F5 := Lib.hid (F4.out.below b5)
  clear b5
  refine ⟨_, rfl, F5.out, ?_⟩
  simp only [Act.put, List.getElem_toArray, List.getElem_cons_zero, List.getElem_cons_succ, List.setIfInBounds_toArray, List.set_cons_zero, List.set_cons_succ]
  refine headF_one (i := 9) (by kernel_rfl) (by omega) ?_
  refine wpOp_at rfl rfl (wp_call_at rfl #[.int .i64 r.vs] (by kernel_rfl) Tryd.call29 ((itoa_any r.vs HN.out.vs w5 (HV.out.below F5.out.bel).pow).mono ?_))
  rintro e w6 ⟨rfl, b6⟩
  have F6 := Lib.hid (F5.out.below b6)
  clear b6
  refine ⟨_, rfl, F6.out, ?_⟩
  simp only [Act.put, List.getElem_toArray, List.getElem_cons_zero, List.getElem_cons_succ, List.setIfInBounds_toArray, List.set_cons_zero, List.set_cons_succ]
  refine headF_one (i := 10) (by kernel_rfl) (by omega) ?_
  refine wpOp_at rfl rfl (wp_strs6 _ _ _ _ _ _ blkS (Lib.itoa r.bl) epoS (Lib.itoa r.ep) visS (Lib.itoa r.vs) rfl rfl rfl rfl rfl rfl rfl ?_)
  refine ⟨F6.out.alloc _, ?_⟩
  show Region.seqB _ _ _ _ _ = true ∧ _
  refine ⟨by kernel_rfl, ?_⟩
  simp only [Act.put, List.getElem_toArray, List.getElem_cons_zero, List.getElem_cons_succ, List.setIfInBounds_toArray, List.set_cons_zero, List.set_cons_succ, List.drop_succ_cons, List.drop_zero]
  clear m0 m1 F2 F4 F5
  go_wp2_with (fail)
  refine (F6.out.add [blkS, Lib.itoa r.bl, epoS, Lib.itoa r.ep, visS, Lib.itoa r.vs] 6 (headL r ++ tickL r) (by simp [tickL]) rfl (by omega) (by have := HH.out; have := HTL.out; simp; omega)).mono ?_
  rintro e w7 ⟨rfl, f7⟩
  have F7 := Lib.hid f7
  clear f7 F6
  go_wp2_with (fail)
  refine NoPanic.normal ?_
  have m6 : w7.cell? ⟨w.heap.size, 6, none⟩ = some (.slice aa an ac) := by rw [← HA.out.1, ← HA.out.2.1, ← HA.out.2.2]; exact F7.out.cell 6
  go_wp2_with (fail)
  go_loopw [65] (fun i wr => ∃ k : Nat, k ≤ an ∧ i = .int .i64 k ∧ Hid (Fm w wr w.heap.size tb r (headL r ++ tickL r ++ asgsL (la.take k)))) (fun i _ => an - (intOf i).toNat)
  case atStart => exact ⟨0, by omega, rfl, Lib.hid (by simpa [asgsL] using F7.out)⟩
  case round =>
    clear F7
    obtain ⟨k, hk, rfl, FR⟩ := hrel
    by_cases hlt : k < an
    · obtain ⟨x, hx⟩ : ∃ x, la[k]? = some x := ⟨_, List.getElem?_eq_getElem (by rw [HLA.out.2]; exact hlt)⟩
      obtain ⟨b, off, rfl, _, hbl, hrg⟩ := (HLA.out.1.below FR.out.bel).at hx
      have RG := Lib.hid hrg
      have HFX := Lib.hid (HR.out.fa x (List.mem_of_getElem? hx))
      have HT : Hid (headL r ++ tickL r ++ asgsL (la.take k) ++ asgL x = headL r ++ tickL r ++ asgsL (la.take (k + 1))) := Lib.hid (by rw [asgsL_snoc hx]; simp only [List.append_assoc])
      have HZ : Hid ((headL r ++ tickL r ++ asgsL (la.take (k + 1))).length ≤ 140737488355328) := Lib.hid (by
        have z1 := asgsL_len (l := la.take (k + 1)) (fun y hy => HR.out.fa y (List.mem_of_mem_take hy))
        have z2 := HSZ.out
        have z3 := HH.out
        have z4 := HTL.out
        have z5 := asgsL_len (l := la) HR.out.fa
        have z6 : (la.take (k + 1)).length ≤ la.length := List.length_take_le' _ _
        simp only [List.length_append]
        omega)
      obtain ⟨T1, hT1⟩ : ∃ T1, headL r ++ tickL r ++ asgsL (la.take (k + 1)) = T1 := ⟨_, rfl⟩
      rw [hT1] at HT HZ
      have HT1 := Lib.hid hT1
      clear hT1
      generalize headL r ++ tickL r ++ asgsL (la.take k) = T0 at *
      clear hrg hx hbl
      go_upto_region 13 with (first | (refine wpList_load_As rfl 32 _ rfl b (off + k * 3) rfl x _ RG.out Tryd.underlying32 rfl infoAs ?_) | (refine wpList_store_row rfl _ _ _ rfl wr.heap.size (cellsAs x) rfl rfl 32 _ (heap_alloc_new wr _) infoAs rfl (cellsAs_one _) ?_; rw [World.setRow_alloc_new]))
      have A1 : Hid (FmA w (wr.alloc (.cells (cellsAs x) 32)) w.heap.size tb wr.heap.size 32 (cellsAs x) r T0) := Lib.hid ⟨FR.out.alloc _, Blk.new _ _ _⟩
      clear FR RG
      generalize wr.alloc (.cells (cellsAs x) 32) = w8 at *
      generalize wr.heap.size = ab at *
      try simp only [Act.put]
      refine wp_region_first (fun w' => FmA w w' w.heap.size tb ab 32 (cellsAs x) r T0) 11 4 [0, 1, 2, 4, 5, 7, 8] (by kernel_rfl) (by kernel_rfl) A1.out.drew ?_
      simp only [List.filterMap_cons, List.filterMap_nil, List.getElem?_toArray, List.getElem?_cons_zero, List.getElem?_cons_succ]
      show wpQuiet _ _ _ _ [_, _, _, _, _, _, _] _
      iterate 2 (go_big_quiet_step ((intros; rfl)))
      refine q_cell 3 _ _ (.int .i64 x.ix) rfl rfl rfl (fun w h => by simp [go_sem, h]) (fun w h => h.2.cell 0) ?_
      simp only [Act.put, List.setIfInBounds_toArray, List.set_cons_zero, List.set_cons_succ]
      iterate 1 (go_big_quiet_step ((intros; rfl)))
      refine q_cell 3 _ _ (.int .i64 x.cl) rfl rfl rfl (fun w h => by simp [go_sem, h]) (fun w h => h.2.cell 1) ?_
      simp only [Act.put, List.setIfInBounds_toArray, List.set_cons_zero, List.set_cons_succ]
      iterate 1 (go_big_quiet_step ((intros; rfl)))
      refine q_cell 3 _ _ (.int .i64 x.ep) rfl rfl rfl (fun w h => by simp [go_sem, h]) (fun w h => h.2.cell 2) ?_
      simp only [Act.put, List.setIfInBounds_toArray, List.set_cons_zero, List.set_cons_succ]
      refine wpQuiet_nil ?_
      refine headF_one (i := 3) (by kernel_rfl) (by omega) ?_
      refine wpOp_at rfl rfl (wp_call_at rfl #[.int .i64 x.ix] (by kernel_rfl) Tryd.call29 ((itoa_any x.ix (i64_of HFX.out.1) w8.drew (HV.out.below A1.out.drew.1.bel).pow).mono ?_))
      rintro e w9 ⟨rfl, b9⟩
      have A9 := Lib.hid (A1.out.drew.below b9)
      clear b9
      refine ⟨_, rfl, A9.out, ?_⟩
      simp only [Act.put, List.getElem_toArray, List.getElem_cons_zero, List.getElem_cons_succ, List.setIfInBounds_toArray, List.set_cons_zero, List.set_cons_succ]
      refine headF_one (i := 6) (by kernel_rfl) (by omega) ?_
      refine wpOp_at rfl rfl (wp_call_at rfl #[.int .i64 x.cl] (by kernel_rfl) Tryd.call30 ((letter_any x.cl _).mono ?_))
      rintro e w10 ⟨rfl, rfl⟩
      refine ⟨_, rfl, A9.out, ?_⟩
      simp only [Act.put, List.getElem_toArray, List.getElem_cons_zero, List.getElem_cons_succ, List.setIfInBounds_toArray, List.set_cons_zero, List.set_cons_succ]
      refine headF_one (i := 9) (by kernel_rfl) (by omega) ?_
      refine wpOp_at rfl rfl (wp_call_at rfl #[.int .i64 x.ep] (by kernel_rfl) Tryd.call29 ((itoa_any x.ep (i64_of HFX.out.2.2) w9 (HV.out.below A9.out.1.bel).pow).mono ?_))
      rintro e w11 ⟨rfl, b11⟩
      have A11 := Lib.hid (A9.out.below b11)
      clear b11
      refine ⟨_, rfl, A11.out, ?_⟩
      simp only [Act.put, List.getElem_toArray, List.getElem_cons_zero, List.getElem_cons_succ, List.setIfInBounds_toArray, List.set_cons_zero, List.set_cons_succ]
      refine headF_one (i := 10) (by kernel_rfl) (by omega) ?_
      refine wpOp_at rfl rfl (wp_strs5 _ _ _ _ _ [32] (Lib.itoa x.ix) (letL x.cl) [64] (Lib.itoa x.ep) rfl rfl rfl rfl rfl rfl ?_)
      refine ⟨A11.out.alloc _, ?_⟩
      show Region.seqB _ _ _ _ _ = true ∧ _
      refine ⟨by kernel_rfl, ?_⟩
      simp only [Act.put, List.getElem_toArray, List.getElem_cons_zero, List.getElem_cons_succ, List.setIfInBounds_toArray, List.set_cons_zero, List.set_cons_succ, List.drop_succ_cons, List.drop_zero]
      go_wp2_with (fail)
      refine (A11.out.1.add [[32], (Lib.itoa x.ix), (letL x.cl), [64], (Lib.itoa x.ep)] 5 T1 (by rw [← HT.out]; simp [asgL]) rfl (by omega) HZ.out).mono ?_
      rintro e wz ⟨rfl, fz⟩
      have FZ := Lib.hid fz
      clear fz
      go_wp2_with (fail)
      refine NoPanic.normal ?_
      go_wp2_with (fail)
      go_roundw
      case rel => exact ⟨k + 1, by omega, by go_num, by rw [HT1.out]; exact FZ⟩
      case measure => simp [intOf]; omega
    · obtain rfl : k = an := by omega
      have FE : Hid (Fm w wr w.heap.size tb r (headL r ++ tickL r ++ asgsL la)) := Lib.hid (by
        have h := FR.out
        rwa [List.take_of_length_le (by rw [HLA.out.2]; exact Nat.le_refl _)] at h)
      clear hlt FR
      have hlt : ¬ k < k := by omega
      obtain ⟨wo, rfl⟩ : ∃ wo : World, wo = wr := ⟨_, rfl⟩
      have m7 : wo.cell? ⟨w.heap.size, 7, none⟩ = some (.slice pa pn pc) := by rw [← HP.out.1, ← HP.out.2.1, ← HP.out.2.2]; exact FE.out.cell 7
      go_wp2_with (fail)
      clear m7
      go_loopw [85] (fun i wr => ∃ k : Nat, k ≤ pn ∧ i = .int .i64 k ∧ Hid (Fm w wr w.heap.size tb r (headL r ++ tickL r ++ asgsL la ++ paysL (lp.take k)))) (fun i _ => pn - (intOf i).toNat)
      case atStart => exact ⟨0, by omega, rfl, Lib.hid (by simpa [paysL] using FE.out)⟩
      case round =>
        clear FE
        obtain ⟨k, hk, rfl, FR⟩ := hrel
        by_cases hlt : k < pn
        · obtain ⟨x, hx⟩ : ∃ x, lp[k]? = some x := ⟨_, List.getElem?_eq_getElem (by rw [HLP.out.2]; exact hlt)⟩
          obtain ⟨b, off, rfl, _, hbl, hrg⟩ := (HLP.out.1.below FR.out.bel).at hx
          have RG := Lib.hid hrg
          have HFX := Lib.hid (HR.out.fp x (List.mem_of_getElem? hx))
          have HT : Hid (headL r ++ tickL r ++ asgsL la ++ paysL (lp.take k) ++ payL x = headL r ++ tickL r ++ asgsL la ++ paysL (lp.take (k + 1))) := Lib.hid (by rw [paysL_snoc hx]; simp only [List.append_assoc])
          have HZ : Hid ((headL r ++ tickL r ++ asgsL la ++ paysL (lp.take (k + 1))).length ≤ 140737488355328) := Lib.hid (by
            have z1 := paysL_len (l := lp.take (k + 1)) (fun y hy => HR.out.fp y (List.mem_of_mem_take hy))
            have z2 := HSZ.out
            have z3 := HH.out
            have z4 := HTL.out
            have z5 := asgsL_len (l := la) HR.out.fa
            have z6 : (lp.take (k + 1)).length ≤ lp.length := List.length_take_le' _ _
            simp only [List.length_append]
            omega)
          obtain ⟨T1, hT1⟩ : ∃ T1, headL r ++ tickL r ++ asgsL la ++ paysL (lp.take (k + 1)) = T1 := ⟨_, rfl⟩
          rw [hT1] at HT HZ
          have HT1 := Lib.hid hT1
          clear hT1
          generalize headL r ++ tickL r ++ asgsL la ++ paysL (lp.take k) = T0 at *
          clear hrg hx hbl
          go_upto_region 18 with (first | (refine wpList_load_Pm rfl 35 _ rfl b (off + k * 3) rfl x _ RG.out Tryd.underlying35 rfl infoPm ?_) | (refine wpList_store_row rfl _ _ _ rfl wr.heap.size (cellsPm x) rfl rfl 35 _ (heap_alloc_new wr _) infoPm rfl (cellsPm_one _) ?_; rw [World.setRow_alloc_new]))
          have A1 : Hid (FmA w (wr.alloc (.cells (cellsPm x) 35)) w.heap.size tb wr.heap.size 35 (cellsPm x) r T0) := Lib.hid ⟨FR.out.alloc _, Blk.new _ _ _⟩
          clear FR RG
          generalize wr.alloc (.cells (cellsPm x) 35) = w8 at *
          generalize wr.heap.size = ab at *
          try simp only [Act.put]
          refine wp_region_first (fun w' => FmA w w' w.heap.size tb ab 35 (cellsPm x) r T0) 11 4 [0, 1, 2, 4, 5, 7, 8] (by kernel_rfl) (by kernel_rfl) A1.out.drew ?_
          simp only [List.filterMap_cons, List.filterMap_nil, List.getElem?_toArray, List.getElem?_cons_zero, List.getElem?_cons_succ]
          show wpQuiet _ _ _ _ [_, _, _, _, _, _, _] _
          iterate 2 (go_big_quiet_step ((intros; rfl)))
          refine q_cell 3 _ _ (.int .i64 x.ix) rfl rfl rfl (fun w h => by simp [go_sem, h]) (fun w h => h.2.cell 0) ?_
          simp only [Act.put, List.setIfInBounds_toArray, List.set_cons_zero, List.set_cons_succ]
          iterate 1 (go_big_quiet_step ((intros; rfl)))
          refine q_cell 33 _ _ (.int .u64 x.am) rfl rfl rfl (fun w h => by simp [go_sem, h]) (fun w h => h.2.cell 1) ?_
          simp only [Act.put, List.setIfInBounds_toArray, List.set_cons_zero, List.set_cons_succ]
          iterate 1 (go_big_quiet_step ((intros; rfl)))
          refine q_cell 4 _ _ (.bool x.fl) rfl rfl rfl (fun w h => by simp [go_sem, h]) (fun w h => h.2.cell 2) ?_
          simp only [Act.put, List.setIfInBounds_toArray, List.set_cons_zero, List.set_cons_succ]
          refine wpQuiet_nil ?_
          refine headF_one (i := 3) (by kernel_rfl) (by omega) ?_
          refine wpOp_at rfl rfl (wp_call_at rfl #[.int .i64 x.ix] (by kernel_rfl) Tryd.call29 ((itoa_any x.ix (i64_of HFX.out.1) w8.drew (HV.out.below A1.out.drew.1.bel).pow).mono ?_))
          rintro e w9 ⟨rfl, b9⟩
          have A9 := Lib.hid (A1.out.drew.below b9)
          clear b9
          refine ⟨_, rfl, A9.out, ?_⟩
          simp only [Act.put, List.getElem_toArray, List.getElem_cons_zero, List.getElem_cons_succ, List.setIfInBounds_toArray, List.set_cons_zero, List.set_cons_succ]
          refine headF_one (i := 6) (by kernel_rfl) (by omega) ?_
          refine wpOp_at rfl rfl (wp_call_at rfl #[.int .u64 x.am] (by kernel_rfl) Tryd.call31 ((gwei_any x.am (u64_of HFX.out.2) w9 (HV.out.below A9.out.1.bel).pow).mono ?_))
          rintro e w10 ⟨rfl, b10⟩
          have A10 := Lib.hid (A9.out.below b10)
          clear b10
          refine ⟨_, rfl, A10.out, ?_⟩
          simp only [Act.put, List.getElem_toArray, List.getElem_cons_zero, List.getElem_cons_succ, List.setIfInBounds_toArray, List.set_cons_zero, List.set_cons_succ]
          refine headF_one (i := 9) (by kernel_rfl) (by omega) ?_
          refine wpOp_at rfl rfl (wp_call_at rfl #[.bool x.fl] (by kernel_rfl) Tryd.call32 ((mark_any x.fl _).mono ?_))
          rintro e w11 ⟨rfl, rfl⟩
          refine ⟨_, rfl, A10.out, ?_⟩
          simp only [Act.put, List.getElem_toArray, List.getElem_cons_zero, List.getElem_cons_succ, List.setIfInBounds_toArray, List.set_cons_zero, List.set_cons_succ]
          refine headF_one (i := 10) (by kernel_rfl) (by omega) ?_
          refine wpOp_at rfl rfl (wp_strs5 _ _ _ _ _ [32] (Lib.itoa x.ix) [43] (Lib.decDigits x.am.toNat) (markL x.fl) rfl rfl rfl rfl rfl rfl ?_)
          refine ⟨A10.out.alloc _, ?_⟩
          show Region.seqB _ _ _ _ _ = true ∧ _
          refine ⟨by kernel_rfl, ?_⟩
          simp only [Act.put, List.getElem_toArray, List.getElem_cons_zero, List.getElem_cons_succ, List.setIfInBounds_toArray, List.set_cons_zero, List.set_cons_succ, List.drop_succ_cons, List.drop_zero]
          go_wp2_with (fail)
          refine (A10.out.1.add [[32], (Lib.itoa x.ix), [43], (Lib.decDigits x.am.toNat), (markL x.fl)] 5 T1 (by rw [← HT.out]; simp [payL]) rfl (by omega) HZ.out).mono ?_
          rintro e wz ⟨rfl, fz⟩
          have FZ := Lib.hid fz
          clear fz
          go_wp2_with (fail)
          refine NoPanic.normal ?_
          go_wp2_with (fail)
          go_roundw
          case rel => exact ⟨k + 1, by omega, by go_num, by rw [HT1.out]; exact FZ⟩
          case measure => simp [intOf]; omega
        · obtain rfl : k = pn := by omega
          have FE : Hid (Fm w wr w.heap.size tb r (headL r ++ tickL r ++ asgsL la ++ paysL lp)) := Lib.hid (by
            have h := FR.out
            rwa [List.take_of_length_le (by rw [HLP.out.2]; exact Nat.le_refl _)] at h)
          clear hlt FR
          have hlt : ¬ k < k := by omega
          obtain ⟨wo, rfl⟩ : ∃ wo : World, wo = wr := ⟨_, rfl⟩
          have hne : headL r ++ tickL r ++ asgsL la ++ paysL lp ≠ [] := by rw [List.append_assoc, List.append_assoc]; exact headL_ne r _
          have HNE := Lib.hid hne
          clear hne
          obtain ⟨TT, hTT⟩ : ∃ TT, headL r ++ tickL r ++ asgsL la ++ paysL lp = TT := ⟨_, rfl⟩
          rw [hTT] at FE HNE HL
          clear hTT
          go_wp2_with (fail)
          refine (FE.out.line HNE.out).mono ?_
          rintro e wf ⟨rfl, bf⟩
          go_wp2_with (fail)
          go_ret
          exact ⟨by rw [HL.out]; rfl, bf⟩
theorem format_any (r : Rc) (la : List As) (lp : List Pm) (w : World) (hr : RcAt w (fun _ => False) r la lp) (hv : Vars w) (hla : la.length ≤ 1000000) (hlp : lp.length ≤ 1000000) :
    Calls Tryd.prog 18 #[.agg (cellsRc r)] w fun e w' => e = .returned (.string (bs (lineL r la lp))) ∧ Below w.heap.size w w' := by
  by_cases h1 : r.cd = 0
  · by_cases h2 : r.kd = 7
    · exact format_tick r la lp w hr hv h1 h2 hla hlp
    · by_cases h3 : r.dl = -1
      · exact format_none r la lp w hr.nums hv h1 h2 h3
      · exact format_by r la lp w hr.nums hv h1 h2 h3
  · exact format_err r la lp w hr.nums hv h1
end Go.Proofs.YtjbbcnepeffiaaaDoor
