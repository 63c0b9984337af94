/- The walk of PartialMinimum (written by mklaws.py). -/
import Derived.Test.YtbieokgdjhkebaaTwo
namespace Go.Proofs.Ytbieokgdjhkebaa
open Go Go.RowKit Go.Deep
set_option linter.unusedVariables false
set_option linter.unusedSimpArgs false
set_option maxRecDepth 100000

set_option maxHeartbeats 800000 in
theorem bail_PartialMinimum (a0 a1 : Option Addr) (len0 cap0 len1 cap1 : Nat) (a2 : Nat → Int) (w : World) (h : chk a2 ≠ 0 ∨ 60 < len0 ∨ 60 < len1) :
    Calls Try.prog 6 #[.slice a0 len0 cap0, .slice a1 len1 cap1, .agg (cellsOf a2)] w fun e w' => e = .returned (.bool true) ∧ Below w.heap.size w w' := by
  have T0 := Lib.hid (OneC.new w a2)
  have HK := Lib.hid (refCheck_any a2)
  have HV := Lib.hid alive_any
  by_cases hc : chk a2 = 0
  · rw [hc] at HK
    by_cases h1 : 60 < len0
    · have d1 : decide ((60 : Int) < (len0 : Int)) = true := decide_eq_true (by omega)
      clear h hc
      go_enter Try.func6, Try.ntmps6
      go_upto_region 1 with (fail)
      generalize w.alloc (.cells (cellsOf a2) 35) = W at *
      go_wp2_with (first | (refine wpList_load_row rfl 35 _ rfl w.heap.size rfl 35 _ (0, 0) _ T0.out.1 Try.underlying35 rfl info24 ?_))
      refine (HK.out _).mono ?_
      rintro e w1 ⟨rfl, b1⟩
      have T1 := Lib.hid (T0.out.next b1)
      clear b1 T0 HK
      go_wp2_with fail
      refine (HV.out _).mono ?_
      rintro e w2 ⟨rfl, b2⟩
      have T2 := Lib.hid (T1.out.next b2)
      clear b2 T1
      go_wp2
      go_ret
      exact ⟨rfl, T2.out.2⟩
    · have d1 : decide ((60 : Int) < (len0 : Int)) = false := decide_eq_false (by omega)
      have d2 : decide ((60 : Int) < (len1 : Int)) = true := decide_eq_true (by omega)
      clear h hc
      go_enter Try.func6, Try.ntmps6
      go_upto_region 1 with (fail)
      generalize w.alloc (.cells (cellsOf a2) 35) = W at *
      go_wp2_with (first | (refine wpList_load_row rfl 35 _ rfl w.heap.size rfl 35 _ (0, 0) _ T0.out.1 Try.underlying35 rfl info24 ?_))
      refine (HK.out _).mono ?_
      rintro e w1 ⟨rfl, b1⟩
      have T1 := Lib.hid (T0.out.next b1)
      clear b1 T0 HK
      go_wp2_with fail
      refine (HV.out _).mono ?_
      rintro e w2 ⟨rfl, b2⟩
      have T2 := Lib.hid (T1.out.next b2)
      clear b2 T1
      go_wp2
      go_ret
      exact ⟨rfl, T2.out.2⟩
  · have hn : (chk a2 != 0) = true := by simpa using hc
    generalize chk a2 = x at *
    clear hc h
    go_enter Try.func6, Try.ntmps6
    go_upto_region 1 with (fail)
    generalize w.alloc (.cells (cellsOf a2) 35) = W at *
    go_wp2_with (first | (refine wpList_load_row rfl 35 _ rfl w.heap.size rfl 35 _ (0, 0) _ T0.out.1 Try.underlying35 rfl info24 ?_))
    refine (HK.out _).mono ?_
    rintro e w1 ⟨rfl, b1⟩
    have T1 := Lib.hid (T0.out.next b1)
    clear b1 T0 HK
    go_wp2_with fail
    refine (HV.out _).mono ?_
    rintro e w2 ⟨rfl, b2⟩
    have T2 := Lib.hid (T1.out.next b2)
    clear b2 T1
    go_wp2
    go_ret
    exact ⟨rfl, T2.out.2⟩
set_option maxHeartbeats 3200000 in
theorem good_PartialMinimum (a0 a1 : Option Addr) (cap0 cap1 : Nat) (l : List Val) (q : List Rq) (a2 : Nat → Int) (w : World) (hc : chk a2 = 0) (h5 : 0 ≤ a2 5) (h16 : 0 ≤ a2 16) (hl : l.length ≤ 60) (hql : q.length ≤ 60) (hf : ∀ v ∈ l, FitsV v) (hfq : ∀ r ∈ q, FitsRq r) (hL : Lst w (fun _ => False) a0 l) (hq : LstR Rq.row 2 w (fun _ => False) a1 q) :
    Calls Try.prog 6 #[.slice a0 l.length cap0, .slice a1 q.length cap1, .agg (cellsOf a2)] w fun e w' => e = .returned (.bool true) ∧ Below w.heap.size w w' := by
  have T0 := Lib.hid (OneC.new w a2)
  have HK := Lib.hid (refCheck_any a2)
  have HV := Lib.hid alive_any
  rw [hc] at HK
  have HS := Lib.hid (fun (cp cq : Nat) (a b : Option Addr) (w : World) (hL : Lst w (fun _ => False) a l) (hq : LstR Rq.row 2 w (fun _ => False) b q) (hcq : q.length ≤ cq) => step_any a b cp cq l q a2 w hL hq hf hfq h5 h16 hl hql hcq)
  have HQS := Lib.hid (fun (w : World) (hq : LstR Rq.row 2 w (fun _ => False) a1 q) => requests_any a1 cap1 q w hq (by omega))
  have d1 : decide ((60 : Int) < (l.length : Int)) = false := decide_eq_false (by omega)
  have d2 : decide ((60 : Int) < (q.length : Int)) = false := decide_eq_false (by omega)
  have HL := Lib.hid hL
  have HQ := Lib.hid hq
  have HSA := Lib.hid (step_all (a2 5) h5 (q.take (stepN a2 q)) l (fun r hr => hfq r (List.mem_of_mem_take hr)) hf)
  have HFL := Lib.hid hf
  have H5 := Lib.hid h5
  obtain ⟨m, hm⟩ : ∃ m, stepL (a2 5) l (q.take (stepN a2 q)) = m := ⟨_, rfl⟩
  obtain ⟨P, hP⟩ : ∃ P, stepP (a2 5) l (q.take (stepN a2 q)) = P := ⟨_, rfl⟩
  have hml := stepL_len (a2 5) (q.take (stepN a2 q)) l
  have hPl := stepP_len (a2 5) (q.take (stepN a2 q)) l
  have hnd : (q.take (stepN a2 q)).length = stepN a2 q ∧ stepN a2 q ≤ 60 ∧ (stepN a2 q : Int) ≤ a2 16 := by
    have h1 : stepN a2 q ≤ q.length := Nat.min_le_right _ _
    refine ⟨by rw [List.length_take]; omega, by omega, ?_⟩
    unfold stepN; omega
  rw [hnd.1] at hPl
  rw [hm] at hml HS HSA
  rw [hP] at hPl HS HSA
  generalize stepN a2 q = nd at *
  obtain ⟨n, hn⟩ : ∃ n, l.length = n := ⟨_, rfl⟩
  obtain ⟨nq, hnq⟩ : ∃ nq, q.length = nq := ⟨_, rfl⟩
  obtain ⟨np, hnp⟩ : ∃ np, P.length = np := ⟨_, rfl⟩
  have hnp2 : (np : Int) ≤ a2 16 := by omega
  have hnp60 : np ≤ 60 := by omega
  have HNP := Lib.hid (And.intro hnp2 hnp60)
  rw [hn] at hml HS d1 hl ⊢
  rw [hnq] at HS HQS d2 ⊢
  rw [hnp] at HS
  have HN := Lib.hid (And.intro hn hnq)
  have HM := Lib.hid (And.intro hml hnp)
  have dne : ((n : Int) != (n : Int)) = false := by simp
  clear hc hf hfq hL hq hn hnq hnp hql hml hPl hm hP hnd h5 h16 hnp2
  go_enter Try.func6, Try.ntmps6
  go_upto_region 1 with (fail)
  generalize w.alloc (.cells (cellsOf a2) 35) = W at *
  go_wp2_with (first | (refine wpList_load_row rfl 35 _ rfl w.heap.size rfl 35 _ (0, 0) _ T0.out.1 Try.underlying35 rfl info24 ?_))
  refine (HK.out _).mono ?_
  rintro e w1 ⟨rfl, b1⟩
  have T1 := Lib.hid (T0.out.next b1)
  clear b1 T0 HK
  have HL1 : Hid (Lst w1 (fun _ => False) a0 l) := Lib.hid (HL.out.below T1.out.2)
  go_wp2_with fail
  refine wp_region_first (fun w' => Blk w' w.heap.size 35 (cellsOf a2)) 11 8 [0, 1, 3] (by kernel_rfl) (by kernel_rfl) T1.out.1 ?_
  simp only [List.filterMap_cons, List.filterMap_nil, List.getElem?_toArray, List.getElem?_cons_zero, List.getElem?_cons_succ]
  show wpQuiet _ _ _ _ [_, _, _] _
  iterate 2 (go_big_quiet_step ((intros; rfl)))
  refine q_load 35 _ w.heap.size 35 (cellsOf a2) _ rfl rfl rfl (fun w' h => h) Try.underlying35 rfl info24 ?_
  simp only [Act.put, List.setIfInBounds_toArray, List.set_cons_zero, List.set_cons_succ]
  refine wpQuiet_nil ?_
  have TD := Lib.hid (T1.out.next (Below.refl _ w1).drew)
  have ZD : Hid (w1.heap.size ≤ w1.drew.heap.size) := Lib.hid (Nat.le_refl _)
  have HL1D := Lib.hid (HL1.out.below (Below.refl _ w1).drew)
  clear T1 HL1
  generalize w1.drew = wD at *
  refine headF_one (i := 2) (by kernel_rfl) (by omega) ?_
  refine wpOp_at rfl rfl (wp_call_at rfl #[.slice a1 nq cap1] (by kernel_rfl) Try.call17 ((HQS.out wD (HQ.out.below TD.out.2)).mono ?_))
  rintro e wE ⟨vE, rfl, hoE, bE⟩
  obtain ⟨ar, cr, rfl, hcr, -, hlr⟩ := ownsR_lst (S := fun _ => False) Rq.row_len hoE HN.out.2 (fun _ _ h => h)
  have TE := Lib.hid (TD.out.next bE)
  have ZE := Lib.hid (Nat.le_trans ZD.out bE.size)
  have HL1E := Lib.hid (HL1D.out.below bE)
  have HR := Lib.hid (And.intro hcr hlr)
  clear TD ZD bE hoE hcr hlr HQS HL1D
  refine ⟨_, rfl, TE.out.1, ?_⟩
  simp only [Act.put, List.getElem_toArray, List.getElem_cons_zero, List.getElem_cons_succ, List.setIfInBounds_toArray, List.set_cons_zero, List.set_cons_succ, List.drop_succ_cons, List.drop_zero]
  refine headF_one (i := 4) (by kernel_rfl) (by omega) ?_
  refine wpOp_at rfl rfl (wp_call_at rfl #[.slice a0 n cap0, .slice ar nq cr, .agg (cellsOf a2)] (by kernel_rfl) Try.call16 ((HS.out cap0 cr a0 ar wE HL1E.out HR.out.2 HR.out.1).mono ?_))
  rintro e w4 ⟨v4, p4, rfl, ho4, hp4, b4⟩
  obtain ⟨a4, cp4, rfl, -, -⟩ := owns_slice (owns_base ho4 (Nat.zero_le _))
  have HL4 : Hid (Lst w4 (fun _ => False) a4 m) := Lib.hid (by have := owns_lst (S := fun _ => False) (l := m) (by rw [HM.out.1]; exact owns_base ho4 (Nat.zero_le _)) (fun _ _ h => h); exact this)
  obtain ⟨ap, cq4, rfl, -, -, hp4'⟩ := ownsR_lst (S := fun _ => False) Py.row_len hp4 HM.out.2 (fun _ _ h => h)
  have HP4 := Lib.hid hp4'
  clear ho4 hp4 hp4' ZE
  have T4 := Lib.hid (TE.out.next b4)
  have HL14 := Lib.hid (HL1E.out.below b4)
  clear TE HR HS b4 HL1E
  refine ⟨_, rfl, T4.out.1, ?_⟩
  simp only [Act.put, List.getElem_toArray, List.getElem_cons_zero, List.getElem_cons_succ, List.setIfInBounds_toArray, List.set_cons_zero, List.set_cons_succ, List.drop_succ_cons, List.drop_zero]
  refine headF_takes (fun w' => Blk w' w.heap.size 35 (cellsOf a2)) (m := 6) (f := 0) [5, 6, 7, 8, 9, 10] (fun _ h => h) (by kernel_rfl) T4.out.1 ?_
  simp only [List.filterMap_cons, List.filterMap_nil, List.getElem?_toArray, List.getElem?_cons_zero, List.getElem?_cons_succ]
  show wpQuiet _ _ _ _ [_, _, _, _, _, _] _
  iterate 6 (go_big_quiet_step ((intros; rfl)))
  refine wpQuiet_nil ?_
  show Region.seqB _ _ _ _ _ = true ∧ _
  refine ⟨by kernel_rfl, ?_⟩
  simp only [Act.put, List.getElem_toArray, List.getElem_cons_zero, List.getElem_cons_succ, List.setIfInBounds_toArray, List.set_cons_zero, List.set_cons_succ, List.drop_succ_cons, List.drop_zero]
  go_wp2
  refine NoPanic.normal ?_
  have hzp : (#[.int .i64 0, .int .u64 0, .bool false] : Array Value) = cellsPy pyZ := rfl
  have hzv := valz_cells
  go_wp2_with fail
  go_loopw [10, 11, 44] (fun s10 s11 s44 wr => ∃ i : Nat, i ≤ n ∧ s44 = .int .i64 i ∧ Hid (Below w4.heap.size w4 wr)) (fun _ _ s44 _ => n - (intOf s44).toNat)
  case atStart => exact ⟨0, by omega, rfl, Lib.hid (Below.refl _ _)⟩
  case round =>
    obtain ⟨i, hi, rfl, HB⟩ := hrel
    by_cases hit : i < n
    · obtain ⟨v, hv⟩ : ∃ v, l[i]? = some v := ⟨_, List.getElem?_eq_getElem (by have := HN.out; omega)⟩
      obtain ⟨v', hv', hpd⟩ := HSA.out.1 i v hv
      obtain ⟨gb, go, rfl, rg⟩ := (HL4.out.below HB.out).at hv'
      obtain ⟨lb, lo, rfl, rl⟩ := (HL14.out.below HB.out).at hv
      have fv := (HFL.out v (List.mem_of_getElem? hv)).bal
      have RG : Hid (wr.rangeAt gb (go + i * 7) v'.row) := Lib.hid rg
      have RL : Hid ((wr.alloc (.cells (cellsV v') 33)).rangeAt lb (lo + i * 7) v.row) := Lib.hid (World.rangeAt_alloc rl _)
      obtain ⟨t, ht⟩ : ∃ t, min v.bal (a2 5) = t := ⟨_, rfl⟩
      have hmin2 : (if a2 5 < v.bal then a2 5 else v.bal) = t := by rw [← ht]; split <;> omega
      have e1 : decide (v'.bal < t) = false := decide_eq_false (by
        obtain ⟨hpe, hpx, hp3⟩ := hpd
        have : v'.bal = v.bal - paidTo i P := by rw [hpe]
        rcases hp3 with h | ⟨_, _, h⟩ <;> omega)
      have e2 : decide (v.bal < v'.bal) = false := decide_eq_false (by
        obtain ⟨hpe, hpx, hp3⟩ := hpd
        have : v'.bal = v.bal - paidTo i P := by rw [hpe]
        omega)
      have k1 : ¬ (i : Int) < 0 := by omega
      have k2 : ¬ (n : Int) ≤ (i : Int) := by omega
      have k3 : (i : Int) < (n : Int) := by omega
      have B1 : Hid (Below w4.heap.size w4 (wr.alloc (.cells (cellsV v') 33)) ∧ Blk (wr.alloc (.cells (cellsV v') 33)) wr.heap.size 33 (cellsV v')) := Lib.hid ⟨HB.out.alloc HB.out.size _, Blk.new _ _ _⟩
      clear hv hv' rg rl hpd fv HB
      go_upto_region 9 with (first | (refine wpList_load_val rfl 33 _ rfl gb (go + i * 7) rfl v' _ RG.out Try.underlying33 rfl infoV ?_) | (refine wpList_store_row rfl _ _ _ rfl wr.heap.size (cellsV v') rfl rfl 33 _ (Blk.new wr _ (cellsV val0)) infoV rfl (cellsV_one _) ?_; rw [World.setRow_alloc_new]))
      generalize wr.alloc (.cells (cellsV v') 33) = wC at *
      generalize wr.heap.size = vb at *
      try simp only [Act.put]
      have x0 : wC.cell? ⟨vb, 0, none⟩ = some (.int .u64 v'.bal) := B1.out.2.cell 0
      have x1 : wC.cell? ⟨lb, lo + i * 7, none⟩ = some (.int .u64 v.bal) := RL.out 0 _ rfl
      have x2 : wC.cell? ⟨w.heap.size, 5, none⟩ = some (.int .u64 (a2 5)) := (T4.out.1.below B1.out.1 T4.out.1.lt).cell 5
      have B2 := Lib.hid B1.out.1
      clear RG RL B1
      go_wp2_with fail
      go_quiet (fail)
      have B3 : Hid (Below w4.heap.size w4 (wC.drewN nq)) := Lib.hid (below_drewN B2.out nq)
      clear B2 x0 x1 x2
      generalize wC.drewN nq = wD at *
      go_wp2
      go_roundw
      case rel => exact ⟨i + 1, by omega, by go_num, B3⟩
      case measure => simp [intOf]; omega
    · obtain rfl : n = i := by omega
      clear hit
      have hit : ¬ n < n := by omega
      have T5 := Lib.hid (T4.out.next HB.out)
      have HP5 := Lib.hid (HP4.out.below HB.out)
      have HO5 := Lib.hid (HL14.out.below HB.out)
      clear T4 HL4 HP4 HL14 HB
      go_wp2_with fail
      obtain ⟨wB, hwB⟩ : ∃ W, W = wr := ⟨_, rfl⟩
      subst hwB
      go_loopw [13, 73] (fun s13 s73 wr => ∃ k : Nat, k ≤ np ∧ s73 = .int .i64 k ∧ Hid (Below wB.heap.size wB wr)) (fun _ s73 _ => np - (intOf s73).toNat)
      case atStart => exact ⟨0, by omega, rfl, Lib.hid (Below.refl _ _)⟩
      case round =>
        obtain ⟨k, hk, rfl, HB⟩ := hrel
        by_cases hlt : k < np
        · obtain ⟨p, hp⟩ : ∃ p, P[k]? = some p := ⟨_, List.getElem?_eq_getElem (by have := HM.out; omega)⟩
          obtain ⟨pb, po, rfl, -, hpb, rp⟩ := HP5.out.at hp
          have RP : Hid (wr.rangeAt pb (po + k * 3) p.row) := Lib.hid (rangeAt_same rp (HB.out.block pb hpb))
          obtain ⟨ha, hfu, i, v, hi', hv, hst, hsl⟩ := HSA.out.2 p (List.mem_of_getElem? hp)
          have hil := (List.getElem?_eq_some_iff.1 hv).1
          rw [HN.out.1] at hil
          obtain ⟨lb, lo, rfl, rl⟩ := (HO5.out.below HB.out).at hv
          have RL : Hid ((wr.alloc (.cells (cellsPy p) 51)).rangeAt lb (lo + i * 7) v.row) := Lib.hid (World.rangeAt_alloc rl _)
          have HPI := Lib.hid (And.intro hi' (And.intro hfu (And.intro hst hsl)))
          have e1 : decide ((i : Int) < 0) = false := decide_eq_false (by omega)
          have e2 : decide ((n : Int) ≤ (i : Int)) = false := decide_eq_false (by omega)
          have e3 : (p.am == 0) = false := by
            have : p.am ≠ 0 := by omega
            simpa using this
          have k1 : ¬ (k : Int) < 0 := by omega
          have k2 : ¬ (np : Int) ≤ (k : Int) := by omega
          have k3 : (k : Int) < (np : Int) := by omega
          have i1 : ¬ (i : Int) < 0 := by omega
          have i2 : ¬ (n : Int) ≤ (i : Int) := by omega
          have i3 : (i : Int) < (n : Int) := by omega
          have B1 : Hid (Below wB.heap.size wB (wr.alloc (.cells (cellsPy p) 51)) ∧ Blk (wr.alloc (.cells (cellsPy p) 51)) wr.heap.size 51 (cellsPy p)) := Lib.hid ⟨HB.out.alloc HB.out.size _, Blk.new _ _ _⟩
          clear hp rp hpb hi' hv hil ha hfu hst hsl rl HB
          go_upto_region 15 with (first | (refine wpList_load_Py rfl 51 _ rfl pb (po + k * 3) rfl p _ RP.out Try.underlying51 rfl infoPy ?_) | (refine wpList_store_row rfl _ _ _ rfl wr.heap.size (cellsPy p) rfl rfl 51 _ (Blk.new wr _ (cellsPy pyZ)) infoPy rfl (cellsPy_one _) ?_; rw [World.setRow_alloc_new]))
          generalize wr.alloc (.cells (cellsPy p) 51) = wC at *
          generalize wr.heap.size = pbx at *
          try simp only [Act.put]
          have x0 : wC.cell? ⟨pbx, 0, none⟩ = some (.int .i64 (i : Int)) := (B1.out.2.cell 0).trans (by rw [← HPI.out.1]; rfl)
          have x1 : wC.cell? ⟨pbx, 1, none⟩ = some (.int .u64 p.am) := B1.out.2.cell 1
          have x2 : wC.cell? ⟨pbx, 2, none⟩ = some (.bool false) := (B1.out.2.cell 2).trans (by rw [← HPI.out.2.1]; rfl)
          have y1 : wC.cell? ⟨lb, lo + i * 7 + 1, none⟩ = some (.int .i64 2) := by rw [← HPI.out.2.2.1]; exact RL.out 1 _ rfl
          have y2 : wC.cell? ⟨lb, lo + i * 7 + 2, none⟩ = some (.bool false) := by rw [← HPI.out.2.2.2]; exact RL.out 2 _ rfl
          have B2 := Lib.hid B1.out.1
          clear RP RL B1 HPI
          go_wp2
          go_roundw
          case rel => exact ⟨k + 1, by omega, by go_num, B2⟩
          case measure => simp [intOf]; omega
        · have hlt2 : ¬ (k : Int) < (np : Int) := by omega
          have T8 := Lib.hid (T5.out.next HB.out)
          have dP : decide ((np : Int) ≤ a2 16) = true := decide_eq_true HNP.out.1
          clear HB T5
          go_wp2_with fail
          refine (HV.out _).mono ?_
          rintro e w9 ⟨rfl, b9⟩
          have T9 := Lib.hid (T8.out.next b9)
          have x16 : w9.cell? ⟨w.heap.size, 16, none⟩ = some (.int .i64 (a2 16)) := T9.out.1.cell 16
          go_wp2
          go_ret
          exact ⟨rfl, T9.out.2⟩
theorem walk_PartialMinimum (a0 : Option Addr) (len0 cap0 : Nat) (a1 : Option Addr) (len1 cap1 : Nat) (a2 : Nat → Int) (w : World) (w0 : IsVals w a0 len0 cap0) (w1 : IsRqs w a1 len1 cap1) (w2 : Fits a2) :
    Calls Try.prog 6 #[.slice a0 len0 cap0, .slice a1 len1 cap1, .agg (cellsOf a2)] w fun e w' => e = .returned (.bool true) ∧ Below w.heap.size w w' := by
  by_cases h : chk a2 ≠ 0 ∨ 60 < len0 ∨ 60 < len1
  · exact bail_PartialMinimum a0 a1 len0 cap0 len1 cap1 a2 w h
  · have hc : chk a2 = 0 := by
      by_cases hc : chk a2 = 0
      · exact hc
      · exact absurd (.inl hc) h
    obtain ⟨-, -, l, hl, hf, hL⟩ := w0
    obtain ⟨-, -, q, hq, hfq, hQ⟩ := w1
    have hg := good_of_chk w2 hc
    subst hl hq
    exact good_PartialMinimum a0 a1 cap0 cap1 l q a2 w hc hg.1 hg.2 (by omega) (by omega) hf hfq hL hQ
end Go.Proofs.Ytbieokgdjhkebaa
