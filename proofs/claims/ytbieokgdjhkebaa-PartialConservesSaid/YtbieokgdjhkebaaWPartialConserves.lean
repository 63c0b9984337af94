/- The walk of PartialConserves (written by mklaws.py). -/
import Derived.Test.YtbieokgdjhkebaaTwo
namespace Go.Proofs.Ytbieokgdjhkebaa
open Go Go.RowKit Go.Deep
set_option linter.unusedVariables false
set_option linter.unusedSimpArgs false
set_option maxRecDepth 100000

set_option maxHeartbeats 800000 in
theorem bail_PartialConserves (a0 a1 : Option Addr) (len0 cap0 len1 cap1 : Nat) (a2 : Nat → Int) (w : World) (h : chk a2 ≠ 0 ∨ 60 < len0 ∨ 60 < len1) :
    Calls Try.prog 7 #[.slice a0 len0 cap0, .slice a1 len1 cap1, .agg (cellsOf a2)] w fun e w' => e = .returned (.bool true) ∧ Below w.heap.size w w' := by
  have T0 := Lib.hid (OneC.new w a2)
  have HK := Lib.hid (refCheck_any a2)
  have HV := Lib.hid alive_any
  by_cases hc : chk a2 = 0
  · rw [hc] at HK
    by_cases h1 : 60 < len0
    · have d1 : decide ((60 : Int) < (len0 : Int)) = true := decide_eq_true (by omega)
      clear h hc
      go_enter Try.func7, Try.ntmps7
      go_upto_region 1 with (fail)
      generalize w.alloc (.cells (cellsOf a2) 35) = W at *
      go_wp2_with (first | (refine wpList_load_row rfl 35 _ rfl w.heap.size rfl 35 _ (0, 0) _ T0.out.1 Try.underlying35 rfl info24 ?_))
      refine (HK.out _).mono ?_
      rintro e w1 ⟨rfl, b1⟩
      have T1 := Lib.hid (T0.out.next b1)
      clear b1 T0 HK
      go_wp2_with fail
      refine (HV.out _).mono ?_
      rintro e w2 ⟨rfl, b2⟩
      have T2 := Lib.hid (T1.out.next b2)
      clear b2 T1
      go_wp2
      go_ret
      exact ⟨rfl, T2.out.2⟩
    · have d1 : decide ((60 : Int) < (len0 : Int)) = false := decide_eq_false (by omega)
      have d2 : decide ((60 : Int) < (len1 : Int)) = true := decide_eq_true (by omega)
      clear h hc
      go_enter Try.func7, Try.ntmps7
      go_upto_region 1 with (fail)
      generalize w.alloc (.cells (cellsOf a2) 35) = W at *
      go_wp2_with (first | (refine wpList_load_row rfl 35 _ rfl w.heap.size rfl 35 _ (0, 0) _ T0.out.1 Try.underlying35 rfl info24 ?_))
      refine (HK.out _).mono ?_
      rintro e w1 ⟨rfl, b1⟩
      have T1 := Lib.hid (T0.out.next b1)
      clear b1 T0 HK
      go_wp2_with fail
      refine (HV.out _).mono ?_
      rintro e w2 ⟨rfl, b2⟩
      have T2 := Lib.hid (T1.out.next b2)
      clear b2 T1
      go_wp2
      go_ret
      exact ⟨rfl, T2.out.2⟩
  · have hn : (chk a2 != 0) = true := by simpa using hc
    generalize chk a2 = x at *
    clear hc h
    go_enter Try.func7, Try.ntmps7
    go_upto_region 1 with (fail)
    generalize w.alloc (.cells (cellsOf a2) 35) = W at *
    go_wp2_with (first | (refine wpList_load_row rfl 35 _ rfl w.heap.size rfl 35 _ (0, 0) _ T0.out.1 Try.underlying35 rfl info24 ?_))
    refine (HK.out _).mono ?_
    rintro e w1 ⟨rfl, b1⟩
    have T1 := Lib.hid (T0.out.next b1)
    clear b1 T0 HK
    go_wp2_with fail
    refine (HV.out _).mono ?_
    rintro e w2 ⟨rfl, b2⟩
    have T2 := Lib.hid (T1.out.next b2)
    clear b2 T1
    go_wp2
    go_ret
    exact ⟨rfl, T2.out.2⟩
set_option maxHeartbeats 3200000 in
theorem good_PartialConserves (a0 a1 : Option Addr) (cap0 cap1 : Nat) (l : List Val) (q : List Rq) (a2 : Nat → Int) (w : World) (hc : chk a2 = 0) (h5 : 0 ≤ a2 5) (h16 : 0 ≤ a2 16) (hl : l.length ≤ 60) (hql : q.length ≤ 60) (hf : ∀ v ∈ l, FitsV v) (hfq : ∀ r ∈ q, FitsRq r) (hL : Lst w (fun _ => False) a0 l) (hq : LstR Rq.row 2 w (fun _ => False) a1 q) :
    Calls Try.prog 7 #[.slice a0 l.length cap0, .slice a1 q.length cap1, .agg (cellsOf a2)] w fun e w' => e = .returned (.bool true) ∧ Below w.heap.size w w' := by
  have T0 := Lib.hid (OneC.new w a2)
  have HK := Lib.hid (refCheck_any a2)
  have HV := Lib.hid alive_any
  rw [hc] at HK
  have HS := Lib.hid (fun (cp cq : Nat) (a b : Option Addr) (w : World) (hL : Lst w (fun _ => False) a l) (hq : LstR Rq.row 2 w (fun _ => False) b q) (hcq : q.length ≤ cq) => step_any a b cp cq l q a2 w hL hq hf hfq h5 h16 hl hql hcq)
  have HQS := Lib.hid (fun (w : World) (hq : LstR Rq.row 2 w (fun _ => False) a1 q) => requests_any a1 cap1 q w hq (by omega))
  have d1 : decide ((60 : Int) < (l.length : Int)) = false := decide_eq_false (by omega)
  have d2 : decide ((60 : Int) < (q.length : Int)) = false := decide_eq_false (by omega)
  have HL := Lib.hid hL
  have HQ := Lib.hid hq
  have HSA := Lib.hid (step_all (a2 5) h5 (q.take (stepN a2 q)) l (fun r hr => hfq r (List.mem_of_mem_take hr)) hf)
  have HFL := Lib.hid hf
  have HBAL := Lib.hid (fun v hv => (stepL_fits (a2 5) h5 (q.take (stepN a2 q)) l (fun r hr => hfq r (List.mem_of_mem_take hr)) hf v hv).bal.1)
  have H5 := Lib.hid h5
  obtain ⟨m, hm⟩ : ∃ m, stepL (a2 5) l (q.take (stepN a2 q)) = m := ⟨_, rfl⟩
  obtain ⟨P, hP⟩ : ∃ P, stepP (a2 5) l (q.take (stepN a2 q)) = P := ⟨_, rfl⟩
  have hml := stepL_len (a2 5) (q.take (stepN a2 q)) l
  have hPl := stepP_len (a2 5) (q.take (stepN a2 q)) l
  have hnd : (q.take (stepN a2 q)).length = stepN a2 q ∧ stepN a2 q ≤ 60 ∧ (stepN a2 q : Int) ≤ a2 16 := by
    have h1 : stepN a2 q ≤ q.length := Nat.min_le_right _ _
    refine ⟨by rw [List.length_take]; omega, by omega, ?_⟩
    unfold stepN; omega
  rw [hnd.1] at hPl
  rw [hm] at hml HS HSA HBAL
  rw [hP] at hPl HS HSA
  generalize stepN a2 q = nd at *
  obtain ⟨n, hn⟩ : ∃ n, l.length = n := ⟨_, rfl⟩
  obtain ⟨nq, hnq⟩ : ∃ nq, q.length = nq := ⟨_, rfl⟩
  obtain ⟨np, hnp⟩ : ∃ np, P.length = np := ⟨_, rfl⟩
  have hnp2 : (np : Int) ≤ a2 16 := by omega
  have hnp60 : np ≤ 60 := by omega
  have HNP := Lib.hid (And.intro hnp2 hnp60)
  rw [hn] at hml HS d1 hl ⊢
  rw [hnq] at HS HQS d2 ⊢
  rw [hnp] at HS
  have HN := Lib.hid (And.intro hn hnq)
  have HM := Lib.hid (And.intro hml hnp)
  have dne : ((n : Int) != (n : Int)) = false := by simp
  clear hc hf hfq hL hq hn hnq hnp hql hml hPl hm hP hnd h5 h16 hnp2
  go_enter Try.func7, Try.ntmps7
  go_upto_region 1 with (fail)
  generalize w.alloc (.cells (cellsOf a2) 35) = W at *
  go_wp2_with (first | (refine wpList_load_row rfl 35 _ rfl w.heap.size rfl 35 _ (0, 0) _ T0.out.1 Try.underlying35 rfl info24 ?_))
  refine (HK.out _).mono ?_
  rintro e w1 ⟨rfl, b1⟩
  have T1 := Lib.hid (T0.out.next b1)
  clear b1 T0 HK
  have HL1 : Hid (Lst w1 (fun _ => False) a0 l) := Lib.hid (HL.out.below T1.out.2)
  go_wp2_with fail
  refine wp_region_first (fun w' => Blk w' w.heap.size 35 (cellsOf a2)) 11 8 [0, 1, 3] (by kernel_rfl) (by kernel_rfl) T1.out.1 ?_
  simp only [List.filterMap_cons, List.filterMap_nil, List.getElem?_toArray, List.getElem?_cons_zero, List.getElem?_cons_succ]
  show wpQuiet _ _ _ _ [_, _, _] _
  iterate 2 (go_big_quiet_step ((intros; rfl)))
  refine q_load 35 _ w.heap.size 35 (cellsOf a2) _ rfl rfl rfl (fun w' h => h) Try.underlying35 rfl info24 ?_
  simp only [Act.put, List.setIfInBounds_toArray, List.set_cons_zero, List.set_cons_succ]
  refine wpQuiet_nil ?_
  have TD := Lib.hid (T1.out.next (Below.refl _ w1).drew)
  have ZD : Hid (w1.heap.size ≤ w1.drew.heap.size) := Lib.hid (Nat.le_refl _)
  have HL1D := Lib.hid (HL1.out.below (Below.refl _ w1).drew)
  clear T1 HL1
  generalize w1.drew = wD at *
  refine headF_one (i := 2) (by kernel_rfl) (by omega) ?_
  refine wpOp_at rfl rfl (wp_call_at rfl #[.slice a1 nq cap1] (by kernel_rfl) Try.call17 ((HQS.out wD (HQ.out.below TD.out.2)).mono ?_))
  rintro e wE ⟨vE, rfl, hoE, bE⟩
  obtain ⟨ar, cr, rfl, hcr, -, hlr⟩ := ownsR_lst (S := fun _ => False) Rq.row_len hoE HN.out.2 (fun _ _ h => h)
  have TE := Lib.hid (TD.out.next bE)
  have ZE := Lib.hid (Nat.le_trans ZD.out bE.size)
  have HL1E := Lib.hid (HL1D.out.below bE)
  have HR := Lib.hid (And.intro hcr hlr)
  clear TD ZD bE hoE hcr hlr HQS HL1D
  refine ⟨_, rfl, TE.out.1, ?_⟩
  simp only [Act.put, List.getElem_toArray, List.getElem_cons_zero, List.getElem_cons_succ, List.setIfInBounds_toArray, List.set_cons_zero, List.set_cons_succ, List.drop_succ_cons, List.drop_zero]
  refine headF_one (i := 4) (by kernel_rfl) (by omega) ?_
  refine wpOp_at rfl rfl (wp_call_at rfl #[.slice a0 n cap0, .slice ar nq cr, .agg (cellsOf a2)] (by kernel_rfl) Try.call16 ((HS.out cap0 cr a0 ar wE HL1E.out HR.out.2 HR.out.1).mono ?_))
  rintro e w4 ⟨v4, p4, rfl, ho4, hp4, b4⟩
  obtain ⟨a4, cp4, rfl, -, -⟩ := owns_slice (owns_base ho4 (Nat.zero_le _))
  have HL4 : Hid (Lst w4 (fun _ => False) a4 m) := Lib.hid (by have := owns_lst (S := fun _ => False) (l := m) (by rw [HM.out.1]; exact owns_base ho4 (Nat.zero_le _)) (fun _ _ h => h); exact this)
  obtain ⟨ap, cq4, rfl, -, -, hp4'⟩ := ownsR_lst (S := fun _ => False) Py.row_len hp4 HM.out.2 (fun _ _ h => h)
  have HP4 := Lib.hid hp4'
  clear ho4 hp4 hp4' ZE
  have T4 := Lib.hid (TE.out.next b4)
  have HL14 := Lib.hid (HL1E.out.below b4)
  clear TE HR HS b4 HL1E
  refine ⟨_, rfl, T4.out.1, ?_⟩
  simp only [Act.put, List.getElem_toArray, List.getElem_cons_zero, List.getElem_cons_succ, List.setIfInBounds_toArray, List.set_cons_zero, List.set_cons_succ, List.drop_succ_cons, List.drop_zero]
  refine headF_takes (fun w' => Blk w' w.heap.size 35 (cellsOf a2)) (m := 6) (f := 0) [5, 6, 7, 8, 9, 10] (fun _ h => h) (by kernel_rfl) T4.out.1 ?_
  simp only [List.filterMap_cons, List.filterMap_nil, List.getElem?_toArray, List.getElem?_cons_zero, List.getElem?_cons_succ]
  show wpQuiet _ _ _ _ [_, _, _, _, _, _] _
  iterate 6 (go_big_quiet_step ((intros; rfl)))
  refine wpQuiet_nil ?_
  show Region.seqB _ _ _ _ _ = true ∧ _
  refine ⟨by kernel_rfl, ?_⟩
  simp only [Act.put, List.getElem_toArray, List.getElem_cons_zero, List.getElem_cons_succ, List.setIfInBounds_toArray, List.set_cons_zero, List.set_cons_succ, List.drop_succ_cons, List.drop_zero]
  go_wp2
  refine NoPanic.normal ?_
  have hzp : (#[.int .i64 0, .int .u64 0, .bool false] : Array Value) = cellsPy pyZ := rfl
  have hzv := valz_cells
  go_wp2_with fail
  go_loopw [11, 46] (fun s11 s46 wr => ∃ k : Nat, k ≤ np ∧ s46 = .int .i64 k ∧ Hid (Below w4.heap.size w4 wr)) (fun _ s46 _ => np - (intOf s46).toNat)
  case atStart => exact ⟨0, by omega, rfl, Lib.hid (Below.refl _ _)⟩
  case round =>
    obtain ⟨k, hk, rfl, HB⟩ := hrel
    by_cases hlt : k < np
    · obtain ⟨p, hp⟩ : ∃ p, P[k]? = some p := ⟨_, List.getElem?_eq_getElem (by have := HM.out; omega)⟩
      obtain ⟨pb, po, rfl, -, hpb, rp⟩ := HP4.out.at hp
      have RP : Hid (wr.rangeAt pb (po + k * 3) p.row) := Lib.hid (rangeAt_same rp (HB.out.block pb hpb))
      obtain ⟨-, -, i, v, hi, hv, -, -⟩ := HSA.out.2 p (List.mem_of_getElem? hp)
      have hil := (List.getElem?_eq_some_iff.1 hv).1
      rw [HN.out.1] at hil
      have e1 : decide (p.ix < 0) = false := decide_eq_false (by omega)
      have e2 : decide ((n : Int) ≤ p.ix) = false := decide_eq_false (by omega)
      have k1 : ¬ (k : Int) < 0 := by omega
      have k2 : ¬ (np : Int) ≤ (k : Int) := by omega
      have k3 : (k : Int) < (np : Int) := by omega
      have B1 : Hid (Below w4.heap.size w4 (wr.alloc (.cells (cellsPy p) 51)) ∧ Blk (wr.alloc (.cells (cellsPy p) 51)) wr.heap.size 51 (cellsPy p)) := Lib.hid ⟨HB.out.alloc HB.out.size _, Blk.new _ _ _⟩
      clear hp rp hpb hi hv hil
      go_upto_region 9 with (first | (refine wpList_load_Py rfl 51 _ rfl pb (po + k * 3) rfl p _ RP.out Try.underlying51 rfl infoPy ?_) | (refine wpList_store_row rfl _ _ _ rfl wr.heap.size (cellsPy p) rfl rfl 51 _ (Blk.new wr _ (cellsPy pyZ)) infoPy rfl (cellsPy_one _) ?_; rw [World.setRow_alloc_new]))
      generalize wr.alloc (.cells (cellsPy p) 51) = w5 at *
      generalize wr.heap.size = pbx at *
      try simp only [Act.put]
      have x0 : w5.cell? ⟨pbx, 0, none⟩ = some (.int .i64 p.ix) := B1.out.2.cell 0
      have B2 := Lib.hid B1.out.1
      clear RP HB B1
      go_wp2
      go_roundw
      case rel => exact ⟨k + 1, by omega, by go_num, B2⟩
      case measure => simp [intOf]; omega
    · obtain rfl : np = k := by omega
      clear hlt
      have hlt : ¬ np < np := by omega
      have T5 := Lib.hid (T4.out.next HB.out)
      have HL5 := Lib.hid (HL4.out.below HB.out)
      have HP5 := Lib.hid (HP4.out.below HB.out)
      have HO5 := Lib.hid (HL14.out.below HB.out)
      clear T4 HL4 HP4 HL14 HB
      go_wp2_with fail
      obtain ⟨wB, hwB⟩ : ∃ W, W = wr := ⟨_, rfl⟩
      subst hwB
      go_loopw [12, 13, 63] (fun s12 s13 s63 wr => ∃ i : Nat, i ≤ n ∧ s63 = .int .i64 i ∧ Hid (Below wB.heap.size wB wr)) (fun _ _ s63 _ => n - (intOf s63).toNat)
      case atStart => exact ⟨0, by omega, rfl, Lib.hid (Below.refl _ _)⟩
      case round =>
        obtain ⟨i, hi, rfl, HB⟩ := hrel
        by_cases hit : i < n
        · obtain ⟨v, hv⟩ : ∃ v, l[i]? = some v := ⟨_, List.getElem?_eq_getElem (by have := HN.out; omega)⟩
          obtain ⟨v', hv', hpd⟩ := HSA.out.1 i v hv
          obtain ⟨gb, go, rfl, rg⟩ := (HL5.out.below HB.out).at hv'
          obtain ⟨lb, lo, rfl, rl⟩ := HO5.out.at hv
          have hlb : lb < wB.heap.size := cell_lt (rl 0 _ rfl)
          have RG : Hid (wr.rangeAt gb (go + i * 7) v'.row) := Lib.hid rg
          have RL : Hid (wB.rangeAt lb (lo + i * 7) v.row ∧ lb < wB.heap.size) := Lib.hid ⟨rl, hlb⟩
          have fv := (HFL.out v (List.mem_of_getElem? hv)).bal
          have pam : ∀ p ∈ P, 0 < p.am := fun p hp => (HSA.out.2 p hp).1
          obtain ⟨hpe, hpx, -⟩ := hpd
          have HPT := Lib.hid (fun j => paidTo_take i pam j)
          have HEND : Hid ({ v' with bal := v'.bal + paidTo i P } = v) := Lib.hid (by rw [hpe]; simp)
          have HSUM : Hid (v'.bal + paidTo i P = v.bal ∧ 0 ≤ v'.bal ∧ v.bal ≤ 18446744073709551615) := Lib.hid (by
            have h1 : v'.bal = v.bal - paidTo i P := by rw [hpe]
            have f' : 0 ≤ v'.bal := by
              have hx := HBAL.out v' (List.mem_of_getElem? hv')
              exact hx
            exact ⟨by omega, f', fv.2⟩)
          have k1 : ¬ (i : Int) < 0 := by omega
          have k2 : ¬ (n : Int) ≤ (i : Int) := by omega
          have k3 : (i : Int) < (n : Int) := by omega
          have B1 : Hid (Below wB.heap.size wB (wr.alloc (.cells (cellsV v') 33)) ∧ Blk (wr.alloc (.cells (cellsV v') 33)) wr.heap.size 33 (cellsV v')) := Lib.hid ⟨HB.out.alloc HB.out.size _, Blk.new _ _ _⟩
          have NB : Hid (wB.heap.size ≤ wr.heap.size) := Lib.hid HB.out.size
          clear hv hv' rg rl hlb hpe hpx pam fv HB
          go_upto_region 15 with (first | (refine wpList_load_val rfl 33 _ rfl gb (go + i * 7) rfl v' _ RG.out Try.underlying33 rfl infoV ?_) | (refine wpList_store_row rfl _ _ _ rfl wr.heap.size (cellsV v') rfl rfl 33 _ (Blk.new wr _ (cellsV val0)) infoV rfl (cellsV_one _) ?_; rw [World.setRow_alloc_new]))
          generalize wr.alloc (.cells (cellsV v') 33) = wC at *
          generalize wr.heap.size = vb at *
          try simp only [Act.put]
          clear RG
          go_wp2_with fail
          go_loopw [15, 70] (fun s15 s70 wr => ∃ k : Nat, k ≤ np ∧ s70 = .int .i64 k ∧ Hid (Below wB.heap.size wB wr ∧ Blk wr vb 33 (cellsV { v' with bal := v'.bal + paidTo i (P.take k) }))) (fun _ s70 _ => np - (intOf s70).toNat)
          case atStart => exact ⟨0, by omega, rfl, Lib.hid ⟨B1.out.1, by simpa [paidTo] using B1.out.2⟩⟩
          case round =>
            obtain ⟨k, hk, rfl, HC⟩ := hrel
            clear B1
            by_cases hlt2 : k < np
            · obtain ⟨p, hp⟩ : ∃ p, P[k]? = some p := ⟨_, List.getElem?_eq_getElem (by have := HM.out; omega)⟩
              obtain ⟨pb, po, rfl, -, hpb, rp⟩ := (HP5.out.below HC.out.1).at hp
              have RP : Hid (wr.rangeAt pb (po + k * 3) p.row) := Lib.hid rp
              have j1 : ¬ (k : Int) < 0 := by omega
              have j2 : ¬ (np : Int) ≤ (k : Int) := by omega
              have j3 : (k : Int) < (np : Int) := by omega
              have SN := Lib.hid (paidTo_snoc i hp)
              obtain ⟨b, hb⟩ : ∃ b, v'.bal + paidTo i (P.take k) = b := ⟨_, rfl⟩
              have D1 : Hid (Below wB.heap.size wB (wr.alloc (.cells (cellsPy p) 51)) ∧ Blk (wr.alloc (.cells (cellsPy p) 51)) wr.heap.size 51 (cellsPy p) ∧ Blk (wr.alloc (.cells (cellsPy p) 51)) vb 33 (cellsV { v' with bal := b })) := Lib.hid ⟨HC.out.1.alloc HC.out.1.size _, Blk.new _ _ _, by rw [← hb]; exact HC.out.2.alloc _⟩
              clear rp hpb hp
              by_cases he : p.ix = (i : Int)
              · have e1 : (p.ix == (i : Int)) = true := by simpa using he
                obtain ⟨t, ht⟩ : ∃ t, b + p.am = t := ⟨_, rfl⟩
                have hs := SN.out
                rw [if_pos he] at hs
                have hw : IntKind.u64.wrap (b + p.am) = t := by
                  have h1 := HPT.out (k + 1)
                  have h2 := HSUM.out
                  rw [ht]
                  have h3 : 0 ≤ t := by omega
                  have h4 : t ≤ 18446744073709551615 := by omega
                  simp [IntKind.wrap, IntKind.signed, IntKind.bits]; omega
                have HT : Hid (v'.bal + paidTo i (P.take (k + 1)) = t) := Lib.hid (by rw [hs, ← ht, ← hb]; omega)
                clear hb ht hs SN he HC
                go_upto_region 18 with (first | (refine wpList_load_Py rfl 51 _ rfl pb (po + k * 3) rfl p _ RP.out Try.underlying51 rfl infoPy ?_) | (refine wpList_store_row rfl _ _ _ rfl wr.heap.size (cellsPy p) rfl rfl 51 _ (Blk.new wr _ (cellsPy pyZ)) infoPy rfl (cellsPy_one _) ?_; rw [World.setRow_alloc_new]))
                generalize wr.alloc (.cells (cellsPy p) 51) = wD at *
                generalize wr.heap.size = pbx at *
                try simp only [Act.put]
                have x0 : wD.cell? ⟨pbx, 0, none⟩ = some (.int .i64 p.ix) := D1.out.2.1.cell 0
                have x1 : wD.cell? ⟨pbx, 1, none⟩ = some (.int .u64 p.am) := D1.out.2.1.cell 1
                have y0 : wD.cell? ⟨vb, 0, none⟩ = some (.int .u64 b) := D1.out.2.2.cell 0
                have f0 := D1.out.2.2.frozen 0
                have D2 : Hid (Below wB.heap.size wB (wD.setCell ⟨vb, 0, none⟩ (.int .u64 t)) ∧ Blk (wD.setCell ⟨vb, 0, none⟩ (.int .u64 t)) vb 33 (cellsV { v' with bal := v'.bal + paidTo i (P.take (k + 1)) })) := Lib.hid ⟨D1.out.1.setCell NB.out _, by
                  have h := D1.out.2.2.set_ 0 (.int .u64 t)
                  rw [HT.out]
                  exact h⟩
                clear D1 RP HT
                go_upto_region 20 with (fail)
                generalize wD.setCell ⟨vb, 0, none⟩ (.int .u64 t) = wE at *
                clear x0 x1 y0 f0
                try simp only [Act.put]
                go_wp2
                go_roundw
                case rel => exact ⟨k + 1, by omega, by go_num, D2⟩
                case measure => simp [intOf]; omega
              · have e1 : (p.ix == (i : Int)) = false := by simpa using he
                have hs := SN.out
                rw [if_neg he] at hs
                have HT : Hid (v'.bal + paidTo i (P.take (k + 1)) = b) := Lib.hid (by rw [hs, ← hb]; omega)
                clear hb hs SN he HC
                go_upto_region 18 with (first | (refine wpList_load_Py rfl 51 _ rfl pb (po + k * 3) rfl p _ RP.out Try.underlying51 rfl infoPy ?_) | (refine wpList_store_row rfl _ _ _ rfl wr.heap.size (cellsPy p) rfl rfl 51 _ (Blk.new wr _ (cellsPy pyZ)) infoPy rfl (cellsPy_one _) ?_; rw [World.setRow_alloc_new]))
                generalize wr.alloc (.cells (cellsPy p) 51) = wD at *
                generalize wr.heap.size = pbx at *
                try simp only [Act.put]
                have x0 : wD.cell? ⟨pbx, 0, none⟩ = some (.int .i64 p.ix) := D1.out.2.1.cell 0
                have D2 : Hid (Below wB.heap.size wB wD ∧ Blk wD vb 33 (cellsV { v' with bal := v'.bal + paidTo i (P.take (k + 1)) })) := Lib.hid ⟨D1.out.1, by rw [HT.out]; exact D1.out.2.2⟩
                clear D1 RP HT
                go_wp2
                go_roundw
                case rel => exact ⟨k + 1, by omega, by go_num, D2⟩
                case measure => simp [intOf]; omega
            · obtain rfl : np = k := by omega
              clear hlt2
              have hlt2 : ¬ np < np := by omega
              have D1 : Hid (Below wB.heap.size wB wr ∧ Blk wr vb 33 (cellsV v)) := Lib.hid ⟨HC.out.1, by
                have h := HC.out.2
                rw [List.take_of_length_le (by rw [HM.out.2]; exact Nat.le_refl _), HEND.out] at h
                exact h⟩
              have RL2 : Hid (wr.rangeAt lb (lo + i * 7) v.row) := Lib.hid (World.rangeAt.same RL.out.1 (HC.out.1.block lb RL.out.2))
              clear HC HEND HSUM HPT RL
              go_wp2_with fail
              refine wp_region_class (fun w' => ∃ q, w' = wr.drewN q) (by kernel_rfl) (by kernel_rfl) ⟨1, rfl⟩ ?_
              refine q_load_val 33 _ vb 0 v _ rfl rfl rfl (fun w h => by obtain ⟨q, rfl⟩ := h; exact D1.out.2.range) Try.underlying33 rfl infoV ?_
              simp only [Act.put, List.setIfInBounds_toArray, List.set_cons_zero, List.set_cons_succ]
              iterate 3 (go_big_quiet_step ((intros; rfl)))
              refine q_load_val 33 _ lb (lo + i * 7) v _ rfl rfl rfl (fun w h => by obtain ⟨q, rfl⟩ := h; exact RL2.out) Try.underlying33 rfl infoV ?_
              simp only [Act.put, List.setIfInBounds_toArray, List.set_cons_zero, List.set_cons_succ]
              refine q_nev v v false rfl rfl rfl (by simp) ?_
              simp only [Act.put, List.setIfInBounds_toArray, List.set_cons_zero, List.set_cons_succ]
              refine wpQuiet_nil ?_
              intro _ hw'
              obtain ⟨q', hw''⟩ := hw'
              subst hw''
              have B3 : Hid (Below wB.heap.size wB (wr.drewN q')) := Lib.hid (below_drewN D1.out.1 q')
              clear D1 RL2
              generalize wr.drewN q' = wE at *
              go_wp2
              go_roundw
              case rel => exact ⟨i + 1, by omega, by go_num, B3⟩
              case measure => simp [intOf]; omega
        · have hit2 : ¬ (i : Int) < (n : Int) := by omega
          have T8 := Lib.hid (T5.out.next HB.out)
          clear HB T5
          go_wp2_with fail
          refine (HV.out _).mono ?_
          rintro e w9 ⟨rfl, b9⟩
          have T9 := Lib.hid (T8.out.next b9)
          go_wp2
          go_ret
          exact ⟨rfl, T9.out.2⟩
theorem walk_PartialConserves (a0 : Option Addr) (len0 cap0 : Nat) (a1 : Option Addr) (len1 cap1 : Nat) (a2 : Nat → Int) (w : World) (w0 : IsVals w a0 len0 cap0) (w1 : IsRqs w a1 len1 cap1) (w2 : Fits a2) :
    Calls Try.prog 7 #[.slice a0 len0 cap0, .slice a1 len1 cap1, .agg (cellsOf a2)] w fun e w' => e = .returned (.bool true) ∧ Below w.heap.size w w' := by
  by_cases h : chk a2 ≠ 0 ∨ 60 < len0 ∨ 60 < len1
  · exact bail_PartialConserves a0 a1 len0 cap0 len1 cap1 a2 w h
  · have hc : chk a2 = 0 := by
      by_cases hc : chk a2 = 0
      · exact hc
      · exact absurd (.inl hc) h
    obtain ⟨-, -, l, hl, hf, hL⟩ := w0
    obtain ⟨-, -, q, hq, hfq, hQ⟩ := w1
    have hg := good_of_chk w2 hc
    subst hl hq
    exact good_PartialConserves a0 a1 cap0 cap1 l q a2 w hc hg.1 hg.2 (by omega) (by omega) hf hfq hL hQ
end Go.Proofs.Ytbieokgdjhkebaa
