/- The walk of PartialSteps (written by mklaws.py). -/
import Derived.Test.YtbieokgdjhkebaaTwo
namespace Go.Proofs.Ytbieokgdjhkebaa
open Go Go.RowKit Go.Deep
set_option linter.unusedVariables false
set_option linter.unusedSimpArgs false
set_option maxRecDepth 100000

set_option maxHeartbeats 800000 in
theorem bail_PartialSteps (a0 a1 : Option Addr) (len0 cap0 len1 cap1 : Nat) (a2 : Nat → Int) (w : World) (h : chk a2 ≠ 0 ∨ 60 < len0 ∨ 60 < len1) :
    Calls Try.prog 5 #[.slice a0 len0 cap0, .slice a1 len1 cap1, .agg (cellsOf a2)] w fun e w' => e = .returned (.bool true) ∧ Below w.heap.size w w' := by
  have T0 := Lib.hid (OneC.new w a2)
  have HK := Lib.hid (refCheck_any a2)
  have HV := Lib.hid alive_any
  by_cases hc : chk a2 = 0
  · rw [hc] at HK
    by_cases h1 : 60 < len0
    · have d1 : decide ((60 : Int) < (len0 : Int)) = true := decide_eq_true (by omega)
      clear h hc
      go_enter Try.func5, Try.ntmps5
      go_upto_region 1 with (fail)
      generalize w.alloc (.cells (cellsOf a2) 35) = W at *
      go_wp2_with (first | (refine wpList_load_row rfl 35 _ rfl w.heap.size rfl 35 _ (0, 0) _ T0.out.1 Try.underlying35 rfl info24 ?_))
      refine (HK.out _).mono ?_
      rintro e w1 ⟨rfl, b1⟩
      have T1 := Lib.hid (T0.out.next b1)
      clear b1 T0 HK
      go_wp2_with fail
      refine (HV.out _).mono ?_
      rintro e w2 ⟨rfl, b2⟩
      have T2 := Lib.hid (T1.out.next b2)
      clear b2 T1
      go_wp2
      go_ret
      exact ⟨rfl, T2.out.2⟩
    · have d1 : decide ((60 : Int) < (len0 : Int)) = false := decide_eq_false (by omega)
      have d2 : decide ((60 : Int) < (len1 : Int)) = true := decide_eq_true (by omega)
      clear h hc
      go_enter Try.func5, Try.ntmps5
      go_upto_region 1 with (fail)
      generalize w.alloc (.cells (cellsOf a2) 35) = W at *
      go_wp2_with (first | (refine wpList_load_row rfl 35 _ rfl w.heap.size rfl 35 _ (0, 0) _ T0.out.1 Try.underlying35 rfl info24 ?_))
      refine (HK.out _).mono ?_
      rintro e w1 ⟨rfl, b1⟩
      have T1 := Lib.hid (T0.out.next b1)
      clear b1 T0 HK
      go_wp2_with fail
      refine (HV.out _).mono ?_
      rintro e w2 ⟨rfl, b2⟩
      have T2 := Lib.hid (T1.out.next b2)
      clear b2 T1
      go_wp2
      go_ret
      exact ⟨rfl, T2.out.2⟩
  · have hn : (chk a2 != 0) = true := by simpa using hc
    generalize chk a2 = x at *
    clear hc h
    go_enter Try.func5, Try.ntmps5
    go_upto_region 1 with (fail)
    generalize w.alloc (.cells (cellsOf a2) 35) = W at *
    go_wp2_with (first | (refine wpList_load_row rfl 35 _ rfl w.heap.size rfl 35 _ (0, 0) _ T0.out.1 Try.underlying35 rfl info24 ?_))
    refine (HK.out _).mono ?_
    rintro e w1 ⟨rfl, b1⟩
    have T1 := Lib.hid (T0.out.next b1)
    clear b1 T0 HK
    go_wp2_with fail
    refine (HV.out _).mono ?_
    rintro e w2 ⟨rfl, b2⟩
    have T2 := Lib.hid (T1.out.next b2)
    clear b2 T1
    go_wp2
    go_ret
    exact ⟨rfl, T2.out.2⟩
set_option maxHeartbeats 3200000 in
theorem none_PartialSteps (a0 a1 : Option Addr) (cap0 cap1 : Nat) (l : List Val) (q : List Rq) (a2 : Nat → Int) (w : World) (hc : chk a2 = 0) (h5 : 0 ≤ a2 5) (h16 : 0 ≤ a2 16) (hl : l.length ≤ 60) (hql : q.length ≤ 60) (hf : ∀ v ∈ l, FitsV v) (hfq : ∀ r ∈ q, FitsRq r) (hL : Lst w (fun _ => False) a0 l) (hq : LstR Rq.row 2 w (fun _ => False) a1 q) (hn0 : l.length = 0) :
    Calls Try.prog 5 #[.slice a0 l.length cap0, .slice a1 q.length cap1, .agg (cellsOf a2)] w fun e w' => e = .returned (.bool true) ∧ Below w.heap.size w w' := by
  have T0 := Lib.hid (OneC.new w a2)
  have HK := Lib.hid (refCheck_any a2)
  have HV := Lib.hid alive_any
  rw [hc] at HK
  have HS := Lib.hid (fun (cp cq : Nat) (a b : Option Addr) (w : World) (hL : Lst w (fun _ => False) a l) (hq : LstR Rq.row 2 w (fun _ => False) b q) (hcq : q.length ≤ cq) => step_any a b cp cq l q a2 w hL hq hf hfq h5 h16 hl hql hcq)
  have HQS := Lib.hid (fun (w : World) (hq : LstR Rq.row 2 w (fun _ => False) a1 q) => requests_any a1 cap1 q w hq (by omega))
  have HRS := Lib.hid (fun (cp cq : Nat) (w : World) (hL : Lst w (fun _ => False) a0 l) (hq : LstR Rq.row 2 w (fun _ => False) a1 q) => refstep_any a0 a1 cp cq l q a2 w hL hq hf hfq h5 h16 hl hql)
  have d1 : decide ((60 : Int) < (l.length : Int)) = false := decide_eq_false (by omega)
  have d2 : decide ((60 : Int) < (q.length : Int)) = false := decide_eq_false (by omega)
  have HL := Lib.hid (hL.more (T := fun i => w.heap.size ≤ i) (fun i h1 h2 => by omega))
  have HQ := Lib.hid hq
  obtain ⟨m, hm⟩ : ∃ m, stepL (a2 5) l (q.take (stepN a2 q)) = m := ⟨_, rfl⟩
  obtain ⟨P, hP⟩ : ∃ P, stepP (a2 5) l (q.take (stepN a2 q)) = P := ⟨_, rfl⟩
  have hml := stepL_len (a2 5) (q.take (stepN a2 q)) l
  have hPl := stepP_len (a2 5) (q.take (stepN a2 q)) l
  have hnd : (q.take (stepN a2 q)).length = stepN a2 q ∧ stepN a2 q ≤ 60 ∧ (stepN a2 q : Int) ≤ a2 16 := by
    have h1 : stepN a2 q ≤ q.length := Nat.min_le_right _ _
    refine ⟨by rw [List.length_take]; omega, by omega, ?_⟩
    unfold stepN; omega
  rw [hnd.1] at hPl
  rw [hm] at hml HS HRS
  rw [hP] at hPl HS HRS
  generalize stepN a2 q = nd at *
  have HEQ := Lib.hid (fun (a b : Option Addr) (cp cq : Nat) (w : World) (h : Lst w (fun _ => False) a m) (h2 : Lst w (fun _ => False) b m) => same_any (fun _ => False) (fun _ => False) a b cp cq m w h h2 (by omega))
  have HEP := Lib.hid (fun (a b : Option Addr) (cp cq : Nat) (w : World) (h : LstR Py.row 3 w (fun _ => False) a P) (h2 : LstR Py.row 3 w (fun _ => False) b P) => equal_pays (fun _ => False) (fun _ => False) a b cp cq P w h h2 (by omega))
  have HEL := Lib.hid (fun (S T : Nat → Prop) (a b : Option Addr) (cp cq : Nat) (w : World) (h : Lst w S a l) (h2 : Lst w T b l) => same_any S T a b cp cq l w h h2 (by omega))
  have HLEN := Lib.hid (flat_len l)
  obtain ⟨j0, hj0, hz0, hs0, hby0⟩ := val_app
  obtain ⟨n, hn⟩ : ∃ n, l.length = n := ⟨_, rfl⟩
  obtain ⟨nq, hnq⟩ : ∃ nq, q.length = nq := ⟨_, rfl⟩
  obtain ⟨np, hnp⟩ : ∃ np, P.length = np := ⟨_, rfl⟩
  rw [hml] at HEQ
  rw [hn] at hml HS HRS HEQ HEL HLEN d1 hn0 hl ⊢
  rw [hnq] at HS HRS HQS d2 ⊢
  rw [hnp] at HS HRS HEP
  have HN := Lib.hid (And.intro hn hnq)
  have HM := Lib.hid (And.intro hml hnp)
  have dne : ((nd : Int) != (nd : Int)) = false := by simp
  clear hc hf hfq hL hq hn hnq hnp hql hml hPl hm hP hnd h5 h16
  have HN0 := Lib.hid hn0
  clear hn0
  go_enter Try.func5, Try.ntmps5
  go_upto_region 1 with (fail)
  generalize w.alloc (.cells (cellsOf a2) 35) = W at *
  go_wp2_with (first | (refine wpList_load_row rfl 35 _ rfl w.heap.size rfl 35 _ (0, 0) _ T0.out.1 Try.underlying35 rfl info24 ?_))
  refine (HK.out _).mono ?_
  rintro e w1 ⟨rfl, b1⟩
  have T1 := Lib.hid (T0.out.next b1)
  clear b1 T0 HK
  have HL1 : Hid (Lst w1 (fun _ => False) a0 l) := Lib.hid ((HL.out.below T1.out.2).more (fun _ _ h => h.elim))
  go_upto_region 4 with (at_builtin; refine wpList_append_src _ rfl (.tmp 29) (.tmp 30) 22 rfl w1.heap.size 33 j0 _ 7 56 Try.underlying22 hj0 hz0 hs0 hby0 (cellsV_size _) (by omega) (.slice (some ⟨w1.heap.size, 0, none⟩) 0 0) 0 [] rfl (owns_empty (Blk.new w1 _ _) (Nat.le_refl _)) a0 n cap0 (flat l) rfl (by rw [HLEN.out]) (fun h0 => lst_src HL1.out ((Below.refl _ _).alloc (Nat.le_refl _) _) (by rw [HN.out.1]; exact h0)) flat_mem (by unfold maxLen; omega) (by omega) (by simp) ?_; intro u2 w2 ho hg hv)
  have b2 : Below w1.heap.size w1 w2 := below_only ((Below.refl _ w1).alloc (Nat.le_refl _) _) (g := w1.heap.size) hg (by simp) (Nat.le_refl _)
  have ho' : w2.ownsRow w1.heap.size 33 7 u2 n (flat l) := by simpa using ho
  obtain ⟨ao, cpo, rfl, -, -⟩ := owns_slice (owns_base ho' (Nat.zero_le _))
  have T2 := Lib.hid (T1.out.next b2)
  have HO : Hid (Lst w2 (fun i => w2.heap.size ≤ i) ao l) := Lib.hid (by have := owns_lst (S := fun i => w2.heap.size ≤ i) (l := l) (by rw [HN.out.1]; exact owns_base ho' (Nat.zero_le _)) (fun i hi => by rw [HN.out.1] at hi; have := (ho'.lt i hi).2; omega); exact this)
  clear ho hg hv b2 ho' T1 HL1 hj0 hz0 hs0 hby0
  try simp only [Act.put]
  refine wp_region_first (fun w' => Blk w' w.heap.size 35 (cellsOf a2)) 11 8 [0, 1, 3] (by kernel_rfl) (by kernel_rfl) T2.out.1 ?_
  simp only [List.filterMap_cons, List.filterMap_nil, List.getElem?_toArray, List.getElem?_cons_zero, List.getElem?_cons_succ]
  show wpQuiet _ _ _ _ [_, _, _] _
  iterate 2 (go_big_quiet_step ((intros; rfl)))
  refine q_load 35 _ w.heap.size 35 (cellsOf a2) _ rfl rfl rfl (fun w' h => h) Try.underlying35 rfl info24 ?_
  simp only [Act.put, List.setIfInBounds_toArray, List.set_cons_zero, List.set_cons_succ]
  refine wpQuiet_nil ?_
  have TD := Lib.hid (T2.out.next (Below.refl _ w2).drew)
  have ZD : Hid (w2.heap.size ≤ w2.drew.heap.size) := Lib.hid (Nat.le_refl _)
  have HOD := Lib.hid (HO.out.below (Below.refl _ w2).drew)
  clear T2 HO
  generalize w2.drew = wD at *
  refine headF_one (i := 2) (by kernel_rfl) (by omega) ?_
  refine wpOp_at rfl rfl (wp_call_at rfl #[.slice a1 nq cap1] (by kernel_rfl) Try.call17 ((HQS.out wD (HQ.out.below TD.out.2)).mono ?_))
  rintro e wE ⟨vE, rfl, hoE, bE⟩
  obtain ⟨ar, cr, rfl, hcr, -, hlr⟩ := ownsR_lst (S := fun _ => False) Rq.row_len hoE HN.out.2 (fun _ _ h => h)
  have TE := Lib.hid (TD.out.next bE)
  have ZE := Lib.hid (Nat.le_trans ZD.out bE.size)
  have HOE := Lib.hid (HOD.out.below bE)
  have HR := Lib.hid (And.intro hcr hlr)
  clear TD ZD bE hoE hcr hlr HQS HOD
  refine ⟨_, rfl, TE.out.1, ?_⟩
  simp only [Act.put, List.getElem_toArray, List.getElem_cons_zero, List.getElem_cons_succ, List.setIfInBounds_toArray, List.set_cons_zero, List.set_cons_succ, List.drop_succ_cons, List.drop_zero]
  refine headF_one (i := 4) (by kernel_rfl) (by omega) ?_
  refine wpOp_at rfl rfl (wp_call_at rfl #[.slice ao n cpo, .slice ar nq cr, .agg (cellsOf a2)] (by kernel_rfl) Try.call16 ((HS.out cpo cr ao ar wE (HOE.out.more (fun _ _ h => h.elim)) HR.out.2 HR.out.1).mono ?_))
  rintro e w4 ⟨v4, p4, rfl, ho4, hp4, b4⟩
  obtain ⟨a4, cp4, rfl, -, -⟩ := owns_slice (owns_base ho4 (Nat.zero_le _))
  have HL4 : Hid (Lst w4 (fun _ => False) a4 m) := Lib.hid (by have := owns_lst (S := fun _ => False) (l := m) (by rw [HM.out.1]; exact owns_base ho4 (Nat.zero_le _)) (fun _ _ h => h); exact this)
  obtain ⟨ap, cq4, rfl, -, -, hp4'⟩ := ownsR_lst (S := fun _ => False) Py.row_len hp4 HM.out.2 (fun _ _ h => h)
  have HP4 := Lib.hid hp4'
  clear ho4 hp4 hp4' ZE
  have T4 := Lib.hid (TE.out.next b4)
  have HO4 := Lib.hid (HOE.out.below b4)
  clear TE HR HS b4 HOE
  refine ⟨_, rfl, T4.out.1, ?_⟩
  simp only [Act.put, List.getElem_toArray, List.getElem_cons_zero, List.getElem_cons_succ, List.setIfInBounds_toArray, List.set_cons_zero, List.set_cons_succ, List.drop_succ_cons, List.drop_zero]
  refine headF_takes (fun w' => Blk w' w.heap.size 35 (cellsOf a2)) (m := 6) (f := 0) [5, 6, 7, 8, 9, 10] (fun _ h => h) (by kernel_rfl) T4.out.1 ?_
  simp only [List.filterMap_cons, List.filterMap_nil, List.getElem?_toArray, List.getElem?_cons_zero, List.getElem?_cons_succ]
  show wpQuiet _ _ _ _ [_, _, _, _, _, _] _
  iterate 6 (go_big_quiet_step ((intros; rfl)))
  refine wpQuiet_nil ?_
  show Region.seqB _ _ _ _ _ = true ∧ _
  refine ⟨by kernel_rfl, ?_⟩
  simp only [Act.put, List.getElem_toArray, List.getElem_cons_zero, List.getElem_cons_succ, List.setIfInBounds_toArray, List.set_cons_zero, List.set_cons_succ, List.drop_succ_cons, List.drop_zero]
  go_wp2
  refine NoPanic.normal ?_
  go_wp2_with (first | (refine wpList_load_row rfl 35 _ rfl w.heap.size rfl 35 _ (0, 0) _ T4.out.1 Try.underlying35 rfl info24 ?_))
  refine (HRS.out cap0 cap1 w4 ((HL.out.below T4.out.2).more (fun _ _ h => h.elim)) (HQ.out.below T4.out.2)).mono ?_
  rintro e w5 ⟨u5, q5, rfl, ho5, hp5, b5⟩
  have T5 := Lib.hid (T4.out.next b5)
  obtain ⟨a5, cp5, rfl, -, -⟩ := owns_slice (owns_base ho5 (Nat.zero_le _))
  have HL5 : Hid (Lst w5 (fun _ => False) a5 m) := Lib.hid (by have := owns_lst (S := fun _ => False) (l := m) (by rw [HM.out.1]; exact owns_base ho5 (Nat.zero_le _)) (fun _ _ h => h); exact this)
  obtain ⟨aq, cq5, rfl, -, -, hp5'⟩ := ownsR_lst (S := fun _ => False) Py.row_len hp5 HM.out.2 (fun _ _ h => h)
  have HG5 := Lib.hid (And.intro (HL4.out.below b5) (And.intro (HP4.out.below b5) (And.intro hp5' (HO4.out.below b5))))
  clear b5 T4 HRS ho5 hp5 hp5' HL4 HP4 HO4
  go_wp2_with fail
  refine (HEQ.out a4 a5 cp4 cp5 w5 HG5.out.1 HL5.out).mono ?_
  rintro e w6 ⟨rfl, n5, rfl⟩
  go_wp2_with fail
  refine (HEP.out ap aq cq4 cq5 (w5.drewN n5) HG5.out.2.1 HG5.out.2.2.1).mono ?_
  rintro e w6 ⟨rfl, n6, rfl⟩
  have T6 : Hid (OneC w ((w5.drewN n5).drewN n6) a2) := Lib.hid ⟨T5.out.1, below_drewN (below_drewN T5.out.2 n5) n6⟩
  have HO6 : Hid (Lst ((w5.drewN n5).drewN n6) (fun i => w2.heap.size ≤ i) ao l) := Lib.hid HG5.out.2.2.2
  clear T5 HG5 HL5 HEQ HEP
  generalize (w5.drewN n5).drewN n6 = w7 at *
  go_wp2_with fail
  go_loopw [14, 66] (fun s14 s66 wr => ∃ k : Nat, k ≤ n ∧ s66 = .int .i64 k ∧ wr = w7) (fun _ s66 _ => n - (intOf s66).toNat)
  case atStart => exact ⟨0, by omega, rfl, rfl⟩
  case round =>
    obtain ⟨k, hk, rfl, rfl⟩ := hrel
    have hlt : ¬ (k : Int) < (n : Int) := by have := HN0.out; omega
    go_wp2_with fail
    refine (HV.out _).mono ?_
    rintro e w8 ⟨rfl, b8⟩
    have T8 := Lib.hid (T6.out.next b8)
    have HO8 := Lib.hid (HO6.out.below b8)
    clear b8 T6 HO6
    go_wp2_with fail
    refine (HEL.out _ _ ao a0 cpo cap0 w8 HO8.out (HL.out.below T8.out.2)).mono ?_
    rintro e w9 ⟨rfl, n9, rfl⟩
    go_wp2_with fail
    go_ret
    exact ⟨rfl, below_drewN T8.out.2 n9⟩
set_option maxHeartbeats 3200000 in
theorem some_PartialSteps (a0 a1 : Option Addr) (cap0 cap1 : Nat) (l : List Val) (q : List Rq) (a2 : Nat → Int) (w : World) (hc : chk a2 = 0) (h5 : 0 ≤ a2 5) (h16 : 0 ≤ a2 16) (hl : l.length ≤ 60) (hql : q.length ≤ 60) (hf : ∀ v ∈ l, FitsV v) (hfq : ∀ r ∈ q, FitsRq r) (hL : Lst w (fun _ => False) a0 l) (hq : LstR Rq.row 2 w (fun _ => False) a1 q) (hn0 : 0 < l.length) :
    Calls Try.prog 5 #[.slice a0 l.length cap0, .slice a1 q.length cap1, .agg (cellsOf a2)] w fun e w' => e = .returned (.bool true) ∧ Below w.heap.size w w' := by
  have T0 := Lib.hid (OneC.new w a2)
  have HK := Lib.hid (refCheck_any a2)
  have HV := Lib.hid alive_any
  rw [hc] at HK
  have HS := Lib.hid (fun (cp cq : Nat) (a b : Option Addr) (w : World) (hL : Lst w (fun _ => False) a l) (hq : LstR Rq.row 2 w (fun _ => False) b q) (hcq : q.length ≤ cq) => step_any a b cp cq l q a2 w hL hq hf hfq h5 h16 hl hql hcq)
  have HQS := Lib.hid (fun (w : World) (hq : LstR Rq.row 2 w (fun _ => False) a1 q) => requests_any a1 cap1 q w hq (by omega))
  have HRS := Lib.hid (fun (cp cq : Nat) (w : World) (hL : Lst w (fun _ => False) a0 l) (hq : LstR Rq.row 2 w (fun _ => False) a1 q) => refstep_any a0 a1 cp cq l q a2 w hL hq hf hfq h5 h16 hl hql)
  have d1 : decide ((60 : Int) < (l.length : Int)) = false := decide_eq_false (by omega)
  have d2 : decide ((60 : Int) < (q.length : Int)) = false := decide_eq_false (by omega)
  have HL := Lib.hid (hL.more (T := fun i => w.heap.size ≤ i) (fun i h1 h2 => by omega))
  have HQ := Lib.hid hq
  obtain ⟨m, hm⟩ : ∃ m, stepL (a2 5) l (q.take (stepN a2 q)) = m := ⟨_, rfl⟩
  obtain ⟨P, hP⟩ : ∃ P, stepP (a2 5) l (q.take (stepN a2 q)) = P := ⟨_, rfl⟩
  have hml := stepL_len (a2 5) (q.take (stepN a2 q)) l
  have hPl := stepP_len (a2 5) (q.take (stepN a2 q)) l
  have hnd : (q.take (stepN a2 q)).length = stepN a2 q ∧ stepN a2 q ≤ 60 ∧ (stepN a2 q : Int) ≤ a2 16 := by
    have h1 : stepN a2 q ≤ q.length := Nat.min_le_right _ _
    refine ⟨by rw [List.length_take]; omega, by omega, ?_⟩
    unfold stepN; omega
  rw [hnd.1] at hPl
  rw [hm] at hml HS HRS
  rw [hP] at hPl HS HRS
  generalize stepN a2 q = nd at *
  have HEQ := Lib.hid (fun (a b : Option Addr) (cp cq : Nat) (w : World) (h : Lst w (fun _ => False) a m) (h2 : Lst w (fun _ => False) b m) => same_any (fun _ => False) (fun _ => False) a b cp cq m w h h2 (by omega))
  have HEP := Lib.hid (fun (a b : Option Addr) (cp cq : Nat) (w : World) (h : LstR Py.row 3 w (fun _ => False) a P) (h2 : LstR Py.row 3 w (fun _ => False) b P) => equal_pays (fun _ => False) (fun _ => False) a b cp cq P w h h2 (by omega))
  have HEL := Lib.hid (fun (S T : Nat → Prop) (a b : Option Addr) (cp cq : Nat) (w : World) (h : Lst w S a l) (h2 : Lst w T b l) => same_any S T a b cp cq l w h h2 (by omega))
  have HLEN := Lib.hid (flat_len l)
  obtain ⟨j0, hj0, hz0, hs0, hby0⟩ := val_app
  obtain ⟨n, hn⟩ : ∃ n, l.length = n := ⟨_, rfl⟩
  obtain ⟨nq, hnq⟩ : ∃ nq, q.length = nq := ⟨_, rfl⟩
  obtain ⟨np, hnp⟩ : ∃ np, P.length = np := ⟨_, rfl⟩
  rw [hml] at HEQ
  rw [hn] at hml HS HRS HEQ HEL HLEN d1 hn0 hl ⊢
  rw [hnq] at HS HRS HQS d2 ⊢
  rw [hnp] at HS HRS HEP
  have HN := Lib.hid (And.intro hn hnq)
  have HM := Lib.hid (And.intro hml hnp)
  have dne : ((nd : Int) != (nd : Int)) = false := by simp
  clear hc hf hfq hL hq hn hnq hnp hql hml hPl hm hP hnd h5 h16
  go_enter Try.func5, Try.ntmps5
  go_upto_region 1 with (fail)
  generalize w.alloc (.cells (cellsOf a2) 35) = W at *
  go_wp2_with (first | (refine wpList_load_row rfl 35 _ rfl w.heap.size rfl 35 _ (0, 0) _ T0.out.1 Try.underlying35 rfl info24 ?_))
  refine (HK.out _).mono ?_
  rintro e w1 ⟨rfl, b1⟩
  have T1 := Lib.hid (T0.out.next b1)
  clear b1 T0 HK
  have HL1 : Hid (Lst w1 (fun _ => False) a0 l) := Lib.hid ((HL.out.below T1.out.2).more (fun _ _ h => h.elim))
  go_upto_region 4 with (at_builtin; refine wpList_append_src _ rfl (.tmp 29) (.tmp 30) 22 rfl w1.heap.size 33 j0 _ 7 56 Try.underlying22 hj0 hz0 hs0 hby0 (cellsV_size _) (by omega) (.slice (some ⟨w1.heap.size, 0, none⟩) 0 0) 0 [] rfl (owns_empty (Blk.new w1 _ _) (Nat.le_refl _)) a0 n cap0 (flat l) rfl (by rw [HLEN.out]) (fun h0 => lst_src HL1.out ((Below.refl _ _).alloc (Nat.le_refl _) _) (by rw [HN.out.1]; exact h0)) flat_mem (by unfold maxLen; omega) (by omega) (by simp) ?_; intro u2 w2 ho hg hv)
  have b2 : Below w1.heap.size w1 w2 := below_only ((Below.refl _ w1).alloc (Nat.le_refl _) _) (g := w1.heap.size) hg (by simp) (Nat.le_refl _)
  have ho' : w2.ownsRow w1.heap.size 33 7 u2 n (flat l) := by simpa using ho
  obtain ⟨ao, cpo, rfl, -, -⟩ := owns_slice (owns_base ho' (Nat.zero_le _))
  have T2 := Lib.hid (T1.out.next b2)
  have HO : Hid (Lst w2 (fun i => w2.heap.size ≤ i) ao l) := Lib.hid (by have := owns_lst (S := fun i => w2.heap.size ≤ i) (l := l) (by rw [HN.out.1]; exact owns_base ho' (Nat.zero_le _)) (fun i hi => by rw [HN.out.1] at hi; have := (ho'.lt i hi).2; omega); exact this)
  clear ho hg hv b2 ho' T1 HL1 hj0 hz0 hs0 hby0
  try simp only [Act.put]
  refine wp_region_first (fun w' => Blk w' w.heap.size 35 (cellsOf a2)) 11 8 [0, 1, 3] (by kernel_rfl) (by kernel_rfl) T2.out.1 ?_
  simp only [List.filterMap_cons, List.filterMap_nil, List.getElem?_toArray, List.getElem?_cons_zero, List.getElem?_cons_succ]
  show wpQuiet _ _ _ _ [_, _, _] _
  iterate 2 (go_big_quiet_step ((intros; rfl)))
  refine q_load 35 _ w.heap.size 35 (cellsOf a2) _ rfl rfl rfl (fun w' h => h) Try.underlying35 rfl info24 ?_
  simp only [Act.put, List.setIfInBounds_toArray, List.set_cons_zero, List.set_cons_succ]
  refine wpQuiet_nil ?_
  have TD := Lib.hid (T2.out.next (Below.refl _ w2).drew)
  have ZD : Hid (w2.heap.size ≤ w2.drew.heap.size) := Lib.hid (Nat.le_refl _)
  have HOD := Lib.hid (HO.out.below (Below.refl _ w2).drew)
  clear T2 HO
  generalize w2.drew = wD at *
  refine headF_one (i := 2) (by kernel_rfl) (by omega) ?_
  refine wpOp_at rfl rfl (wp_call_at rfl #[.slice a1 nq cap1] (by kernel_rfl) Try.call17 ((HQS.out wD (HQ.out.below TD.out.2)).mono ?_))
  rintro e wE ⟨vE, rfl, hoE, bE⟩
  obtain ⟨ar, cr, rfl, hcr, -, hlr⟩ := ownsR_lst (S := fun _ => False) Rq.row_len hoE HN.out.2 (fun _ _ h => h)
  have TE := Lib.hid (TD.out.next bE)
  have ZE := Lib.hid (Nat.le_trans ZD.out bE.size)
  have HOE := Lib.hid (HOD.out.below bE)
  have HR := Lib.hid (And.intro hcr hlr)
  clear TD ZD bE hoE hcr hlr HQS HOD
  refine ⟨_, rfl, TE.out.1, ?_⟩
  simp only [Act.put, List.getElem_toArray, List.getElem_cons_zero, List.getElem_cons_succ, List.setIfInBounds_toArray, List.set_cons_zero, List.set_cons_succ, List.drop_succ_cons, List.drop_zero]
  refine headF_one (i := 4) (by kernel_rfl) (by omega) ?_
  refine wpOp_at rfl rfl (wp_call_at rfl #[.slice ao n cpo, .slice ar nq cr, .agg (cellsOf a2)] (by kernel_rfl) Try.call16 ((HS.out cpo cr ao ar wE (HOE.out.more (fun _ _ h => h.elim)) HR.out.2 HR.out.1).mono ?_))
  rintro e w4 ⟨v4, p4, rfl, ho4, hp4, b4⟩
  obtain ⟨g, cp4, rfl, hg, hgl, -⟩ := owns_rows ho4 HM.out.1 hn0
  have G4 : Hid (Bals w4 g n ∧ w2.heap.size ≤ g ∧ w.heap.size ≤ g) := Lib.hid ⟨Bals.of_owns (owns_base ho4 (Nat.zero_le _)) HM.out.1, Nat.le_trans ZE.out hg, Nat.le_trans TE.out.2.size hg⟩
  have HL4 : Hid (Lst w4 (fun _ => False) (some ⟨g, 0, none⟩) m) := Lib.hid (by have := owns_lst (S := fun _ => False) (l := m) (by rw [HM.out.1]; exact owns_base ho4 (Nat.zero_le _)) (fun _ _ h => h); exact this)
  obtain ⟨ap, cq4, rfl, -, -, hp4'⟩ := ownsR_lst (S := fun _ => False) Py.row_len hp4 HM.out.2 (fun _ _ h => h)
  have HP4 := Lib.hid hp4'
  clear ho4 hp4 hp4' ZE hg hgl
  have T4 := Lib.hid (TE.out.next b4)
  have HO4 := Lib.hid (HOE.out.below b4)
  clear TE HR HS b4 HOE
  refine ⟨_, rfl, T4.out.1, ?_⟩
  simp only [Act.put, List.getElem_toArray, List.getElem_cons_zero, List.getElem_cons_succ, List.setIfInBounds_toArray, List.set_cons_zero, List.set_cons_succ, List.drop_succ_cons, List.drop_zero]
  refine headF_takes (fun w' => Blk w' w.heap.size 35 (cellsOf a2)) (m := 6) (f := 0) [5, 6, 7, 8, 9, 10] (fun _ h => h) (by kernel_rfl) T4.out.1 ?_
  simp only [List.filterMap_cons, List.filterMap_nil, List.getElem?_toArray, List.getElem?_cons_zero, List.getElem?_cons_succ]
  show wpQuiet _ _ _ _ [_, _, _, _, _, _] _
  iterate 6 (go_big_quiet_step ((intros; rfl)))
  refine wpQuiet_nil ?_
  show Region.seqB _ _ _ _ _ = true ∧ _
  refine ⟨by kernel_rfl, ?_⟩
  simp only [Act.put, List.getElem_toArray, List.getElem_cons_zero, List.getElem_cons_succ, List.setIfInBounds_toArray, List.set_cons_zero, List.set_cons_succ, List.drop_succ_cons, List.drop_zero]
  go_wp2
  refine NoPanic.normal ?_
  go_wp2_with (first | (refine wpList_load_row rfl 35 _ rfl w.heap.size rfl 35 _ (0, 0) _ T4.out.1 Try.underlying35 rfl info24 ?_))
  refine (HRS.out cap0 cap1 w4 ((HL.out.below T4.out.2).more (fun _ _ h => h.elim)) (HQ.out.below T4.out.2)).mono ?_
  rintro e w5 ⟨u5, q5, rfl, ho5, hp5, b5⟩
  have T5 := Lib.hid (T4.out.next b5)
  obtain ⟨a5, cp5, rfl, -, -⟩ := owns_slice (owns_base ho5 (Nat.zero_le _))
  have HL5 : Hid (Lst w5 (fun _ => False) a5 m) := Lib.hid (by have := owns_lst (S := fun _ => False) (l := m) (by rw [HM.out.1]; exact owns_base ho5 (Nat.zero_le _)) (fun _ _ h => h); exact this)
  obtain ⟨aq, cq5, rfl, -, -, hp5'⟩ := ownsR_lst (S := fun _ => False) Py.row_len hp5 HM.out.2 (fun _ _ h => h)
  have HG5 := Lib.hid (And.intro (HL4.out.below b5) (And.intro (HP4.out.below b5) (And.intro hp5' (HO4.out.below b5))))
  have G5 : Hid (Bals w5 g n ∧ w2.heap.size ≤ g ∧ w.heap.size ≤ g) := Lib.hid ⟨G4.out.1.below b5, G4.out.2⟩
  clear G4
  clear b5 T4 HRS ho5 hp5 hp5' HL4 HP4 HO4
  go_wp2_with fail
  refine (HEQ.out (some ⟨g, 0, none⟩) a5 cp4 cp5 w5 HG5.out.1 HL5.out).mono ?_
  rintro e w6 ⟨rfl, n5, rfl⟩
  go_wp2_with fail
  refine (HEP.out ap aq cq4 cq5 (w5.drewN n5) HG5.out.2.1 HG5.out.2.2.1).mono ?_
  rintro e w6 ⟨rfl, n6, rfl⟩
  have T6 : Hid (OneC w ((w5.drewN n5).drewN n6) a2) := Lib.hid ⟨T5.out.1, below_drewN (below_drewN T5.out.2 n5) n6⟩
  have HO6 : Hid (Lst ((w5.drewN n5).drewN n6) (fun i => w2.heap.size ≤ i) ao l) := Lib.hid HG5.out.2.2.2
  have G6 : Hid (Bals ((w5.drewN n5).drewN n6) g n ∧ w2.heap.size ≤ g ∧ w.heap.size ≤ g) := Lib.hid G5.out
  clear G5
  clear T5 HG5 HL5 HEQ HEP
  generalize (w5.drewN n5).drewN n6 = w7 at *
  go_wp2_with fail
  go_loopw [14, 66] (fun s14 s66 wr => ∃ k : Nat, k ≤ n ∧ s66 = .int .i64 k ∧ Hid (Bals wr g n ∧ Kept (fun i => i = g) w7 wr)) (fun _ s66 _ => n - (intOf s66).toNat)
  case atStart => exact ⟨0, by omega, rfl, Lib.hid ⟨G6.out.1, Kept.refl _ _⟩⟩
  case round =>
    obtain ⟨k, hk, rfl, HK⟩ := hrel
    by_cases hlt : k < n
    · obtain ⟨x, z1, z2⟩ := HK.out.1.at hlt
      obtain ⟨y, hy⟩ : ∃ y, IntKind.u64.wrap (x + 1) = y := ⟨_, rfl⟩
      have k1 : ¬ (k : Int) < 0 := by omega
      have k2 : ¬ (n : Int) ≤ (k : Int) := by omega
      have k3 : (k : Int) < (n : Int) := by omega
      go_wp2_with fail
      have HK2 : Hid (Bals (wr.setCell ⟨g, k * 7, none⟩ (.int .u64 y)) g n ∧ Kept (fun i => i = g) w7 (wr.setCell ⟨g, k * 7, none⟩ (.int .u64 y))) := Lib.hid ⟨HK.out.1.set k y, HK.out.2.setCell (.inl rfl) _⟩
      clear HK z1 z2
      generalize wr.setCell ⟨g, k * 7, none⟩ (.int .u64 y) = w8 at *
      go_wp2
      go_roundw
      case rel => exact ⟨k + 1, by omega, by go_num, HK2⟩
      case measure => simp [intOf]; omega
    · have hlt1 : ¬ (k : Int) < (n : Int) := by omega
      have hgs := G6.out.2
      have TR : Hid (Below w.heap.size w wr) := Lib.hid (Kept.below T6.out.2 HK.out.2 (fun i hi => by rw [hi]; exact hgs.2) T6.out.2.size)
      have HOR : Hid (Lst wr (fun i => w2.heap.size ≤ i) ao l) := Lib.hid (HO6.out.same HK.out.2.size (fun b hb hn => HK.out.2.block b hb (fun e => hn (by rw [e]; exact hgs.1))))
      have HLR : Hid (Lst wr (fun i => w.heap.size ≤ i) a0 l) := Lib.hid (HL.out.below TR.out)
      clear T6 HO6 HK G6 hgs
      go_wp2_with fail
      refine (HV.out _).mono ?_
      rintro e w8 ⟨rfl, b8⟩
      have T8 := Lib.hid (TR.out.trans (b8.mono TR.out.size))
      have HO8 := Lib.hid (HOR.out.below b8)
      have HL8 := Lib.hid (HLR.out.below b8)
      clear b8 TR HOR HLR
      go_wp2_with fail
      refine (HEL.out _ _ ao a0 cpo cap0 w8 HO8.out HL8.out).mono ?_
      rintro e w9 ⟨rfl, n9, rfl⟩
      go_wp2_with fail
      go_ret
      exact ⟨rfl, below_drewN T8.out n9⟩
theorem walk_PartialSteps (a0 : Option Addr) (len0 cap0 : Nat) (a1 : Option Addr) (len1 cap1 : Nat) (a2 : Nat → Int) (w : World) (w0 : IsVals w a0 len0 cap0) (w1 : IsRqs w a1 len1 cap1) (w2 : Fits a2) :
    Calls Try.prog 5 #[.slice a0 len0 cap0, .slice a1 len1 cap1, .agg (cellsOf a2)] w fun e w' => e = .returned (.bool true) ∧ Below w.heap.size w w' := by
  by_cases h : chk a2 ≠ 0 ∨ 60 < len0 ∨ 60 < len1
  · exact bail_PartialSteps a0 a1 len0 cap0 len1 cap1 a2 w h
  · have hc : chk a2 = 0 := by
      by_cases hc : chk a2 = 0
      · exact hc
      · exact absurd (.inl hc) h
    obtain ⟨-, -, l, hl, hf, hL⟩ := w0
    obtain ⟨-, -, q, hq, hfq, hQ⟩ := w1
    have hg := good_of_chk w2 hc
    subst hl hq
    by_cases h0 : l.length = 0
    · exact none_PartialSteps a0 a1 cap0 cap1 l q a2 w hc hg.1 hg.2 (by omega) (by omega) hf hfq hL hQ h0
    · exact some_PartialSteps a0 a1 cap0 cap1 l q a2 w hc hg.1 hg.2 (by omega) (by omega) hf hfq hL hQ (by omega)
end Go.Proofs.Ytbieokgdjhkebaa
