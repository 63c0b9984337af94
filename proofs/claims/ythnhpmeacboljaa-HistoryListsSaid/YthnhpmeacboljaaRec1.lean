/- record's first loop: the assignments of a receipt. -/
import Derived.Test.YthnhpmeacboljaaAcc
namespace Go.Proofs.Ythnhpmeacboljaa
open Go Go.RowKit Go.Deep
set_option linter.unusedVariables false
set_option linter.unusedSimpArgs false
set_option maxRecDepth 100000

theorem run_alloc_Xv (w : World) : (Instr.alloc 30 true (.tuple #[])).run Try.prog w = .ok (.pointer (some ⟨w.heap.size, 0, none⟩)) (w.alloc (.cells (cellsXv xvZ) 30)) := by
  obtain ⟨i, hi, hz, hs, hby⟩ := appXv
  simp [Instr.alloc, sizeOf, zeroValue, typeInfo, hi, hz, hs, newRow, go_sem, Value.cells]
theorem wp_alloc_Xv {o : Oper} {a : Act} {w : World} {K : Act → World → Prop} {Q : Exit → Act → World → Prop} (ho : o.op = .alloc 30)
    (h : K (a.put o.dst (.pointer (some ⟨w.heap.size, 0, none⟩))) (w.alloc (.cells (cellsXv xvZ) 30))) : o.wp Try.prog a w K Q := by
  unfold Oper.wp execOp
  simp only [ho, Sem.run_bind, run_alloc_Xv w, Result.andThen_ok, Sem.run_pure]
  exact h
/-- The boxes of record, and the lists that it reads. -/
structure RcW (w : World) (T : Nat → Prop) (W : World) (ob rb : Nat) (o : Oq) (r : Rc) (la : List As) (lp : List Pm) : Prop where
  bel : Below w.heap.size w W
  kob : Blk W ob 57 (cellsOq o)
  krb : Blk W rb 60 (cellsRc r)
  no : ¬ T ob ∧ ¬ T rb
  at_ : RcAt W T r la lp
section
variable {w W wr : World} {T : Nat → Prop} {ob rb b : Nat} {o : Oq} {r : Rc} {la : List As} {lp : List Pm} {s : St} {n : Int}
theorem RcW.rcell (h : RcW w T W ob rb o r la lp) (k : Kept T W wr) (i : Nat) : wr.cell? ⟨rb, i, none⟩ = (cellsRc r)[i]? := (h.krb.kept k h.no.2).cell i
theorem RcW.ocell (h : RcW w T W ob rb o r la lp) (k : Kept T W wr) (i : Nat) : wr.cell? ⟨ob, i, none⟩ = (cellsOq o)[i]? := (h.kob.kept k h.no.1).cell i
theorem LgGo.kept (h : LgGo w T wr b s n) : Kept T w wr := h.choose_spec.2.2.2
theorem LgGo.join {T1 : Nat → Prop} {w' : World} {s' : St} {n' : Int} (h2 : ∀ i, T i → T1 i) (h3 : ∀ i, T1 i → T i ∨ w.heap.size ≤ i) (h4 : Kept T w wr) (k : LgGo wr T1 w' b s' n') : LgGo w T w' b s' n' := by
  obtain ⟨T2, k1, k2, k3, k4⟩ := k
  refine ⟨T2, k1, fun i hi => k2 i (h2 i hi), fun i hi => ?_, h4.trans k4 (fun i hlt hi => ?_)⟩
  · rcases k3 i hi with k | k
    · exact h3 i k
    · exact .inr (Nat.le_trans h4.size k)
  · rcases h3 i hi with k | k
    · exact k
    · omega
theorem LgGo.alloc (h : LgGo w T wr b s n) (x : Obj) : LgGo w T (wr.alloc x) b s n := by
  obtain ⟨T1, h1, h2, h3, h4⟩ := h
  exact ⟨T1, h1.below ((Below.refl _ _).alloc (Nat.le_refl _) _), h2, h3, h4.alloc _⟩
theorem LgGo.below {w' : World} (h : LgGo w T wr b s n) (hb : Below wr.heap.size wr w') : LgGo w T w' b s n := by
  obtain ⟨T1, h1, h2, h3, h4⟩ := h
  exact ⟨T1, h1.below hb, h2, h3, h4.trans (Kept.of_below hb (S := fun _ => False)) (fun _ _ h => h.elim)⟩
theorem LgGo.drewN (h : LgGo w T wr b s n) (m : Nat) : LgGo w T (wr.drewN m) b s n := h.below (below_drewN (Below.refl _ _) m)
end
set_option maxHeartbeats 3200000 in
theorem record_go (b : Nat) (T : Nat → Prop) (s : St) (n : Int) (o : Oq) (r : Rc) (la : List As) (lp : List Pm) (w : World) (h : LgAt w b T s n) (hr : RcAt w T r la lp) (hl : s.od.length ≤ 1000000) :
    Calls Try.prog 36 #[.pointer (some ⟨b, 0, none⟩), .agg (cellsOq o), .agg (cellsRc r)] w fun e w' => e = .returned (.tuple #[]) ∧ LgGo w T w' b (recS s ⟨o, r, la, lp⟩) n := by
  have HL := Lib.hid hl
  have HW : Hid (RcW w T ((w.alloc (.cells (cellsOq o) 57)).alloc (.cells (cellsRc r) 60)) w.heap.size (w.heap.size + 1) o r la lp) := Lib.hid (by
    have hb : Below w.heap.size w ((w.alloc (.cells (cellsOq o) 57)).alloc (.cells (cellsRc r) 60)) := ((Below.refl _ _).alloc (Nat.le_refl _) _).alloc (by simp) _
    refine ⟨hb, (Blk.new w _ _).alloc _, ?_, ⟨fun ht => by have := h.lt _ ht; omega, fun ht => by have := h.lt _ ht; omega⟩, hr.below hb⟩
    have h := Blk.new (w.alloc (.cells (cellsOq o) 57)) 60 (cellsRc r)
    rwa [show (w.alloc (.cells (cellsOq o) 57)).heap.size = w.heap.size + 1 by simp] at h)
  have HG : Hid (LgGo ((w.alloc (.cells (cellsOq o) 57)).alloc (.cells (cellsRc r) 60)) T ((w.alloc (.cells (cellsOq o) 57)).alloc (.cells (cellsRc r) 60)) b s n) := Lib.hid (LgAt.go (h.below HW.out.bel))
  clear h hr hl
  go_enter Try.func36, Try.ntmps36
  go_upto_region 1 with (fail)
  generalize (w.alloc (.cells (cellsOq o) 57)).alloc (.cells (cellsRc r) 60) = W at *
  generalize w.heap.size + 1 = rb at *
  generalize hob : w.heap.size = ob at *
  have HOB := Lib.hid hob
  clear hob
  have HC : Hid ((cellsRc r)[6]? = some (.slice r.aa r.an r.ac) ∧ (cellsRc r)[7]? = some (.slice r.pa r.pn r.pc) ∧ (cellsRc r)[4]? = some (.int .i64 r.ep) ∧ (cellsRc r)[2]? = some (.int .i64 r.ix) ∧ (cellsOq o)[0]? = some (.int .i64 o.kd)) := Lib.hid ⟨rfl, rfl, rfl, rfl, rfl⟩
  obtain ⟨cs, hcs⟩ : ∃ cs, cellsRc r = cs := ⟨_, rfl⟩
  obtain ⟨os, hos⟩ : ∃ os, cellsOq o = os := ⟨_, rfl⟩
  have HCS := Lib.hid (And.intro hcs hos)
  rw [hcs, hos] at HC ⊢
  clear hcs hos
  have x6 : W.cell? ⟨rb, 6, none⟩ = some (.slice r.aa r.an r.ac) := (HW.out.krb.cell 6).trans (by rw [HCS.out.1]; exact HC.out.1)
  have han : r.an ≤ 9223372036854775807 := by have := HW.out.at_.ac; unfold maxLen at this; omega
  have hpn : r.pn ≤ 9223372036854775807 := by have := HW.out.at_.pc; unfold maxLen at this; omega
  go_wp2_with (fail)
  go_loopw [15] (fun i wr => ∃ k : Nat, k ≤ r.an ∧ i = .int .i64 k ∧ Hid (LgGo W T wr b { s with ag := agAll s.ex s.ag (la.take k) } n)) (fun i _ => r.an - (intOf i).toNat)
  case atStart => exact ⟨0, by omega, rfl, HG⟩
  case round =>
    clear HG x6
    obtain ⟨k, hk, rfl, HG⟩ := hrel
    by_cases hlt : k < r.an
    · obtain ⟨a, ha⟩ : ∃ a, la[k]? = some a := ⟨_, List.getElem?_eq_getElem (by rw [HW.out.at_.an]; exact hlt)⟩
      have HA := Lib.hid ha
      have HFA := Lib.hid (HW.out.at_.fa a (List.mem_of_getElem? ha))
      obtain ⟨g, off, hga, _, _, hra⟩ := (HW.out.at_.asg.kept HG.out.kept).at ha
      have RA := Lib.hid hra
      clear ha hra
      rw [hga] at *
      have hki : (0 : Int) ≤ (k : Int) := by omega
      have hkn : (k : Int) < (r.an : Int) := by omega
      go_upto_region 4 with (first | (refine wpList_load_As rfl 47 _ rfl g (off + k * 3) rfl a _ RA.out Try.underlying47 rfl infoAs ?_) | (refine wpList_store_row rfl _ _ _ rfl wr.heap.size (cellsAs a) rfl rfl 47 _ (heap_alloc_new wr _) infoAs rfl (cellsAs_one _) ?_; rw [World.setRow_alloc_new]))
      have HG2 := Lib.hid (HG.out.alloc (.cells (cellsAs a) 47))
      have KA : Hid (Blk (wr.alloc (.cells (cellsAs a) 47)) wr.heap.size 47 (cellsAs a)) := Lib.hid (Blk.new _ _ _)
      have HCA : Hid ((cellsAs a)[0]? = some (.int .i64 a.ix) ∧ (cellsAs a)[2]? = some (.int .i64 a.ep)) := Lib.hid ⟨rfl, rfl⟩
      have HAS : Hid (∀ j, T j → j < wr.heap.size) := Lib.hid (fun j hj => by
        obtain ⟨T1, h1, h2, _⟩ := HG.out
        exact h1.lt j (h2 j hj))
      clear HG RA hga
      generalize wr.alloc (.cells (cellsAs a) 47) = W1 at *
      generalize wr.heap.size = ab at *
      clear wr
      obtain ⟨T1, ⟨v, hv⟩, hT1, hT2, hK1⟩ := HG2.out
      have HL1 := Lib.hid hv
      have HT1 := Lib.hid (And.intro hT1 (And.intro hT2 hK1))
      clear hv hT1 hT2 hK1 HG2
      have HI : Hid ((Lit.int .i64 a.ix).wf = true) := Lib.hid HFA.out.1
      obtain ⟨cv, rs, hok, hlook, hcase⟩ : ∃ (cv : Xv) (rs : Bool), (s.ex a.ix).isSome = rs ∧ lookV true (.agg (cellsXv xvZ)) ((s.ex a.ix).map exV) = .tuple #[.agg (cellsXv cv), .bool rs] ∧ True := by
        cases he : s.ex a.ix with
        | none => exact ⟨xvZ, false, rfl, rfl, trivial⟩
        | some u => exact ⟨_, true, rfl, rfl, trivial⟩
      have HV := Lib.hid hlook
      have HOK := Lib.hid hok
      clear hok hlook hcase
      have y0 : W1.drew.cell? ⟨b, 0, none⟩ = some (.map (some v.m1)) := HL1.out.cell 0
      have y1 : W1.drew.cell? ⟨ab, 0, none⟩ = some (.int .i64 a.ix) := (KA.out.cell 0).trans HCA.out.1
      have y2 : MapF W1.drew v.m1 (fun i => (s.ex i).map exV) := HL1.out.ex
      refine wp_region_first (fun w' => w'.cell? ⟨b, 0, none⟩ = some (.map (some v.m1)) ∧ w'.cell? ⟨ab, 0, none⟩ = some (.int .i64 a.ix) ∧ MapF w' v.m1 (fun i => (s.ex i).map exV)) 12 2 [0, 1, 2, 3, 4, 5, 6, 7, 8, 9] (by kernel_rfl) (by kernel_rfl) ⟨y0, y1, y2⟩ ?_
      simp only [List.filterMap_cons, List.filterMap_nil, List.getElem?_toArray, List.getElem?_cons_zero, List.getElem?_cons_succ]
      show wpQuiet _ _ _ _ [_, _, _, _, _, _, _, _, _, _] _
      try simp only [Act.put]
      iterate 3 (go_big_quiet_step ((intros; rfl)))
      refine q_cell 72 _ _ (.map (some v.m1)) rfl rfl rfl (fun w h => by simp [go_sem, h]) (fun w h => h.1) ?_
      simp only [Act.put, List.setIfInBounds_toArray, List.set_cons_zero, List.set_cons_succ]
      iterate 1 (go_big_quiet_step ((intros; rfl)))
      refine q_cell 3 _ _ (.int .i64 a.ix) rfl rfl rfl (fun w h => by simp [go_sem, h]) (fun w h => h.2.1) ?_
      simp only [Act.put, List.setIfInBounds_toArray, List.set_cons_zero, List.set_cons_succ]
      refine q_lookF true _ _ rfl rfl (fun w h => h.2.2) Try.underlying3 Try.underlying72 _ zeroXv a.ix rfl rfl HI.out _ HV.out ?_
      simp only [Act.put, List.setIfInBounds_toArray, List.set_cons_zero, List.set_cons_succ]
      iterate 3 (go_big_quiet_step ((intros; rfl)))
      refine wpQuiet_nil ?_
      refine headF_one (i := 10) (by kernel_rfl) (by omega) ?_
      refine wpOp_at rfl rfl (wp_alloc_Xv rfl ⟨⟨cell_alloc_some _ y0, cell_alloc_some _ y1, y2.alloc _⟩, ?_⟩)
      refine headF_one (i := 11) (by kernel_rfl) (by omega) ?_
      simp only [Act.put, List.getElem_toArray, List.getElem_cons_zero, List.getElem_cons_succ, List.setIfInBounds_toArray, List.set_cons_zero, List.set_cons_succ]
      refine wpOp_at rfl rfl (wp_store_row _ _ _ rfl W1.drew.heap.size (cellsXv cv) rfl rfl 30 _ (heap_alloc_new W1.drew _) infoXv rfl (cellsXv_one _) ?_)
      rw [World.setRow_alloc_new]
      refine ⟨⟨cell_alloc_some _ y0, cell_alloc_some _ y1, y2.alloc _⟩, ?_⟩
      simp only [Act.put, List.getElem_toArray, List.getElem_cons_zero, List.getElem_cons_succ, List.setIfInBounds_toArray, List.set_cons_zero, List.set_cons_succ]
      show Region.seqB _ _ _ _ _ = true ∧ _
      refine ⟨by kernel_rfl, ?_⟩
      simp only [Act.put, List.getElem_toArray, List.getElem_cons_zero, List.getElem_cons_succ, List.setIfInBounds_toArray, List.set_cons_zero, List.set_cons_succ, List.drop_succ_cons, List.drop_zero]
      clear y0 y1 y2
      have HL2 := Lib.hid (HL1.out.below (w' := W1.drew.alloc (.cells (cellsXv cv) 30)) (((Below.refl _ _).drew).alloc (Nat.le_refl _) _))
      have KA2 : Hid (Blk (W1.drew.alloc (.cells (cellsXv cv) 30)) ab 47 (cellsAs a)) := Lib.hid (KA.out.drew.alloc _)
      have HT2 : Hid ((∀ i, T i → T1 i) ∧ (∀ i, T1 i → T i ∨ W.heap.size ≤ i) ∧ Kept T W (W1.drew.alloc (.cells (cellsXv cv) 30))) := Lib.hid ⟨HT1.out.1, HT1.out.2.1, HT1.out.2.2.drew.alloc _⟩
      clear HL1 KA HT1 HV
      generalize W1.drew.heap.size = xb at *
      generalize W1.drew.alloc (.cells (cellsXv cv) 30) = W2 at *
      clear W1
      go_wp2
      refine NoPanic.normal ?_
      have HTK := Lib.hid (agAll_take (ex := s.ex) (g := s.ag) HA.out)
      cases rs with
      | false =>
        have HE : Hid (agS s.ex (agAll s.ex s.ag (la.take k)) a = agAll s.ex s.ag (la.take k)) := Lib.hid (by unfold agS; rw [HOK.out]; rfl)
        go_wp2_with (fail)
        go_roundw
        case rel =>
          refine ⟨k + 1, by omega, by go_num, Lib.hid ?_⟩
          rw [HTK.out, HE.out]
          exact ⟨T1, ⟨v, HL2.out⟩, HT2.out.1, HT2.out.2.1, HT2.out.2.2⟩
        case measure => simp [intOf]; omega
      | true =>
        have HE : Hid (agS s.ex (agAll s.ex s.ag (la.take k)) a = keepF (agAll s.ex s.ag (la.take k)) a.ix a.ep) := Lib.hid (by unfold agS; rw [HOK.out]; rfl)
        have z0 : W2.cell? ⟨b, 2, none⟩ = some (.map (some v.m2)) := HL2.out.cell 2
        have z1 : W2.cell? ⟨ab, 0, none⟩ = some (.int .i64 a.ix) := (KA2.out.cell 0).trans HCA.out.1
        have z2 : W2.cell? ⟨ab, 2, none⟩ = some (.int .i64 a.ep) := (KA2.out.cell 2).trans HCA.out.2
        go_wp2_with (fail)
        refine wp_region_quiet_tail 8 (by kernel_rfl) (by kernel_rfl) ?_
        simp only [List.take_succ_cons, List.take_zero, List.drop_succ_cons, List.drop_zero]
        iterate 8 (go_big_quiet_step ((intros; rfl)))
        refine wpQuiet_nil ?_
        intro _ hw'
        obtain ⟨m, hw''⟩ := hw'
        subst hw''
        have HL3 : Hid (LgM (W2.drewN m) b T1 v _ n) := Lib.hid (HL2.out.below (below_drewN (Below.refl _ _) m))
        have HT3 : Hid ((∀ i, T i → T1 i) ∧ (∀ i, T1 i → T i ∨ W.heap.size ≤ i) ∧ Kept T W (W2.drewN m)) := Lib.hid ⟨HT2.out.1, HT2.out.2.1, HT2.out.2.2.drewN m⟩
        clear z0 z1 z2 HL2 KA2 HT2
        generalize W2.drewN m = W3 at *
        clear W2
        go_wp2_with (fail)
        refine (keepI_any v.m2 (agAll s.ex s.ag (la.take k)) a.ix a.ep W3 HL3.out.ag HI.out).mono ?_
        rintro e w4 ⟨rfl, hm, hk4⟩
        have HG4 : Hid (LgGo W T w4 b { s with ag := keepF (agAll s.ex s.ag (la.take k)) a.ix a.ep } n) := Lib.hid (by
          have h4 := HL3.out.set_ag hk4 hm
          refine ⟨T1, ⟨v, h4⟩, HT3.out.1, HT3.out.2.1, ?_⟩
          have ht := HL3.out.tm v.m2 (by simp)
          rcases HT3.out.2.1 _ ht with h5 | h5
          · exact HT3.out.2.2.trans hk4 (fun j _ hj => hj ▸ h5)
          · exact HT3.out.2.2.trans hk4 (fun j hlt hj => by omega))
        clear hm hk4 HL3 HT3
        go_wp2_with (fail)
        go_roundw
        case rel =>
          refine ⟨k + 1, by omega, by go_num, Lib.hid ?_⟩
          rw [HTK.out, HE.out]
          exact HG4.out
        case measure => simp [intOf]; omega
    · obtain rfl : k = r.an := by omega
      clear hlt
      have hlt : ¬ r.an < r.an := by omega
      have HTA : Hid (la.take r.an = la) := Lib.hid (List.take_of_length_le (by rw [HW.out.at_.an]; exact Nat.le_refl _))
      rw [HTA.out] at HG
      obtain ⟨s1, hs1⟩ : ∃ s1 : St, { s with ag := agAll s.ex s.ag la } = s1 := ⟨_, rfl⟩
      rw [hs1] at HG
      have HS1 := Lib.hid hs1
      clear hs1 HTA
      have x7 : wr.cell? ⟨rb, 7, none⟩ = some (.slice r.pa r.pn r.pc) := (HW.out.rcell HG.out.kept 7).trans (by rw [HCS.out.1]; exact HC.out.2.1)
      go_wp2_with (fail)
      have HG0 : Hid (LgGo W T wr b { s1 with pd := pdAll r.ep s1.pd (lp.take 0) } n) := Lib.hid HG.out
      clear HG
      obtain ⟨w0, hw0⟩ : ∃ w0, wr = w0 := ⟨_, rfl⟩
      subst hw0
      go_loopw [43] (fun i wr => ∃ k : Nat, k ≤ r.pn ∧ i = .int .i64 k ∧ Hid (LgGo W T wr b { s1 with pd := pdAll r.ep s1.pd (lp.take k) } n)) (fun i _ => r.pn - (intOf i).toNat)
      case atStart => exact ⟨0, by omega, rfl, HG0⟩
      case round =>
        clear HG0 x7
        obtain ⟨k, hk, rfl, HG⟩ := hrel
        by_cases hlt : k < r.pn
        · obtain ⟨a, ha⟩ : ∃ a, lp[k]? = some a := ⟨_, List.getElem?_eq_getElem (by rw [HW.out.at_.pn]; exact hlt)⟩
          have HA := Lib.hid ha
          have HFA := Lib.hid (HW.out.at_.fp a (List.mem_of_getElem? ha))
          obtain ⟨g, off, hga, _, _, hra⟩ := (HW.out.at_.pay.kept HG.out.kept).at ha
          have RA := Lib.hid hra
          clear ha hra
          rw [hga] at *
          have hki : (0 : Int) ≤ (k : Int) := by omega
          have hkn : (k : Int) < (r.pn : Int) := by omega
          go_upto_region 11 with (first | (refine wpList_load_Pm rfl 41 _ rfl g (off + k * 3) rfl a _ RA.out Try.underlying41 rfl infoPm ?_) | (refine wpList_store_row rfl _ _ _ rfl wr.heap.size (cellsPm a) rfl rfl 41 _ (heap_alloc_new wr _) infoPm rfl (cellsPm_one _) ?_; rw [World.setRow_alloc_new]))
          have HG2 := Lib.hid (HG.out.alloc (.cells (cellsPm a) 41))
          have KA : Hid (Blk (wr.alloc (.cells (cellsPm a) 41)) wr.heap.size 41 (cellsPm a)) := Lib.hid (Blk.new _ _ _)
          have HCA : Hid ((cellsPm a)[0]? = some (.int .i64 a.ix) ∧ (cellsPm a)[1]? = some (.int .u64 a.am) ∧ (cellsPm a)[2]? = some (.bool a.fl)) := Lib.hid ⟨rfl, rfl, rfl⟩
          clear HG RA hga
          generalize wr.alloc (.cells (cellsPm a) 41) = W1 at *
          generalize wr.heap.size = ab at *
          clear wr
          have HI : Hid ((Lit.int .i64 a.ix).wf = true) := Lib.hid HFA.out.1
          have HTK := Lib.hid (pdAll_take (ep := r.ep) (g := s1.pd) HA.out)
          have z2 : W1.cell? ⟨ab, 2, none⟩ = some (.bool a.fl) := (KA.out.cell 2).trans HCA.out.2.2
          generalize hfl : a.fl = fl at *
          have HFL := Lib.hid hfl
          clear hfl
          cases fl with
          | false =>
            have HE : Hid (pdS r.ep (pdAll r.ep s1.pd (lp.take k)) a = pdAll r.ep s1.pd (lp.take k)) := Lib.hid (by unfold pdS; rw [HFL.out]; rfl)
            go_wp2_with (fail)
            go_roundw
            case rel =>
              refine ⟨k + 1, by omega, by go_num, Lib.hid ?_⟩
              rw [HTK.out, HE.out]
              exact HG2.out
            case measure => simp [intOf]; omega
          | true =>
            have HE : Hid (pdS r.ep (pdAll r.ep s1.pd (lp.take k)) a = keepF (pdAll r.ep s1.pd (lp.take k)) a.ix (r.ep, a.am)) := Lib.hid (by unfold pdS; rw [HFL.out]; rfl)
            obtain ⟨T1, ⟨v, hv⟩, hT1, hT2, hK1⟩ := HG2.out
            have HL2 := Lib.hid hv
            have HT2 : Hid ((∀ i, T i → T1 i) ∧ (∀ i, T1 i → T i ∨ W.heap.size ≤ i) ∧ Kept T W W1) := Lib.hid (And.intro hT1 (And.intro hT2 hK1))
            clear hv hT1 hT2 hK1 HG2
            have z0 : W1.cell? ⟨b, 4, none⟩ = some (.map (some v.m4)) := HL2.out.cell 4
            have z1 : W1.cell? ⟨ab, 0, none⟩ = some (.int .i64 a.ix) := (KA.out.cell 0).trans HCA.out.1
            have z3 : W1.cell? ⟨rb, 4, none⟩ = some (.int .i64 r.ep) := (HW.out.rcell HT2.out.2.2 4).trans (by rw [HCS.out.1]; exact HC.out.2.2.1)
            have z4 : W1.cell? ⟨ab, 1, none⟩ = some (.int .u64 a.am) := (KA.out.cell 1).trans HCA.out.2.1
            go_wp2_with (fail)
            try simp only [Act.put]
            refine wp_region_quiet_tail 11 (by kernel_rfl) (by kernel_rfl) ?_
            simp only [List.take_succ_cons, List.take_zero, List.drop_succ_cons, List.drop_zero]
            iterate 10 (go_big_quiet_step ((intros; rfl)))
            refine q_build_Fu 91 _ rfl rfl ⟨r.ep, a.am⟩ (by kernel_rfl) ?_
            simp only [Act.put, List.setIfInBounds_toArray, List.set_cons_zero, List.set_cons_succ]
            refine wpQuiet_nil ?_
            intro _ hw'
            obtain ⟨m, hw''⟩ := hw'
            subst hw''
            have HL3 : Hid (LgM (W1.drewN m) b T1 v _ n) := Lib.hid (HL2.out.below (below_drewN (Below.refl _ _) m))
            have HT3 : Hid ((∀ i, T i → T1 i) ∧ (∀ i, T1 i → T i ∨ W.heap.size ≤ i) ∧ Kept T W (W1.drewN m)) := Lib.hid ⟨HT2.out.1, HT2.out.2.1, HT2.out.2.2.drewN m⟩
            clear z0 z1 z2 z3 z4 HL2 KA HT2
            generalize W1.drewN m = W3 at *
            clear W1
            go_wp2_with (fail)
            refine (keepF_any v.m4 (pdAll r.ep s1.pd (lp.take k)) a.ix (r.ep, a.am) W3 HL3.out.pd HI.out).mono ?_
            rintro e w4 ⟨rfl, hm, hk4⟩
            have HG4 : Hid (LgGo W T w4 b { s1 with pd := keepF (pdAll r.ep s1.pd (lp.take k)) a.ix (r.ep, a.am) } n) := Lib.hid (by
              have h4 := HL3.out.set_pd hk4 hm
              refine ⟨T1, ⟨v, h4⟩, HT3.out.1, HT3.out.2.1, ?_⟩
              have ht := HL3.out.tm v.m4 (by simp)
              rcases HT3.out.2.1 _ ht with h5 | h5
              · exact HT3.out.2.2.trans hk4 (fun j _ hj => hj ▸ h5)
              · exact HT3.out.2.2.trans hk4 (fun j hlt hj => by omega))
            clear hm hk4 HL3 HT3
            go_wp2_with (fail)
            go_roundw
            case rel =>
              refine ⟨k + 1, by omega, by go_num, Lib.hid ?_⟩
              rw [HTK.out, HE.out]
              exact HG4.out
            case measure => simp [intOf]; omega
        · obtain rfl : k = r.pn := by omega
          clear hlt
          have hlt : ¬ r.pn < r.pn := by omega
          have HTP : Hid (lp.take r.pn = lp) := Lib.hid (List.take_of_length_le (by rw [HW.out.at_.pn]; exact Nat.le_refl _))
          rw [HTP.out] at HG
          obtain ⟨s2, hs2⟩ : ∃ s2 : St, { s1 with pd := pdAll r.ep s1.pd lp } = s2 := ⟨_, rfl⟩
          rw [hs2] at HG
          have HS2 : Hid (recS s ⟨o, r, la, lp⟩ = kindS s2 o.kd r.ix r.ep r.dl) := Lib.hid (by rw [← hs2, ← HS1.out]; rfl)
          have HLS : Hid (s2.od.length ≤ 1000000) := Lib.hid (by rw [← hs2, ← HS1.out]; exact HL.out)
          clear hs2 HTP
          have x0 : wr.cell? ⟨ob, 0, none⟩ = some (.int .i64 o.kd) := (HW.out.ocell HG.out.kept 0).trans (by rw [HCS.out.2]; exact HC.out.2.2.2.2)
          have KRr : Hid (Blk wr rb 60 cs) := Lib.hid (by
            have := HW.out.krb.kept HG.out.kept HW.out.no.2
            rwa [HCS.out.1] at this)
          have HIC : Hid ((Try.prog.info? 60).map (·.size) = some cs.size) := Lib.hid (by rw [← HCS.out.1]; exact infoRc)
          have HIX : Hid (I64 r.ix) := Lib.hid HW.out.at_.nums.ix
          have HKW : Hid (Kept T w W) := Lib.hid (Kept.of_below HW.out.bel)
          have HRR : Hid (∀ wx, Kept T W wx → wx.cell? ⟨rb, 2, none⟩ = some (.int .i64 r.ix) ∧ wx.cell? ⟨rb, 4, none⟩ = some (.int .i64 r.ep)) := Lib.hid (fun wx hx => ⟨(HW.out.rcell hx 2).trans (by rw [HCS.out.1]; exact HC.out.2.2.2.1), (HW.out.rcell hx 4).trans (by rw [HCS.out.1]; exact HC.out.2.2.1)⟩)
          obtain ⟨T1, hL1, hT1, hT2, hK1⟩ := HG.out
          have HLT := Lib.hid hL1
          have HT2 := Lib.hid (And.intro hT1 (And.intro hT2 hK1))
          have HAC : Hid (∀ c, Calls Try.prog 52 #[.pointer (some ⟨b, 0, none⟩), .int .i64 c, .agg cs] wr fun e w' => e = .returned (.tuple #[]) ∧ LgGo wr T1 w' b (accX s2 c r.ix r.ep r.dl) n) := Lib.hid (fun c => by
            rw [← HCS.out.1]
            exact accept_go b T1 s2 n c r wr HLT.out HIX.out HLS.out)
          clear hL1 hT1 hT2 hK1 HG HW HC HCS
          generalize hkd : o.kd = kd at *
          by_cases h2 : kd = 2
          · subst h2
            have HE : Hid (kindS s2 2 r.ix r.ep r.dl = accX s2 1 r.ix r.ep r.dl) := Lib.hid rfl
            go_wp2_with (first | (refine wpList_load_row rfl 60 _ rfl rb rfl 60 cs (0, 0) _ KRr.out Try.underlying60 rfl HIC.out ?_))
            refine (HAC.out 1).mono ?_
            rintro e w5 ⟨rfl, h5⟩
            go_wp2_with (fail)
            go_end0
            refine ⟨rfl, LgGo.after HKW.out ?_⟩
            rw [HS2.out, HE.out]
            exact LgGo.join HT2.out.1 HT2.out.2.1 HT2.out.2.2 h5
          · by_cases h3 : kd = 3
            · subst h3
              have HE : Hid (kindS s2 3 r.ix r.ep r.dl = accX s2 0 r.ix r.ep r.dl) := Lib.hid rfl
              clear h2
              go_wp2_with (first | (refine wpList_load_row rfl 60 _ rfl rb rfl 60 cs (0, 0) _ KRr.out Try.underlying60 rfl HIC.out ?_))
              refine (HAC.out 0).mono ?_
              rintro e w5 ⟨rfl, h5⟩
              go_wp2_with (fail)
              go_end0
              refine ⟨rfl, LgGo.after HKW.out ?_⟩
              rw [HS2.out, HE.out]
              exact LgGo.join HT2.out.1 HT2.out.2.1 HT2.out.2.2 h5
            · by_cases h4 : kd = 4
              · subst h4
                have HE : Hid (kindS s2 4 r.ix r.ep r.dl = { accX s2 0 r.ix r.ep r.dl with sl := keepF s2.sl r.ix r.ep }) := Lib.hid rfl
                clear h2 h3
                go_wp2_with (first | (refine wpList_load_row rfl 60 _ rfl rb rfl 60 cs (0, 0) _ KRr.out Try.underlying60 rfl HIC.out ?_))
                refine (HAC.out 0).mono ?_
                rintro e w5 ⟨rfl, h5⟩
                have HG5 : Hid (LgGo W T w5 b (accX s2 0 r.ix r.ep r.dl) n) := Lib.hid (LgGo.join HT2.out.1 HT2.out.2.1 HT2.out.2.2 h5)
                clear h5 HT2 HLT HAC KRr x0
                obtain ⟨y2, y4⟩ := HRR.out w5 HG5.out.kept
                have HSL : Hid ((accX s2 0 r.ix r.ep r.dl).sl = s2.sl) := Lib.hid rfl
                generalize accX s2 0 r.ix r.ep r.dl = s3 at *
                obtain ⟨T3, ⟨v, hv⟩, hT1, hT2, hK1⟩ := HG5.out
                have HL2 := Lib.hid hv
                have HT2 : Hid ((∀ i, T i → T3 i) ∧ (∀ i, T3 i → T i ∨ W.heap.size ≤ i) ∧ Kept T W w5) := Lib.hid (And.intro hT1 (And.intro hT2 hK1))
                clear hv hT1 hT2 hK1 HG5
                have z0 : w5.cell? ⟨b, 3, none⟩ = some (.map (some v.m3)) := HL2.out.cell 3
                go_wp2_with (fail)
                try simp only [Act.put]
                refine wp_region_quiet_tail 8 (by kernel_rfl) (by kernel_rfl) ?_
                simp only [List.take_succ_cons, List.take_zero, List.drop_succ_cons, List.drop_zero]
                iterate 8 (go_big_quiet_step ((intros; rfl)))
                refine wpQuiet_nil ?_
                intro _ hw'
                obtain ⟨m, hw''⟩ := hw'
                subst hw''
                have HL3 : Hid (LgM (w5.drewN m) b T3 v _ n) := Lib.hid (HL2.out.below (below_drewN (Below.refl _ _) m))
                have HT3 : Hid ((∀ i, T i → T3 i) ∧ (∀ i, T3 i → T i ∨ W.heap.size ≤ i) ∧ Kept T W (w5.drewN m)) := Lib.hid ⟨HT2.out.1, HT2.out.2.1, HT2.out.2.2.drewN m⟩
                clear z0 y2 y4 HL2 HT2
                generalize w5.drewN m = W3 at *
                clear w5
                go_wp2_with (fail)
                refine (keepI_any v.m3 s3.sl r.ix r.ep W3 HL3.out.sl (wf_i64 HIX.out)).mono ?_
                rintro e w4 ⟨rfl, hm, hk4⟩
                have HG4 : Hid (LgGo W T w4 b { s3 with sl := keepF s3.sl r.ix r.ep } n) := Lib.hid (by
                  have h4 := HL3.out.set_sl hk4 hm
                  refine ⟨T3, ⟨v, h4⟩, HT3.out.1, HT3.out.2.1, ?_⟩
                  have ht := HL3.out.tm v.m3 (by simp)
                  rcases HT3.out.2.1 _ ht with h5 | h5
                  · exact HT3.out.2.2.trans hk4 (fun j _ hj => hj ▸ h5)
                  · exact HT3.out.2.2.trans hk4 (fun j hlt hj => by omega))
                clear hm hk4 HL3 HT3
                go_wp2_with (fail)
                go_end0
                refine ⟨rfl, LgGo.after HKW.out ?_⟩
                rw [HS2.out, HE.out, ← HSL.out]
                exact HG4.out
              · have HE : Hid (kindS s2 kd r.ix r.ep r.dl = s2) := Lib.hid (by unfold kindS; rw [if_neg h2, if_neg h3, if_neg h4])
                have e2 : (kd == 2) = false := by simpa using h2
                have e3 : (kd == 3) = false := by simpa using h3
                have e4 : (kd == 4) = false := by simpa using h4
                clear h2 h3 h4
                go_wp2_with (fail)
                go_end0
                refine ⟨rfl, LgGo.after HKW.out ?_⟩
                rw [HS2.out, HE.out]
                exact ⟨T1, HLT.out, HT2.out.1, HT2.out.2.1, HT2.out.2.2⟩
end Go.Proofs.Ythnhpmeacboljaa
