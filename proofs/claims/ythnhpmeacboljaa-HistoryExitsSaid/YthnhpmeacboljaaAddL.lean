/- Add: a pair, its receipt's lists laid by validator and by epoch (written by mkadd.py). -/
import Derived.Test.YthnhpmeacboljaaRec1
namespace Go.Proofs.Ythnhpmeacboljaa
open Go Go.RowKit Go.Deep
set_option linter.unusedVariables false
set_option linter.unusedSimpArgs false
set_option maxRecDepth 100000

theorem LgM.push_py {w w1 w2 : World} {b : Nat} {T : Nat → Prop} {v : Lv} {s : St} {n : Int} (h : LgM w b T v s n) {f : Int → Option Value} (hf : RowsF Pm.row 3 41 w T v.m5 s.py f) {i : Int} {p : Pm} {u : Value}
    (hg1 : w.grownBy w1 (lookV false nilS (f i)).ownBlock) (ho : w1.ownsRow 0 41 3 u ((s.py i).length + 1) (flatR Pm.row (s.py i) ++ p.row)) (hu : u.ownBlock = (lookV false nilS (f i)).ownBlock ∨ u.ownBlock = some w.heap.size)
    (hM : MapF w2 v.m5 (updF f i u)) (hg2 : w1.grownBy w2 (some v.m5)) : LgGo w T w2 b { s with py := pushF s.py i p } n := by
  obtain ⟨o0, t0⟩ := hf.get i
  have hm1 : MapF w1 v.m5 f := hf.map.grown hg1 (fun hq => by
    obtain ⟨cur, hB⟩ := ownsR_blk o0 hq.symm
    exact map_ne hf.map hB.1 rfl)
  have hB : ∀ x t cs, Blk w x t cs → t ≠ 41 → w2.heap[x]? = w.heap[x]? := fun x t cs hb ht => by
    have h1 : w1.heap[x]? = w.heap[x]? := hg1.block x hb.lt (fun he => by
      obtain ⟨cur, hB, _⟩ := ownsR_blk o0 he.symm
      exact Blk.ne_ hb hB ht rfl)
    have hb1 : Blk w1 x t cs := h1.trans hb
    exact (hg2.block x hb1.lt (fun he => by injection he with he; exact map_ne hm1 hb1 he)).trans h1
  have hMM : ∀ m f', m ≠ v.m5 → MapF w m f' → w2.heap[m]? = w.heap[m]? := fun m f' hne hm => by
    have h1 : w1.heap[m]? = w.heap[m]? := hg1.block m hm.lt (fun he => by
      obtain ⟨cur, hB, _⟩ := ownsR_blk o0 he.symm
      exact map_ne hm hB rfl)
    exact (hg2.block m (hm.same h1).lt (fun he => by injection he with he; exact hne he)).trans h1
  have hsz : w.heap.size ≤ w2.heap.size := Nat.le_trans hg1.size hg2.size
  obtain ⟨⟨a1, a2, a3, a4, a5⟩, ⟨b2, b3, b4, b5⟩, ⟨c3, c4, c5⟩, ⟨d4, d5⟩, e5⟩ := h.ne
  refine ⟨fun j => T j ∨ u.ownBlock = some j, ⟨v, ?_⟩, fun _ h => .inl h, fun j hj => ?_, ?_⟩
  · exact { blk := (hB _ _ _ h.blk (by decide)).trans h.blk
            ex := h.ex.same (hMM _ _ a4 h.ex)
            od := ownsR_same h.od fun j hj => by
              obtain ⟨cur, hb, _⟩ := ownsR_blk h.od hj
              exact hB _ _ _ hb (by decide)
            ag := h.ag.same (hMM _ _ b4 h.ag)
            sl := h.sl.same (hMM _ _ c4 h.sl)
            pd := h.pd.same (hMM _ _ d4 h.pd)
            py := ⟨_, hf.push Pm.row_len hg1 ho hu hM hg2 (fun _ h => .inl h) (fun j hj => .inr hj)⟩
            an := h.an.imp fun f' hf' => hf'.same (hMM _ _ e5.symm hf'.map) (fun j cur _ hb => hB _ _ _ hb (by decide)) (fun _ h => .inl h)
            nd := h.nd, tb := .inl h.tb, tm := fun m hm => .inl (h.tm m hm), tw := fun j hj => .inl (h.tw j hj), wf := h.wf
            lt := fun j hj => by
              rcases hj with hj | hj
              · exact Nat.lt_of_lt_of_le (h.lt j hj) hsz
              · exact Nat.lt_of_lt_of_le (ho.lt j hj).2 hg2.size }
  · rcases hj with hj | hj
    · exact .inl hj
    · rcases hu with hu | hu
      · exact .inl (t0 j (hu ▸ hj))
      · rw [hj] at hu
        injection hu with hu
        exact .inr (by omega)
  · exact (Kept.of_grown (S := T) hg1 (fun j hj => t0 j hj.symm)).trans (Kept.of_grown (S := T) hg2 (fun j hj => by injection hj with hj; exact hj ▸ h.tm v.m5 (by simp))) (fun _ _ h => h)
theorem LgM.push_an {w w1 w2 : World} {b : Nat} {T : Nat → Prop} {v : Lv} {s : St} {n : Int} (h : LgM w b T v s n) {f : Int → Option Value} (hf : RowsF As.row 3 47 w T v.m6 s.an f) {i : Int} {p : As} {u : Value}
    (hg1 : w.grownBy w1 (lookV false nilS (f i)).ownBlock) (ho : w1.ownsRow 0 47 3 u ((s.an i).length + 1) (flatR As.row (s.an i) ++ p.row)) (hu : u.ownBlock = (lookV false nilS (f i)).ownBlock ∨ u.ownBlock = some w.heap.size)
    (hM : MapF w2 v.m6 (updF f i u)) (hg2 : w1.grownBy w2 (some v.m6)) : LgGo w T w2 b { s with an := pushF s.an i p } n := by
  obtain ⟨o0, t0⟩ := hf.get i
  have hm1 : MapF w1 v.m6 f := hf.map.grown hg1 (fun hq => by
    obtain ⟨cur, hB⟩ := ownsR_blk o0 hq.symm
    exact map_ne hf.map hB.1 rfl)
  have hB : ∀ x t cs, Blk w x t cs → t ≠ 47 → w2.heap[x]? = w.heap[x]? := fun x t cs hb ht => by
    have h1 : w1.heap[x]? = w.heap[x]? := hg1.block x hb.lt (fun he => by
      obtain ⟨cur, hB, _⟩ := ownsR_blk o0 he.symm
      exact Blk.ne_ hb hB ht rfl)
    have hb1 : Blk w1 x t cs := h1.trans hb
    exact (hg2.block x hb1.lt (fun he => by injection he with he; exact map_ne hm1 hb1 he)).trans h1
  have hMM : ∀ m f', m ≠ v.m6 → MapF w m f' → w2.heap[m]? = w.heap[m]? := fun m f' hne hm => by
    have h1 : w1.heap[m]? = w.heap[m]? := hg1.block m hm.lt (fun he => by
      obtain ⟨cur, hB, _⟩ := ownsR_blk o0 he.symm
      exact map_ne hm hB rfl)
    exact (hg2.block m (hm.same h1).lt (fun he => by injection he with he; exact hne he)).trans h1
  have hsz : w.heap.size ≤ w2.heap.size := Nat.le_trans hg1.size hg2.size
  obtain ⟨⟨a1, a2, a3, a4, a5⟩, ⟨b2, b3, b4, b5⟩, ⟨c3, c4, c5⟩, ⟨d4, d5⟩, e5⟩ := h.ne
  refine ⟨fun j => T j ∨ u.ownBlock = some j, ⟨v, ?_⟩, fun _ h => .inl h, fun j hj => ?_, ?_⟩
  · exact { blk := (hB _ _ _ h.blk (by decide)).trans h.blk
            ex := h.ex.same (hMM _ _ a5 h.ex)
            od := ownsR_same h.od fun j hj => by
              obtain ⟨cur, hb, _⟩ := ownsR_blk h.od hj
              exact hB _ _ _ hb (by decide)
            ag := h.ag.same (hMM _ _ b5 h.ag)
            sl := h.sl.same (hMM _ _ c5 h.sl)
            pd := h.pd.same (hMM _ _ d5 h.pd)
            an := ⟨_, hf.push As.row_len hg1 ho hu hM hg2 (fun _ h => .inl h) (fun j hj => .inr hj)⟩
            py := h.py.imp fun f' hf' => hf'.same (hMM _ _ e5 hf'.map) (fun j cur _ hb => hB _ _ _ hb (by decide)) (fun _ h => .inl h)
            nd := h.nd, tb := .inl h.tb, tm := fun m hm => .inl (h.tm m hm), tw := fun j hj => .inl (h.tw j hj), wf := h.wf
            lt := fun j hj => by
              rcases hj with hj | hj
              · exact Nat.lt_of_lt_of_le (h.lt j hj) hsz
              · exact Nat.lt_of_lt_of_le (ho.lt j hj).2 hg2.size }
  · rcases hj with hj | hj
    · exact .inl hj
    · rcases hu with hu | hu
      · exact .inl (t0 j (hu ▸ hj))
      · rw [hj] at hu
        injection hu with hu
        exact .inr (by omega)
  · exact (Kept.of_grown (S := T) hg1 (fun j hj => t0 j hj.symm)).trans (Kept.of_grown (S := T) hg2 (fun j hj => by injection hj with hj; exact hj ▸ h.tm v.m6 (by simp))) (fun _ _ h => h)
theorem kindS_pa (s : St) (kd i ep dl : Int) : (kindS s kd i ep dl).py = s.py ∧ (kindS s kd i ep dl).an = s.an := by
  unfold kindS accX
  by_cases h2 : kd = 2
  · simp [h2]
  · by_cases h3 : kd = 3
    · simp [h3]
    · by_cases h4 : kd = 4 <;> simp [h2, h3, h4]
theorem recS_rest (s : St) (e : Ev) : (recS s e).py = s.py ∧ (recS s e).an = s.an := kindS_pa _ _ _ _ _
theorem nilSPm (w : World) : (zeroValue 39).run Try.prog w = .ok nilS w := rfl
theorem nilSAs (w : World) : (zeroValue 45).run Try.prog w = .ok nilS w := rfl
set_option maxHeartbeats 3200000 in
theorem add_go (b : Nat) (T : Nat → Prop) (s : St) (n : Int) (o : Oq) (r : Rc) (la : List As) (lp : List Pm) (w : World) (h : LgAt w b T s n) (hr : RcAt w T r la lp) (hn : 0 ≤ n ∧ n ≤ 1000000) (hl : s.od.length ≤ 1000000) (hpy : ∀ i, (s.py i).length + lp.length ≤ 1000000) (han : ∀ i, (s.an i).length + la.length ≤ 1000000) :
    Calls Try.prog 25 #[.pointer (some ⟨b, 0, none⟩), .agg (cellsOq o), .agg (cellsRc r)] w fun e w' => e = .returned (.tuple #[]) ∧ LgGo w T w' b (addS s ⟨o, r, la, lp⟩) (n + 1) := by
  have HL := Lib.hid hl
  have HPY := Lib.hid hpy
  have HAN := Lib.hid han
  obtain ⟨n1, hn1⟩ : ∃ n1, n + 1 = n1 := ⟨_, rfl⟩
  have hw1 : wrap64 (n + 1) = n1 := by unfold wrap64; omega
  have HW : Hid (RcW w T ((w.alloc (.cells (cellsOq o) 57)).alloc (.cells (cellsRc r) 60)) w.heap.size (w.heap.size + 1) o r la lp) := Lib.hid (by
    have hb : Below w.heap.size w ((w.alloc (.cells (cellsOq o) 57)).alloc (.cells (cellsRc r) 60)) := ((Below.refl _ _).alloc (Nat.le_refl _) _).alloc (by simp) _
    refine ⟨hb, (Blk.new w _ _).alloc _, ?_, ⟨fun ht => by have := h.lt _ ht; omega, fun ht => by have := h.lt _ ht; omega⟩, hr.below hb⟩
    have h := Blk.new (w.alloc (.cells (cellsOq o) 57)) 60 (cellsRc r)
    rwa [show (w.alloc (.cells (cellsOq o) 57)).heap.size = w.heap.size + 1 by simp] at h)
  have HG : Hid (LgAt ((w.alloc (.cells (cellsOq o) 57)).alloc (.cells (cellsRc r) 60)) b T s n) := Lib.hid (h.below HW.out.bel)
  rw [hn1]
  clear h hr hl hn hpy han hn1
  go_enter Try.func25, Try.ntmps25
  go_upto_region 1 with (fail)
  generalize (w.alloc (.cells (cellsOq o) 57)).alloc (.cells (cellsRc r) 60) = W at *
  generalize w.heap.size + 1 = rb at *
  generalize w.heap.size = ob at *
  have HC : Hid ((cellsRc r)[6]? = some (.slice r.aa r.an r.ac) ∧ (cellsRc r)[7]? = some (.slice r.pa r.pn r.pc) ∧ (cellsRc r)[4]? = some (.int .i64 r.ep) ∧ (cellsRc r)[1]? = some (.int .i64 r.cd)) := Lib.hid ⟨rfl, rfl, rfl, rfl⟩
  obtain ⟨cs, hcs⟩ : ∃ cs, cellsRc r = cs := ⟨_, rfl⟩
  obtain ⟨os, hos⟩ : ∃ os, cellsOq o = os := ⟨_, rfl⟩
  have HCS := Lib.hid (And.intro hcs hos)
  rw [hcs] at HC
  rw [hcs, hos]
  clear hcs hos
  obtain ⟨v, hv⟩ := HG.out
  have HV := Lib.hid hv
  clear hv HG
  have x5 : W.cell? ⟨b, 5, none⟩ = some (.int .i64 n) := HV.out.cell 5
  have f5 : W.frozen? ⟨b, 5, none⟩ = false := HV.out.blk.frozen 5
  have HV1 : Hid (LgM (W.setCell ⟨b, 5, none⟩ (.int .i64 n1)) b T v s n1) := Lib.hid (HV.out.set_num 5 (.int .i64 n1) n1 s.ep rfl)
  have HK1 : Hid (Kept T W (W.setCell ⟨b, 5, none⟩ (.int .i64 n1))) := Lib.hid (Kept.setCell (S := T) (Kept.refl _ W) (p := ⟨b, 5, none⟩) (.inl HV.out.tb) _)
  have XCD : Hid ((W.setCell ⟨b, 5, none⟩ (.int .i64 n1)).cell? ⟨rb, 1, none⟩ = some (.int .i64 r.cd)) := Lib.hid ((HW.out.rcell HK1.out 1).trans (by rw [HCS.out.1]; exact HC.out.2.2.2))
  go_upto_region 2 with (fail)
  go_upto_region 3 with (fail)
  generalize W.setCell ⟨b, 5, none⟩ (.int .i64 n1) = W1 at *
  clear x5 f5 HV
  have HKW : Hid (Kept T w W) := Lib.hid (Kept.of_below HW.out.bel)
  have hpn : r.pn ≤ 9223372036854775807 := by have := HW.out.at_.pc; unfold maxLen at this; omega
  have han : r.an ≤ 9223372036854775807 := by have := HW.out.at_.ac; unfold maxLen at this; omega
  by_cases hcd : r.cd = 0
  · have HCD := Lib.hid hcd
    have x1 : W1.cell? ⟨rb, 1, none⟩ = some (.int .i64 0) := by rw [← hcd]; exact XCD.out
    have x4 : W1.cell? ⟨rb, 4, none⟩ = some (.int .i64 r.ep) := (HW.out.rcell HK1.out 4).trans (by rw [HCS.out.1]; exact HC.out.2.2.1)
    have x6 : W1.cell? ⟨b, 6, none⟩ = some (.int .i64 s.ep) := HV1.out.cell 6
    have f6 : W1.frozen? ⟨b, 6, none⟩ = false := HV1.out.blk.frozen 6
    have HV2 : Hid (LgM (W1.setCell ⟨b, 6, none⟩ (.int .i64 r.ep)) b T v { s with ep := r.ep } n1) := Lib.hid (HV1.out.set_num 6 (.int .i64 r.ep) n1 r.ep rfl)
    have HK2 : Hid (Kept T W (W1.setCell ⟨b, 6, none⟩ (.int .i64 r.ep))) := Lib.hid (Kept.setCell (S := T) HK1.out (p := ⟨b, 6, none⟩) (.inl HV1.out.tb) _)
    clear hcd XCD
    go_upto_region 4 with (fail)
    go_upto_region 5 with (fail)
    generalize W1.setCell ⟨b, 6, none⟩ (.int .i64 r.ep) = W2 at *
    clear x1 x4 f6 x6 HV1 HK1
    clear W1
    have KO : Hid (Blk W2 ob 57 os) := Lib.hid (by have := HW.out.kob.kept HK2.out HW.out.no.1; rwa [HCS.out.2] at this)
    have KR : Hid (Blk W2 rb 60 cs) := Lib.hid (by have := HW.out.krb.kept HK2.out HW.out.no.2; rwa [HCS.out.1] at this)
    have HIO : Hid ((Try.prog.info? 57).map (·.size) = some os.size) := Lib.hid (by rw [← HCS.out.2]; exact infoOq)
    have HIC : Hid ((Try.prog.info? 60).map (·.size) = some cs.size) := Lib.hid (by rw [← HCS.out.1]; exact infoRc)
    try simp only [Act.put]
    refine wp_region_quiet_tail 5 (by kernel_rfl) (by kernel_rfl) ?_
    simp only [List.take_succ_cons, List.take_zero, List.drop_succ_cons, List.drop_zero]
    iterate 3 (go_big_quiet_step ((intros; rfl)))
    refine q_load 57 _ ob 57 os _ rfl rfl rfl (fun w' h => by obtain ⟨m, rfl⟩ := h; exact KO.out.drewN m) Try.underlying57 rfl HIO.out ?_
    simp only [Act.put, List.setIfInBounds_toArray, List.set_cons_zero, List.set_cons_succ]
    refine q_load 60 _ rb 60 cs _ rfl rfl rfl (fun w' h => by obtain ⟨m, rfl⟩ := h; exact KR.out.drewN m) Try.underlying60 rfl HIC.out ?_
    simp only [Act.put, List.setIfInBounds_toArray, List.set_cons_zero, List.set_cons_succ]
    refine wpQuiet_nil ?_
    intro _ hw'
    obtain ⟨m, hw''⟩ := hw'
    subst hw''
    have HV3 : Hid (LgM (W2.drewN m) b T v { s with ep := r.ep } n1) := Lib.hid (HV2.out.below (below_drewN (Below.refl _ _) m))
    have HK3 : Hid (Kept T W (W2.drewN m)) := Lib.hid (HK2.out.drewN m)
    have HRC : Hid (Calls Try.prog 36 #[.pointer (some ⟨b, 0, none⟩), .agg os, .agg cs] (W2.drewN m) fun e w' => e = .returned (.tuple #[]) ∧ LgGo (W2.drewN m) T w' b (recS { s with ep := r.ep } ⟨o, r, la, lp⟩) n1) := Lib.hid (by
      rw [← HCS.out.1, ← HCS.out.2]
      exact record_go b T _ n1 o r la lp _ ⟨v, HV3.out⟩ (HW.out.at_.kept HK3.out) HL.out)
    clear KO KR HIO HIC HV2 HK2 HV3
    generalize W2.drewN m = W3 at *
    clear W2
    go_wp2_with (fail)
    refine HRC.out.mono ?_
    rintro e w4 ⟨rfl, h4⟩
    have HG4 : Hid (LgGo W T w4 b (recS { s with ep := r.ep } ⟨o, r, la, lp⟩) n1) := Lib.hid (LgGo.after HK3.out h4)
    clear h4 HRC HK3 HL
    have HPA : Hid ((recS { s with ep := r.ep } ⟨o, r, la, lp⟩).py = s.py ∧ (recS { s with ep := r.ep } ⟨o, r, la, lp⟩).an = s.an ∧ addS s ⟨o, r, la, lp⟩ = { recS { s with ep := r.ep } ⟨o, r, la, lp⟩ with py := pyAll s.py lp, an := anAll s.an la }) := Lib.hid ⟨(recS_rest _ _).1, (recS_rest _ _).2, if_pos HCD.out⟩
    generalize recS { s with ep := r.ep } ⟨o, r, la, lp⟩ = s1 at *
    rw [← HPA.out.1] at HPY
    rw [← HPA.out.2.1] at HAN
    have x7 : w4.cell? ⟨rb, 7, none⟩ = some (.slice r.pa r.pn r.pc) := (HW.out.rcell HG4.out.kept 7).trans (by rw [HCS.out.1]; exact HC.out.2.1)
    go_wp2_with (fail)
    have HG0 : Hid (LgGo W T w4 b { s1 with py := pyAll s1.py (lp.take 0) } n1) := Lib.hid HG4.out
    clear HG4
    go_loopw [36] (fun i wr => ∃ k : Nat, k ≤ r.pn ∧ i = .int .i64 k ∧ Hid (LgGo W T wr b { s1 with py := pyAll s1.py (lp.take k) } n1)) (fun i _ => r.pn - (intOf i).toNat)
    case atStart => exact ⟨0, by omega, rfl, HG0⟩
    case round =>
      clear HG0 x7
      obtain ⟨k, hk, rfl, HG⟩ := hrel
      by_cases hlt : k < r.pn
      · obtain ⟨a, ha⟩ : ∃ a, lp[k]? = some a := ⟨_, List.getElem?_eq_getElem (by rw [HW.out.at_.pn]; exact hlt)⟩
        have HA := Lib.hid ha
        have HFA := Lib.hid (HW.out.at_.fp a (List.mem_of_getElem? ha))
        obtain ⟨g, off, hga, _, _, hra⟩ := (HW.out.at_.pay.kept HG.out.kept).at ha
        have RA := Lib.hid hra
        clear ha hra
        rw [hga] at *
        have hki : (0 : Int) ≤ (k : Int) := by omega
        have hkn : (k : Int) < (r.pn : Int) := by omega
        go_upto_region 9 with (first | (refine wpList_load_Pm rfl 41 _ rfl g (off + k * 3) rfl a _ RA.out Try.underlying41 rfl infoPm ?_) | (refine wpList_store_row rfl _ _ _ rfl wr.heap.size (cellsPm a) rfl rfl 41 _ (heap_alloc_new wr _) infoPm rfl (cellsPm_one _) ?_; rw [World.setRow_alloc_new]))
        obtain ⟨T1, ⟨v, hv⟩, hT1, hT2, hK1⟩ := HG.out
        have HTL := Lib.hid hv.lt
        have HV := Lib.hid (hv.below (w' := (wr.alloc (.cells (cellsPm a) 41)).drew) ((Below.refl _ _).alloc (Nat.le_refl _) _).drew)
        have HT : Hid ((∀ i, T i → T1 i) ∧ (∀ i, T1 i → T i ∨ W.heap.size ≤ i) ∧ Kept T W (wr.alloc (.cells (cellsPm a) 41)).drew) := Lib.hid (And.intro hT1 (And.intro hT2 (hK1.alloc _).drew))
        clear hv hT1 hT2 hK1
        have KA : Hid (Blk (wr.alloc (.cells (cellsPm a) 41)).drew wr.heap.size 41 (cellsPm a)) := Lib.hid (Blk.new _ _ _).drew
        have HCA : Hid ((cellsPm a)[0]? = some (.int .i64 a.ix)) := Lib.hid rfl
        clear HG RA hga
        have HI : Hid ((Lit.int .i64 a.ix).wf = true) := Lib.hid HFA.out.1
        have HTK := Lib.hid (pyAll_take (g := s1.py) HA.out)
        have HLE : Hid (((pyAll s1.py (lp.take k)) a.ix).length ≤ 1000000) := Lib.hid (by
          rw [pyAll_at, List.length_append]
          have h1 := List.length_filter_le (fun p => decide (p.ix = a.ix)) (lp.take k)
          have h2 := HPY.out a.ix
          have h3 : (lp.take k).length ≤ lp.length := List.length_take_le' k lp
          omega)
        obtain ⟨f, hf⟩ := HV.out.py
        have HF := Lib.hid hf
        clear hf
        obtain ⟨q, hq⟩ : ∃ q, ((pyAll s1.py (lp.take k)) a.ix).length = q := ⟨_, rfl⟩
        have HQ := Lib.hid hq
        rw [hq] at HLE
        clear hq
        obtain ⟨u0, hu0⟩ : ∃ u0, lookV false nilS (f a.ix) = u0 := ⟨_, rfl⟩
        have HU0 := Lib.hid hu0
        have hrow := (HF.out.get a.ix).1
        dsimp only at hrow
        rw [hu0, HQ.out] at hrow
        obtain ⟨ua, uc, hus, -, -⟩ := ownsR_slice hrow
        have HROW := Lib.hid hrow
        have HUS := Lib.hid hus
        clear hrow hus hu0
        rw [HUS.out] at HU0 HROW
        try simp only [Act.put]
        have y0 : (wr.alloc (.cells (cellsPm a) 41)).drew.cell? ⟨b, 7, none⟩ = some (.map (some v.m5)) := HV.out.cell 7
        have y1 := KA.out.rangePm
        have y2 := HF.out.map
        have y3 : (wr.alloc (.cells (cellsPm a) 41)).drew.cell? ⟨wr.heap.size, 0, none⟩ = some (.int .i64 a.ix) := (KA.out.cell 0).trans HCA.out
        refine wp_region_first (fun w' => w'.cell? ⟨b, 7, none⟩ = some (.map (some v.m5)) ∧ w'.rangeAt wr.heap.size 0 a.row ∧ MapF w' v.m5 f ∧ w'.cell? ⟨wr.heap.size, 0, none⟩ = some (.int .i64 a.ix)) 16 2 [0, 1, 2, 3, 4, 5, 6, 7, 8, 9, 10, 11, 12, 13] (by kernel_rfl) (by kernel_rfl) ⟨y0, y1, y2, y3⟩ ?_
        simp only [List.filterMap_cons, List.filterMap_nil, List.getElem?_toArray, List.getElem?_cons_zero, List.getElem?_cons_succ]
        show wpQuiet _ _ _ _ [_, _, _, _, _, _, _, _, _, _, _, _, _, _] _
        iterate 3 (go_big_quiet_step ((intros; rfl)))
        refine q_cell 77 _ _ (.map (some v.m5)) rfl rfl rfl (fun w h => by simp [go_sem, h]) (fun w h => h.1) ?_
        simp only [Act.put, List.setIfInBounds_toArray, List.set_cons_zero, List.set_cons_succ]
        iterate 1 (go_big_quiet_step ((intros; rfl)))
        refine q_cell 3 _ _ (.int .i64 a.ix) rfl rfl rfl (fun w h => by simp [go_sem, h]) (fun w h => h.2.2.2) ?_
        simp only [Act.put, List.setIfInBounds_toArray, List.set_cons_zero, List.set_cons_succ]
        iterate 3 (go_big_quiet_step ((intros; rfl)))
        refine q_cell 77 _ _ (.map (some v.m5)) rfl rfl rfl (fun w h => by simp [go_sem, h]) (fun w h => h.1) ?_
        simp only [Act.put, List.setIfInBounds_toArray, List.set_cons_zero, List.set_cons_succ]
        iterate 1 (go_big_quiet_step ((intros; rfl)))
        refine q_cell 3 _ _ (.int .i64 a.ix) rfl rfl rfl (fun w h => by simp [go_sem, h]) (fun w h => h.2.2.2) ?_
        simp only [Act.put, List.setIfInBounds_toArray, List.set_cons_zero, List.set_cons_succ]
        refine q_lookF false _ _ rfl rfl (fun w h => h.2.2.1) Try.underlying3 Try.underlying77 _ nilSPm a.ix rfl rfl HI.out _ HU0.out ?_
        simp only [Act.put, List.setIfInBounds_toArray, List.set_cons_zero, List.set_cons_succ]
        refine q_load_Pm 41 _ wr.heap.size 0 a _ rfl rfl rfl (fun w' h => h.2.1) Try.underlying41 rfl infoPm ?_
        simp only [Act.put, List.setIfInBounds_toArray, List.set_cons_zero, List.set_cons_succ]
        refine wpQuiet_nil ?_
        obtain ⟨i8, hi, hz, hs1, hby⟩ := appPm
        refine headF_one (i := 14) (by kernel_rfl) (by omega) ?_
        refine wpOp_at rfl rfl (wp_onePm (.tmp 53) a rfl rfl ⟨⟨cell_alloc_some _ y0, rangeAt_same y1 (Below.heap_alloc _ _ _ KA.out.lt), y2.alloc _, cell_alloc_some _ y3⟩, ?_⟩)
        refine headF_one (i := 15) (by kernel_rfl) (by omega) ?_
        simp only [Act.put, List.getElem_toArray, List.getElem_cons_zero, List.getElem_cons_succ, List.setIfInBounds_toArray, List.set_cons_zero, List.set_cons_succ]
        clear y0 y1 y2 y3
        have HV1 := Lib.hid (HV.out.below (w' := (wr.alloc (.cells (cellsPm a) 41)).drew.alloc (.cells (cellsPm a) 41)) ((Below.refl _ _).alloc (Nat.le_refl _) _))
        have HF1 : Hid (RowsF Pm.row 3 41 ((wr.alloc (.cells (cellsPm a) 41)).drew.alloc (.cells (cellsPm a) 41)) T1 v.m5 (pyAll s1.py (lp.take k)) f) := Lib.hid (HF.out.same (Below.heap_alloc _ _ _ HF.out.map.lt) (fun j cur _ hb => Below.heap_alloc _ _ _ hb.lt) (fun _ h => h))
        have HR1 := Lib.hid (ownsR_below HROW.out (w' := (wr.alloc (.cells (cellsPm a) 41)).drew.alloc (.cells (cellsPm a) 41)) ((Below.refl _ _).alloc (Nat.le_refl _) _))
        have KA1 := Lib.hid (KA.out.alloc (.cells (cellsPm a) 41))
        have KN : Hid (Blk ((wr.alloc (.cells (cellsPm a) 41)).drew.alloc (.cells (cellsPm a) 41)) (wr.alloc (.cells (cellsPm a) 41)).drew.heap.size 41 (cellsPm a)) := Lib.hid (Blk.new _ _ _)
        have HT1 : Hid ((∀ i, T i → T1 i) ∧ (∀ i, T1 i → T i ∨ W.heap.size ≤ i) ∧ Kept T W ((wr.alloc (.cells (cellsPm a) 41)).drew.alloc (.cells (cellsPm a) 41))) := Lib.hid ⟨HT.out.1, HT.out.2.1, HT.out.2.2.alloc _⟩
        have HNA : Hid (∀ j, (Value.slice ua q uc).ownBlock = some j → j ≠ wr.heap.size) := Lib.hid (fun j hj he => by
          subst he
          have h1 := HTL.out _ ((HF.out.get a.ix).2 wr.heap.size (by rw [HU0.out]; exact hj))
          omega)
        clear HV HF HROW KA HT HTL
        generalize (wr.alloc (.cells (cellsPm a) 41)).drew.heap.size = nb at *
        generalize (wr.alloc (.cells (cellsPm a) 41)).drew.alloc (.cells (cellsPm a) 41) = W5 at *
        generalize wr.heap.size = ab at *
        clear wr
        refine wpOp_at rfl rfl (wp_append_src _ (.tmp 52) (.tmp 54) 39 rfl 0 41 i8 _ 3 24 Try.underlying39 hi hz hs1 hby rfl (by omega) (.slice ua q uc) q _ rfl HR1.out
          (some ⟨nb, 0, none⟩) 1 1 a.row rfl rfl (fun _ => ⟨_, rfl, fun j u hu => by rw [add_plain, Nat.zero_add]; have := KN.out.rangePm j u hu; rwa [Nat.zero_add] at this⟩) (Pm.row_one a) (by have := HLE.out; unfold maxLen; omega) (by have := HLE.out; omega) (by omega) ?_)
        intro s' w3 ho3 hg3 hs3
        have HO3 := Lib.hid ho3
        have HS3 := Lib.hid hs3
        have HG3 := Lib.hid hg3
        have hne : ∀ x t cs, Blk W5 x t cs → (t = 41 → x = ab) → Blk w3 x t cs := fun x t cs hB ht => hB.grown hg3 (fun he => by
          obtain ⟨cur, hB2, _⟩ := ownsR_blk HR1.out he.symm
          by_cases htt : t = 41
          · exact HNA.out x he.symm (ht htt)
          · exact Blk.ne_ hB hB2 htt rfl)
        have B3 := Lib.hid (hne _ _ _ HV1.out.blk (fun he => absurd he (by decide)))
        have KA3 := Lib.hid (hne _ _ _ KA1.out (fun _ => rfl))
        have M3 : Hid (MapF w3 v.m5 f) := Lib.hid (HF1.out.map.grown hg3 (fun he => by
          obtain ⟨cur, hB2, _⟩ := ownsR_blk HR1.out he.symm
          exact map_ne HF1.out.map hB2 rfl))
        refine ⟨⟨B3.out.cell 7, KA3.out.rangePm, M3.out, (KA3.out.cell 0).trans HCA.out⟩, ?_⟩
        clear ho3 hg3 hs3 hi hz hs1 hby hne B3 KA3 KA1 KN
        simp only [Act.put, List.getElem_toArray, List.getElem_cons_zero, List.getElem_cons_succ, List.setIfInBounds_toArray, List.set_cons_zero, List.set_cons_succ]
        show Region.seqB _ _ _ _ _ = true ∧ _
        refine ⟨by kernel_rfl, ?_⟩
        simp only [Act.put, List.getElem_toArray, List.getElem_cons_zero, List.getElem_cons_succ, List.setIfInBounds_toArray, List.set_cons_zero, List.set_cons_succ, List.drop_succ_cons, List.drop_zero]
        obtain ⟨a', cp', rfl, -, -⟩ := ownsR_slice HO3.out
        go_wp2_with (refine wpList_mapF rfl _ _ _ rfl M3.out Try.underlying3 Try.underlying77 a.ix _ rfl rfl rfl HI.out ?_; intro w6 hm6 hg6)
        have HG6 : Hid (LgGo W T w6 b { s1 with py := pushF (pyAll s1.py (lp.take k)) a.ix a } n1) := Lib.hid (LgGo.join HT1.out.1 HT1.out.2.1 HT1.out.2.2 (HV1.out.push_py HF1.out (by rw [HU0.out]; exact HG3.out) (by dsimp only; rw [HQ.out]; exact HO3.out) (by rw [HU0.out]; exact HS3.out) hm6 hg6))
        clear hm6 hg6 HO3 HS3 HG3 M3 HV1 HF1 HR1 HT1 HNA
        refine NoPanic.normal ?_
        go_wp2_with (fail)
        go_roundw
        case rel =>
          refine ⟨k + 1, by omega, by go_num, Lib.hid ?_⟩
          rw [HTK.out]
          exact HG6.out
        case measure => simp [intOf]; omega
      · obtain rfl : k = r.pn := by omega
        clear hlt
        have hlt : ¬ r.pn < r.pn := by omega
        have HTP : Hid (lp.take r.pn = lp) := Lib.hid (List.take_of_length_le (by rw [HW.out.at_.pn]; exact Nat.le_refl _))
        rw [HTP.out] at HG
        obtain ⟨s2, hs2⟩ : ∃ s2 : St, { s1 with py := pyAll s1.py lp } = s2 := ⟨_, rfl⟩
        rw [hs2] at HG
        have HS2 : Hid (s2.an = s1.an ∧ addS s ⟨o, r, la, lp⟩ = { s2 with an := anAll s2.an la }) := Lib.hid (by
          rw [← hs2]
          refine ⟨rfl, ?_⟩
          rw [HPA.out.2.2, HPA.out.1, HPA.out.2.1])
        rw [← HS2.out.1] at HAN
        clear hs2 HTP
        have x6 : wr.cell? ⟨rb, 6, none⟩ = some (.slice r.aa r.an r.ac) := (HW.out.rcell HG.out.kept 6).trans (by rw [HCS.out.1]; exact HC.out.1)
        go_wp2_with (fail)
        have HG0 : Hid (LgGo W T wr b { s2 with an := anAll s2.an (la.take 0) } n1) := Lib.hid HG.out
        clear HG
        obtain ⟨w0, hw0⟩ : ∃ w0, wr = w0 := ⟨_, rfl⟩
        subst hw0
        go_loopw [60] (fun i wr => ∃ k : Nat, k ≤ r.an ∧ i = .int .i64 k ∧ Hid (LgGo W T wr b { s2 with an := anAll s2.an (la.take k) } n1)) (fun i _ => r.an - (intOf i).toNat)
        case atStart => exact ⟨0, by omega, rfl, HG0⟩
        case round =>
          clear HG0 x6
          obtain ⟨k, hk, rfl, HG⟩ := hrel
          by_cases hlt : k < r.an
          · obtain ⟨a, ha⟩ : ∃ a, la[k]? = some a := ⟨_, List.getElem?_eq_getElem (by rw [HW.out.at_.an]; exact hlt)⟩
            have HA := Lib.hid ha
            have HFA := Lib.hid (HW.out.at_.fa a (List.mem_of_getElem? ha))
            obtain ⟨g, off, hga, _, _, hra⟩ := (HW.out.at_.asg.kept HG.out.kept).at ha
            have RA := Lib.hid hra
            clear ha hra
            rw [hga] at *
            have hki : (0 : Int) ≤ (k : Int) := by omega
            have hkn : (k : Int) < (r.an : Int) := by omega
            go_upto_region 14 with (first | (refine wpList_load_As rfl 47 _ rfl g (off + k * 3) rfl a _ RA.out Try.underlying47 rfl infoAs ?_) | (refine wpList_store_row rfl _ _ _ rfl wr.heap.size (cellsAs a) rfl rfl 47 _ (heap_alloc_new wr _) infoAs rfl (cellsAs_one _) ?_; rw [World.setRow_alloc_new]))
            obtain ⟨T1, ⟨v, hv⟩, hT1, hT2, hK1⟩ := HG.out
            have HTL := Lib.hid hv.lt
            have HV := Lib.hid (hv.below (w' := (wr.alloc (.cells (cellsAs a) 47)).drew) ((Below.refl _ _).alloc (Nat.le_refl _) _).drew)
            have HT : Hid ((∀ i, T i → T1 i) ∧ (∀ i, T1 i → T i ∨ W.heap.size ≤ i) ∧ Kept T W (wr.alloc (.cells (cellsAs a) 47)).drew) := Lib.hid (And.intro hT1 (And.intro hT2 (hK1.alloc _).drew))
            clear hv hT1 hT2 hK1
            have KA : Hid (Blk (wr.alloc (.cells (cellsAs a) 47)).drew wr.heap.size 47 (cellsAs a)) := Lib.hid (Blk.new _ _ _).drew
            have HCA : Hid ((cellsAs a)[2]? = some (.int .i64 a.ep)) := Lib.hid rfl
            clear HG RA hga
            have HI : Hid ((Lit.int .i64 a.ep).wf = true) := Lib.hid HFA.out.2.2
            have HTK := Lib.hid (anAll_take (g := s2.an) HA.out)
            have HLE : Hid (((anAll s2.an (la.take k)) a.ep).length ≤ 1000000) := Lib.hid (by
              rw [anAll_at, List.length_append]
              have h1 := List.length_filter_le (fun p => decide (p.ep = a.ep)) (la.take k)
              have h2 := HAN.out a.ep
              have h3 : (la.take k).length ≤ la.length := List.length_take_le' k la
              omega)
            obtain ⟨f, hf⟩ := HV.out.an
            have HF := Lib.hid hf
            clear hf
            obtain ⟨q, hq⟩ : ∃ q, ((anAll s2.an (la.take k)) a.ep).length = q := ⟨_, rfl⟩
            have HQ := Lib.hid hq
            rw [hq] at HLE
            clear hq
            obtain ⟨u0, hu0⟩ : ∃ u0, lookV false nilS (f a.ep) = u0 := ⟨_, rfl⟩
            have HU0 := Lib.hid hu0
            have hrow := (HF.out.get a.ep).1
            dsimp only at hrow
            rw [hu0, HQ.out] at hrow
            obtain ⟨ua, uc, hus, -, -⟩ := ownsR_slice hrow
            have HROW := Lib.hid hrow
            have HUS := Lib.hid hus
            clear hrow hus hu0
            rw [HUS.out] at HU0 HROW
            try simp only [Act.put]
            have y0 : (wr.alloc (.cells (cellsAs a) 47)).drew.cell? ⟨b, 8, none⟩ = some (.map (some v.m6)) := HV.out.cell 8
            have y1 := KA.out.rangeAs
            have y2 := HF.out.map
            have y3 : (wr.alloc (.cells (cellsAs a) 47)).drew.cell? ⟨wr.heap.size, 2, none⟩ = some (.int .i64 a.ep) := (KA.out.cell 2).trans HCA.out
            refine wp_region_first (fun w' => w'.cell? ⟨b, 8, none⟩ = some (.map (some v.m6)) ∧ w'.rangeAt wr.heap.size 0 a.row ∧ MapF w' v.m6 f ∧ w'.cell? ⟨wr.heap.size, 2, none⟩ = some (.int .i64 a.ep)) 16 2 [0, 1, 2, 3, 4, 5, 6, 7, 8, 9, 10, 11, 12, 13] (by kernel_rfl) (by kernel_rfl) ⟨y0, y1, y2, y3⟩ ?_
            simp only [List.filterMap_cons, List.filterMap_nil, List.getElem?_toArray, List.getElem?_cons_zero, List.getElem?_cons_succ]
            show wpQuiet _ _ _ _ [_, _, _, _, _, _, _, _, _, _, _, _, _, _] _
            iterate 3 (go_big_quiet_step ((intros; rfl)))
            refine q_cell 78 _ _ (.map (some v.m6)) rfl rfl rfl (fun w h => by simp [go_sem, h]) (fun w h => h.1) ?_
            simp only [Act.put, List.setIfInBounds_toArray, List.set_cons_zero, List.set_cons_succ]
            iterate 1 (go_big_quiet_step ((intros; rfl)))
            refine q_cell 3 _ _ (.int .i64 a.ep) rfl rfl rfl (fun w h => by simp [go_sem, h]) (fun w h => h.2.2.2) ?_
            simp only [Act.put, List.setIfInBounds_toArray, List.set_cons_zero, List.set_cons_succ]
            iterate 3 (go_big_quiet_step ((intros; rfl)))
            refine q_cell 78 _ _ (.map (some v.m6)) rfl rfl rfl (fun w h => by simp [go_sem, h]) (fun w h => h.1) ?_
            simp only [Act.put, List.setIfInBounds_toArray, List.set_cons_zero, List.set_cons_succ]
            iterate 1 (go_big_quiet_step ((intros; rfl)))
            refine q_cell 3 _ _ (.int .i64 a.ep) rfl rfl rfl (fun w h => by simp [go_sem, h]) (fun w h => h.2.2.2) ?_
            simp only [Act.put, List.setIfInBounds_toArray, List.set_cons_zero, List.set_cons_succ]
            refine q_lookF false _ _ rfl rfl (fun w h => h.2.2.1) Try.underlying3 Try.underlying78 _ nilSAs a.ep rfl rfl HI.out _ HU0.out ?_
            simp only [Act.put, List.setIfInBounds_toArray, List.set_cons_zero, List.set_cons_succ]
            refine q_load_As 47 _ wr.heap.size 0 a _ rfl rfl rfl (fun w' h => h.2.1) Try.underlying47 rfl infoAs ?_
            simp only [Act.put, List.setIfInBounds_toArray, List.set_cons_zero, List.set_cons_succ]
            refine wpQuiet_nil ?_
            obtain ⟨i8, hi, hz, hs1, hby⟩ := appAs
            refine headF_one (i := 14) (by kernel_rfl) (by omega) ?_
            refine wpOp_at rfl rfl (wp_oneAs (.tmp 77) a rfl rfl ⟨⟨cell_alloc_some _ y0, rangeAt_same y1 (Below.heap_alloc _ _ _ KA.out.lt), y2.alloc _, cell_alloc_some _ y3⟩, ?_⟩)
            refine headF_one (i := 15) (by kernel_rfl) (by omega) ?_
            simp only [Act.put, List.getElem_toArray, List.getElem_cons_zero, List.getElem_cons_succ, List.setIfInBounds_toArray, List.set_cons_zero, List.set_cons_succ]
            clear y0 y1 y2 y3
            have HV1 := Lib.hid (HV.out.below (w' := (wr.alloc (.cells (cellsAs a) 47)).drew.alloc (.cells (cellsAs a) 47)) ((Below.refl _ _).alloc (Nat.le_refl _) _))
            have HF1 : Hid (RowsF As.row 3 47 ((wr.alloc (.cells (cellsAs a) 47)).drew.alloc (.cells (cellsAs a) 47)) T1 v.m6 (anAll s2.an (la.take k)) f) := Lib.hid (HF.out.same (Below.heap_alloc _ _ _ HF.out.map.lt) (fun j cur _ hb => Below.heap_alloc _ _ _ hb.lt) (fun _ h => h))
            have HR1 := Lib.hid (ownsR_below HROW.out (w' := (wr.alloc (.cells (cellsAs a) 47)).drew.alloc (.cells (cellsAs a) 47)) ((Below.refl _ _).alloc (Nat.le_refl _) _))
            have KA1 := Lib.hid (KA.out.alloc (.cells (cellsAs a) 47))
            have KN : Hid (Blk ((wr.alloc (.cells (cellsAs a) 47)).drew.alloc (.cells (cellsAs a) 47)) (wr.alloc (.cells (cellsAs a) 47)).drew.heap.size 47 (cellsAs a)) := Lib.hid (Blk.new _ _ _)
            have HT1 : Hid ((∀ i, T i → T1 i) ∧ (∀ i, T1 i → T i ∨ W.heap.size ≤ i) ∧ Kept T W ((wr.alloc (.cells (cellsAs a) 47)).drew.alloc (.cells (cellsAs a) 47))) := Lib.hid ⟨HT.out.1, HT.out.2.1, HT.out.2.2.alloc _⟩
            have HNA : Hid (∀ j, (Value.slice ua q uc).ownBlock = some j → j ≠ wr.heap.size) := Lib.hid (fun j hj he => by
              subst he
              have h1 := HTL.out _ ((HF.out.get a.ep).2 wr.heap.size (by rw [HU0.out]; exact hj))
              omega)
            clear HV HF HROW KA HT HTL
            generalize (wr.alloc (.cells (cellsAs a) 47)).drew.heap.size = nb at *
            generalize (wr.alloc (.cells (cellsAs a) 47)).drew.alloc (.cells (cellsAs a) 47) = W5 at *
            generalize wr.heap.size = ab at *
            clear wr
            refine wpOp_at rfl rfl (wp_append_src _ (.tmp 76) (.tmp 78) 45 rfl 0 47 i8 _ 3 24 Try.underlying45 hi hz hs1 hby rfl (by omega) (.slice ua q uc) q _ rfl HR1.out
              (some ⟨nb, 0, none⟩) 1 1 a.row rfl rfl (fun _ => ⟨_, rfl, fun j u hu => by rw [add_plain, Nat.zero_add]; have := KN.out.rangeAs j u hu; rwa [Nat.zero_add] at this⟩) (As.row_one a) (by have := HLE.out; unfold maxLen; omega) (by have := HLE.out; omega) (by omega) ?_)
            intro s' w3 ho3 hg3 hs3
            have HO3 := Lib.hid ho3
            have HS3 := Lib.hid hs3
            have HG3 := Lib.hid hg3
            have hne : ∀ x t cs, Blk W5 x t cs → (t = 47 → x = ab) → Blk w3 x t cs := fun x t cs hB ht => hB.grown hg3 (fun he => by
              obtain ⟨cur, hB2, _⟩ := ownsR_blk HR1.out he.symm
              by_cases htt : t = 47
              · exact HNA.out x he.symm (ht htt)
              · exact Blk.ne_ hB hB2 htt rfl)
            have B3 := Lib.hid (hne _ _ _ HV1.out.blk (fun he => absurd he (by decide)))
            have KA3 := Lib.hid (hne _ _ _ KA1.out (fun _ => rfl))
            have M3 : Hid (MapF w3 v.m6 f) := Lib.hid (HF1.out.map.grown hg3 (fun he => by
              obtain ⟨cur, hB2, _⟩ := ownsR_blk HR1.out he.symm
              exact map_ne HF1.out.map hB2 rfl))
            refine ⟨⟨B3.out.cell 8, KA3.out.rangeAs, M3.out, (KA3.out.cell 2).trans HCA.out⟩, ?_⟩
            clear ho3 hg3 hs3 hi hz hs1 hby hne B3 KA3 KA1 KN
            simp only [Act.put, List.getElem_toArray, List.getElem_cons_zero, List.getElem_cons_succ, List.setIfInBounds_toArray, List.set_cons_zero, List.set_cons_succ]
            show Region.seqB _ _ _ _ _ = true ∧ _
            refine ⟨by kernel_rfl, ?_⟩
            simp only [Act.put, List.getElem_toArray, List.getElem_cons_zero, List.getElem_cons_succ, List.setIfInBounds_toArray, List.set_cons_zero, List.set_cons_succ, List.drop_succ_cons, List.drop_zero]
            obtain ⟨a', cp', rfl, -, -⟩ := ownsR_slice HO3.out
            go_wp2_with (refine wpList_mapF rfl _ _ _ rfl M3.out Try.underlying3 Try.underlying78 a.ep _ rfl rfl rfl HI.out ?_; intro w6 hm6 hg6)
            have HG6 : Hid (LgGo W T w6 b { s2 with an := pushF (anAll s2.an (la.take k)) a.ep a } n1) := Lib.hid (LgGo.join HT1.out.1 HT1.out.2.1 HT1.out.2.2 (HV1.out.push_an HF1.out (by rw [HU0.out]; exact HG3.out) (by dsimp only; rw [HQ.out]; exact HO3.out) (by rw [HU0.out]; exact HS3.out) hm6 hg6))
            clear hm6 hg6 HO3 HS3 HG3 M3 HV1 HF1 HR1 HT1 HNA
            refine NoPanic.normal ?_
            go_wp2_with (fail)
            go_roundw
            case rel =>
              refine ⟨k + 1, by omega, by go_num, Lib.hid ?_⟩
              rw [HTK.out]
              exact HG6.out
            case measure => simp [intOf]; omega
          · obtain rfl : k = r.an := by omega
            clear hlt
            have hlt : ¬ r.an < r.an := by omega
            have HTA : Hid (la.take r.an = la) := Lib.hid (List.take_of_length_le (by rw [HW.out.at_.an]; exact Nat.le_refl _))
            rw [HTA.out] at HG
            go_wp2_with (fail)
            go_end0
            rw [HS2.out.2]
            exact ⟨rfl, LgGo.after HKW.out HG.out⟩
  · have d : (r.cd != 0) = true := by simpa using hcd
    have HE : Hid (addS s ⟨o, r, la, lp⟩ = s) := Lib.hid (if_neg hcd)
    have x1 := XCD.out
    clear hcd XCD
    go_wp2_with (fail)
    refine bodyPost_ret (results_none rfl _ _ _) rfl ?_
    rw [HE.out]
    exact ⟨rfl, T, ⟨v, HV1.out⟩, fun _ h => h, fun _ h => .inl h, HKW.out.trans HK1.out (fun _ _ h => h)⟩
end Go.Proofs.Ythnhpmeacboljaa
