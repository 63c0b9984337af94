/- The reference's Of. -/
import Derived.Test.YthnhpmeacboljaaRf1
namespace Go.Proofs.Ythnhpmeacboljaa
open Go Go.RowKit Go.Deep
set_option linter.unusedVariables false
set_option linter.unusedSimpArgs false
set_option maxRecDepth 100000

/-- The exit's box, and the result's. -/
structure OfW (w wr : World) (res eb : Nat) (x : Xv) : Prop where
  bel : Below w.heap.size w wr
  kr : Blk wr res 33 (cellsXv xvZ)
  ke : Blk wr eb 33 (cellsXv x)
  ne : res ≠ eb
  ge : w.heap.size ≤ eb ∧ w.heap.size ≤ res
section
variable {w wr w' : World} {res eb : Nat} {x y : Xv}
theorem OfW.below (h : OfW w wr res eb x) (hb : Below wr.heap.size wr w') : OfW w w' res eb x :=
  ⟨h.bel.trans (hb.mono h.bel.size), h.kr.below hb h.kr.lt, h.ke.below hb h.ke.lt, h.ne, h.ge⟩
theorem OfW.alloc (h : OfW w wr res eb x) (o : Obj) : OfW w (wr.alloc o) res eb x := h.below ((Below.refl _ _).alloc (Nat.le_refl _) _)
theorem OfW.set (h : OfW w wr res eb x) (i : Nat) (u : Value) (hy : (cellsXv x).setIfInBounds i u = cellsXv y) : OfW w (wr.setCell ⟨eb, i, none⟩ u) res eb y :=
  ⟨Kept.below (S := fun j => j = eb) h.bel (Kept.setCell (S := fun j => j = eb) (Kept.refl _ _) (p := ⟨eb, i, none⟩) (.inl rfl) _) (fun j hj => by have := h.ge; omega) h.bel.size,
    h.kr.far (p := ⟨eb, i, none⟩) h.ne u, by have := h.ke.set_ i u; rwa [hy] at this, h.ne, h.ge⟩
theorem OfW.cell (h : OfW w wr res eb x) (i : Nat) : wr.cell? ⟨eb, i, none⟩ = (cellsXv x)[i]? := h.ke.cell i
theorem OfW.frz (h : OfW w wr res eb x) (i : Nat) : wr.frozen? ⟨eb, i, none⟩ = false := h.ke.frozen i
end
/-- .. and a receipt's box. -/
structure OfB (w wr : World) (res eb : Nat) (x : Xv) (rx : Nat) (r : Rc) : Prop where
  of : OfW w wr res eb x
  rx : Blk wr rx 60 (cellsRc r)
section
variable {w wr w' : World} {res eb rx : Nat} {x y : Xv} {r : Rc}
theorem OfB.below (h : OfB w wr res eb x rx r) (hb : Below wr.heap.size wr w') : OfB w w' res eb x rx r := ⟨h.of.below hb, h.rx.below hb h.rx.lt⟩
theorem OfB.alloc (h : OfB w wr res eb x rx r) (o : Obj) : OfB w (wr.alloc o) res eb x rx r := h.below ((Below.refl _ _).alloc (Nat.le_refl _) _)
theorem OfB.set (h : OfB w wr res eb x rx r) (i : Nat) (u : Value) (hy : (cellsXv x).setIfInBounds i u = cellsXv y) : OfB w (wr.setCell ⟨eb, i, none⟩ u) res eb y rx r :=
  ⟨h.of.set i u hy, h.rx.far (p := ⟨eb, i, none⟩) (Blk.ne_ h.rx h.of.ke (by decide)) u⟩
end
theorem ex_take {L : List Ev} {i : Int} {k0 : Nat} {e0 : Ev} (h : L[k0]? = some e0 ∧ recB i e0 = true ∧ ∀ (j : Nat) (e' : Ev), j < k0 → L[j]? = some e' → recB i e' = false) (k : Nat) : ((stL (L.take k)).ex i).isSome = decide (k0 < k) := by
  obtain ⟨h1, h2, h3⟩ := h
  by_cases hk : k0 < k
  · rw [(firstZ_some (L := L.take k) (k := k0) (e := e0) (by rw [List.getElem?_take_of_lt hk]; exact h1) h2 (fun j e' hj he => h3 j e' hj (by rwa [List.getElem?_take_of_lt (by omega)] at he))).2]
    simp [hk]
  · rw [(firstZ_none (L := L.take k) (fun j e' he => by
      have hj : j < k := by
        have := (List.getElem?_eq_some_iff.1 he).1
        rw [List.length_take] at this
        omega
      rw [List.getElem?_take_of_lt hj] at he
      exact h3 j e' (by omega) he)).2]
    simp [hk]
theorem run_alloc_XvF (w : World) : (Instr.alloc 33 true (.tuple #[])).run Try.prog w = .ok (.pointer (some ⟨w.heap.size, 0, none⟩)) (w.alloc (.cells (cellsXv xvZ) 33)) := by
  obtain ⟨i, hi, hz, hs, hby⟩ := appXvF
  simp [Instr.alloc, sizeOf, zeroValue, typeInfo, hi, hz, hs, newRow, go_sem, Value.cells]
theorem wp_alloc_XvF {o : Oper} {a : Act} {w : World} {K : Act → World → Prop} {Q : Exit → Act → World → Prop} (ho : o.op = .alloc 33)
    (h : K (a.put o.dst (.pointer (some ⟨w.heap.size, 0, none⟩))) (w.alloc (.cells (cellsXv xvZ) 33))) : o.wp Try.prog a w K Q := by
  unfold Oper.wp execOp
  simp only [ho, Sem.run_bind, run_alloc_XvF w, Result.andThen_ok, Sem.run_pure]
  exact h
set_option maxHeartbeats 6400000 in
theorem of_any (rb : Nat) (L : List Ev) (i : Int) (w : World) (h : RLogAt w rb L) (hl : L.length ≤ 1000000) :
    Calls Try.prog 10 #[.pointer (some ⟨rb, 0, none⟩), .int .i64 i] w fun e w' => e = .returned (.tuple #[.agg (cellsXv ((exitV (stL L) i).getD xvZ)), .bool (exitV (stL L) i).isSome]) ∧ Below w.heap.size w w' := by
  obtain ⟨oa, oc, ra, rc, hL⟩ := h
  have HB1 : Hid (Below w.heap.size w (w.alloc (.cells #[.int .i64 0, .int .i64 0, .int .i64 0, .int .i64 0, .int .i64 0, .int .i64 0, .int .u64 0] 33))) := Lib.hid ((Below.refl _ _).alloc (Nat.le_refl _) _)
  have KR1 : Hid (Blk (w.alloc (.cells #[.int .i64 0, .int .i64 0, .int .i64 0, .int .i64 0, .int .i64 0, .int .i64 0, .int .u64 0] 33)) w.heap.size 33 (cellsXv xvZ)) := Lib.hid (Blk.new _ _ _)
  have HL := Lib.hid hL
  have HLL := Lib.hid hl
  clear hL
  go_enter Try.func10, Try.ntmps10
  go_upto_region 1 with (fail)
  generalize w.alloc (.cells #[.int .i64 0, .int .i64 0, .int .i64 0, .int .i64 0, .int .i64 0, .int .i64 0, .int .u64 0] 33) = W at *
  obtain ⟨res, hrb⟩ : ∃ res, w.heap.size = res := ⟨_, rfl⟩
  rw [hrb] at KR1 ⊢
  have HRW := Lib.hid hrb
  clear hrb
  have HL1 := Lib.hid (HL.out.below HB1.out)
  go_wp2_with (fail)
  refine (first_any rb L i W ⟨oa, oc, ra, rc, HL1.out⟩ hl).mono ?_
  rintro r w' ⟨rfl, rfl⟩
  rcases first_cases L i with ⟨hz, hx, -⟩ | ⟨k0, e0, hk0, hr0, hb0, hz, hx⟩
  · have HE : Hid (exitV (stL L) i = none) := Lib.hid (by unfold exitV; rw [hx]; rfl)
    rw [hz]
    clear hz hx hl HL HL1
    go_wp2_with (first | (refine wpList_build_Xv rfl 33 _ rfl xvZ (by kernel_rfl) ?_) | (refine wpList_store_row rfl _ _ _ rfl res (cellsXv xvZ) rfl rfl 33 _ KR1.out infoXvF rfl (cellsXv_one _) ?_))
    refine bodyPost_ret (v := .tuple #[.agg (cellsXv xvZ), .bool false]) (results_cell_row2 (fn := Try.f10) rfl _ _ res 33 (cellsXv xvZ) (0, 0) _ rfl (KR1.out.setRow (cellsXv xvZ)) Try.underlying33 rfl infoXvF) rfl ⟨?_, ?_⟩
    · rw [HE.out]; rfl
    · have := HB1.out
      rw [HRW.out] at this ⊢
      exact below_row this KR1.out _
  · rw [hz]
    have H0 := Lib.hid (And.intro hk0 (And.intro hr0 hb0))
    have HX := Lib.hid hx
    obtain ⟨n, hn⟩ : ∃ n, L.length = n := ⟨_, rfl⟩
    have HN := Lib.hid hn
    rw [hn] at hl
    have hk0n : k0 < n := by rw [← hn]; exact (List.getElem?_eq_some_iff.1 hk0).1
    have y0 : W.cell? ⟨rb, 0, none⟩ = some (.slice oa n oc) := by rw [← hn]; exact HL1.out.blk.cell 0
    have y1 : W.cell? ⟨rb, 1, none⟩ = some (.slice ra n rc) := by rw [← hn]; exact HL1.out.blk.cell 1
    obtain ⟨g1, o1, h1, r1⟩ := HL1.out.op hk0
    obtain ⟨g2, o2, h2, r2⟩ := HL1.out.rcp hk0
    subst h1 h2
    have x0 : W.cell? ⟨g1, o1 + k0 * 4, none⟩ = some (.int .i64 e0.o.kd) := range0 r1 rfl
    have x4 : W.cell? ⟨g2, o2 + k0 * 9 + 4, none⟩ = some (.int .i64 e0.r.ep) := r2 4 _ rfl
    have x5 : W.cell? ⟨g2, o2 + k0 * 9 + 5, none⟩ = some (.int .i64 e0.r.dl) := r2 5 _ rfl
    have hki : (0 : Int) ≤ (k0 : Int) := by omega
    have hkn : (k0 : Int) < (n : Int) := by omega
    have hk1 : ¬ (k0 : Int) < 0 := by omega
    have hk2 : ¬ (n : Int) ≤ (k0 : Int) := by omega
    clear hz hx hk0 hr0 hb0 hn r1 r2
    generalize hkd : e0.o.kd = kd at *
    generalize hep : e0.r.ep = ep0 at *
    generalize hdl : e0.r.dl = dl0 at *
    have HX0 : Hid (ex0 e0 = ⟨if kd = 2 then 1 else 0, ep0, dl0⟩) := Lib.hid (by
      unfold ex0 clsK
      rw [hkd, hep, hdl]
      by_cases h2 : kd = 2
      · simp [h2]
      · by_cases h3 : kd = 3 ∨ kd = 4 <;> simp [h2, h3])
    clear hkd hep hdl
    go_wp2_with (fail)
    try simp only [Act.put]
    refine wp_region_first (fun w' => w'.cell? ⟨rb, 1, none⟩ = some (.slice (some ⟨g2, o2, none⟩) n rc) ∧ w'.cell? ⟨g2, o2 + k0 * 9 + 4, none⟩ = some (.int .i64 ep0) ∧ w'.cell? ⟨g2, o2 + k0 * 9 + 5, none⟩ = some (.int .i64 dl0)) 18 1 [0, 1, 2, 3, 4, 5, 6, 7, 8, 9, 10, 11, 12, 13, 14, 15, 16] (by kernel_rfl) (by kernel_rfl) ⟨y1, x4, x5⟩ ?_
    simp only [List.filterMap_cons, List.filterMap_nil, List.getElem?_toArray, List.getElem?_cons_zero, List.getElem?_cons_succ]
    show wpQuiet _ _ _ _ [_, _, _, _, _, _, _, _, _, _, _, _, _, _, _, _, _] _
    iterate 3 (go_big_quiet_step ((intros; rfl)))
    refine q_cell 66 _ _ (.slice (some ⟨g2, o2, none⟩) n rc) rfl rfl rfl (fun w h => by simp [go_sem, h]) (fun w h => h.1) ?_
    simp only [Act.put, List.setIfInBounds_toArray, List.set_cons_zero, List.set_cons_succ]
    iterate 3 (go_big_quiet_step ((intros; rfl)))
    refine q_cell 3 _ _ (.int .i64 ep0) rfl rfl rfl (fun w h => by simp [go_sem, h]) (fun w h => h.2.1) ?_
    simp only [Act.put, List.setIfInBounds_toArray, List.set_cons_zero, List.set_cons_succ]
    iterate 3 (go_big_quiet_step ((intros; rfl)))
    refine q_cell 66 _ _ (.slice (some ⟨g2, o2, none⟩) n rc) rfl rfl rfl (fun w h => by simp [go_sem, h]) (fun w h => h.1) ?_
    simp only [Act.put, List.setIfInBounds_toArray, List.set_cons_zero, List.set_cons_succ]
    iterate 3 (go_big_quiet_step ((intros; rfl)))
    refine q_cell 3 _ _ (.int .i64 dl0) rfl rfl rfl (fun w h => by simp [go_sem, h]) (fun w h => h.2.2) ?_
    simp only [Act.put, List.setIfInBounds_toArray, List.set_cons_zero, List.set_cons_succ]
    refine q_build_Xv 33 _ rfl rfl ⟨0, ep0, dl0, -1, -1, -1, 0⟩ (by kernel_rfl) ?_
    simp only [Act.put, List.setIfInBounds_toArray, List.set_cons_zero, List.set_cons_succ]
    refine wpQuiet_nil ?_
    refine headF_one (i := 17) (by kernel_rfl) (by omega) ?_
    refine wpOp_at rfl rfl (wp_alloc_XvF rfl ⟨⟨cell_alloc_some _ y1, cell_alloc_some _ x4, cell_alloc_some _ x5⟩, ?_⟩)
    simp only [Act.put, List.getElem_toArray, List.getElem_cons_zero, List.getElem_cons_succ, List.setIfInBounds_toArray, List.set_cons_zero, List.set_cons_succ]
    show Region.seqB _ _ _ _ _ = true ∧ _
    refine ⟨by kernel_rfl, ?_⟩
    simp only [Act.put, List.getElem_toArray, List.getElem_cons_zero, List.getElem_cons_succ, List.setIfInBounds_toArray, List.set_cons_zero, List.set_cons_succ, List.drop_succ_cons, List.drop_zero]
    go_wp2_with (refine wpList_store_row rfl _ _ _ rfl W.drew.heap.size (cellsXv ⟨0, ep0, dl0, -1, -1, -1, 0⟩) rfl rfl 33 _ (heap_alloc_new W.drew _) infoXvF rfl (cellsXv_one _) ?_; rw [World.setRow_alloc_new])
    have HO : Hid (OfW w (W.alloc (.cells (cellsXv ⟨0, ep0, dl0, -1, -1, -1, 0⟩) 33)).drew res W.heap.size ⟨0, ep0, dl0, -1, -1, -1, 0⟩) := Lib.hid
      ⟨(HB1.out.alloc HB1.out.size _).drew, (KR1.out.alloc _).drew, (Blk.new W _ _).drew, Nat.ne_of_lt KR1.out.lt, ⟨HB1.out.size, by rw [HRW.out]; exact Nat.le_refl _⟩⟩
    have HL2 := Lib.hid (HL1.out.below (w' := (W.alloc (.cells (cellsXv ⟨0, ep0, dl0, -1, -1, -1, 0⟩) 33)).drew) ((Below.refl _ _).alloc (Nat.le_refl _) _).drew)
    have z0 : (W.alloc (.cells (cellsXv ⟨0, ep0, dl0, -1, -1, -1, 0⟩) 33)).drew.cell? ⟨rb, 0, none⟩ = some (.slice (some ⟨g1, o1, none⟩) n oc) := cell_alloc_some _ y0
    have z1 : (W.alloc (.cells (cellsXv ⟨0, ep0, dl0, -1, -1, -1, 0⟩) 33)).drew.cell? ⟨g1, o1 + k0 * 4, none⟩ = some (.int .i64 kd) := cell_alloc_some _ x0
    clear y0 y1 x0 x4 x5 HL1 HB1 KR1
    generalize W.heap.size = eb at *
    generalize (W.alloc (.cells (cellsXv ⟨0, ep0, dl0, -1, -1, -1, 0⟩) 33)).drew = W2 at *
    clear W
    refine NoPanic.normal ?_
    have HJ : Hid (∃ w3 : World, True) := Lib.hid ⟨W2, trivial⟩
    clear HJ
    have c0 : W2.cell? ⟨eb, 0, none⟩ = some (.int .i64 0) := HO.out.cell 0
    have f0 : W2.frozen? ⟨eb, 0, none⟩ = false := HO.out.frz 0
    have HCB : Hid (∃ cb, (kd == 2) = cb) := Lib.hid ⟨_, rfl⟩
    obtain ⟨cb, hcb⟩ := HCB.out
    have HCL : Hid ((if kd = 2 then (1 : Int) else 0) = if cb = true then 1 else 0) := Lib.hid (by
      rw [← hcb]
      by_cases h2 : kd = 2 <;> simp [h2])
    clear HCB
    obtain ⟨cl, hcl⟩ : ∃ cl : Int, (if cb = true then (1 : Int) else 0) = cl := ⟨_, rfl⟩
    rw [HCL.out, hcl] at HX0
    go_upto_if 47 with (fail)
    go_cut [] from 48 to 48 (fun wx => Hid (OfW w wx res eb ⟨cl, ep0, dl0, -1, -1, -1, 0⟩))
    case first =>
      cases cb with
      | true =>
        have HS : Hid (OfW w (W2.setCell ⟨eb, 0, none⟩ (.int .i64 1)) res eb ⟨cl, ep0, dl0, -1, -1, -1, 0⟩) := Lib.hid (HO.out.set 0 (.int .i64 1) (by rw [← hcl]; rfl))
        go_wp2_with (fail)
        go_meet
        exact HS
      | false =>
        have HS : Hid (OfW w W2 res eb ⟨cl, ep0, dl0, -1, -1, -1, 0⟩) := Lib.hid (by rw [← hcl]; exact HO.out)
        go_wp2_with (fail)
        go_meet
        exact HS
    case rest =>
      have HO3 := hcut
      clear hcut HO HCL hcb hcl c0 f0 z0 z1 HL2
      have HY0 : Hid (∀ wx, Below w.heap.size w wx → RLg wx rb L (some ⟨g1, o1, none⟩) oc (some ⟨g2, o2, none⟩) rc) := Lib.hid (fun wx hb => HL.out.below hb)
      have y0 : wc.cell? ⟨rb, 0, none⟩ = some (.slice (some ⟨g1, o1, none⟩) n oc) := by rw [← HN.out]; exact (HY0.out wc HO3.out.bel).blk.cell 0
      have HXK := Lib.hid (ex_take H0.out)
      clear HL H0 hki hkn hk1 hk2
      go_wp2_with (fail)
      have HO4 : Hid (OfW w wc res eb (xvOf (ex0 e0) none none none)) := Lib.hid (by rw [HX0.out]; exact HO3.out)
      clear HO3 y0
      obtain ⟨w0, hw0⟩ : ∃ w0, wc = w0 := ⟨_, rfl⟩
      subst hw0
      generalize ex0 e0 = x0 at *
      clear HX0
      go_loopw [8, 9, 10, 11] (fun s8 s9 s10 s11 wr => ∃ (k : Nat) (ag sl : Option Int) (pd : Option (Int × Int)), k ≤ n ∧ s11 = .int .i64 k ∧ s8 = .bool ag.isSome ∧ s9 = .bool sl.isSome ∧ s10 = .bool pd.isSome ∧ Hid (ag = (stL (L.take k)).ag i ∧ sl = (stL (L.take k)).sl i ∧ pd = (stL (L.take k)).pd i ∧ OfW w wr res eb (xvOf x0 ag sl pd))) (fun _ _ _ s11 _ => n - (intOf s11).toNat)
      case atStart => exact ⟨0, none, none, none, by omega, rfl, rfl, rfl, rfl, Lib.hid ⟨rfl, rfl, rfl, HO4.out⟩⟩
      case round =>
        clear HO4
        obtain ⟨k, ag, sl, pd, hk, rfl, rfl, rfl, rfl, HR⟩ := hrel
        have HRL := Lib.hid (HY0.out wr HR.out.2.2.2.bel)
        have y0 : wr.cell? ⟨rb, 0, none⟩ = some (.slice (some ⟨g1, o1, none⟩) n oc) := by rw [← HN.out]; exact HRL.out.blk.cell 0
        by_cases hlt : k < n
        · obtain ⟨e, he⟩ : ∃ e, L[k]? = some e := ⟨_, List.getElem?_eq_getElem (by rw [HN.out]; exact hlt)⟩
          have HE := Lib.hid he
          have y1 : wr.cell? ⟨rb, 1, none⟩ = some (.slice (some ⟨g2, o2, none⟩) n rc) := by rw [← HN.out]; exact HRL.out.blk.cell 1
          obtain ⟨g1', o1', hq1, r1⟩ := HRL.out.op he
          obtain ⟨g2', o2', hq2, r2⟩ := HRL.out.rcp he
          injection hq1 with hq1; injection hq1 with hq1 hq1b; subst hq1 hq1b
          injection hq2 with hq2; injection hq2 with hq2 hq2b; subst hq2 hq2b
          have RR := Lib.hid r2
          have RO := Lib.hid (range0 r1 rfl : wr.cell? ⟨g1, o1 + k * 4, none⟩ = some (.int .i64 e.o.kd))
          have HAT : Hid (∀ wx, Below w.heap.size w wx → RcAt wx (fun _ => False) e.r e.la e.lp) := Lib.hid (fun wx hb => (HY0.out wx hb).at_ e (List.mem_of_getElem? he))
          have HTK := Lib.hid (stL_take he)
          have hki : (0 : Int) ≤ (k : Int) := by omega
          have hkn : (k : Int) < (n : Int) := by omega
          have hk1 : ¬ (k : Int) < 0 := by omega
          have hk2 : ¬ (n : Int) ≤ (k : Int) := by omega
          clear he r1 r2
          go_upto_region 14 with (first | (refine wpList_load_Rc rfl 60 _ rfl g2 (o2 + k * 9) rfl e.r _ RR.out Try.underlying60 rfl infoRc ?_) | (refine wpList_store_row rfl _ _ _ rfl wr.heap.size (cellsRc e.r) rfl rfl 60 _ (heap_alloc_new wr _) infoRc rfl (cellsRc_one _) ?_; rw [World.setRow_alloc_new]))
          have HB : Hid (OfB w (wr.alloc (.cells (cellsRc e.r) 60)) res eb (xvOf x0 ag sl pd) wr.heap.size e.r) := Lib.hid ⟨HR.out.2.2.2.alloc _, Blk.new _ _ _⟩
          have HSK : Hid (ag = (stL (L.take k)).ag i ∧ sl = (stL (L.take k)).sl i ∧ pd = (stL (L.take k)).pd i) := Lib.hid ⟨HR.out.1, HR.out.2.1, HR.out.2.2.1⟩
          have RO2 := Lib.hid (cell_alloc_some (.cells (cellsRc e.r) 60) RO.out)
          have Y2 := Lib.hid (cell_alloc_some (.cells (cellsRc e.r) 60) y0)
          clear HR HRL y0 y1 RR RO
          generalize wr.heap.size = rx at *
          generalize wr.alloc (.cells (cellsRc e.r) 60) = W3 at *
          clear wr
          have c1 : W3.cell? ⟨rx, 1, none⟩ = some (.int .i64 e.r.cd) := HB.out.rx.cell 1
          by_cases hcd : e.r.cd = 0
          · have c1' : W3.cell? ⟨rx, 1, none⟩ = some (.int .i64 0) := by rw [← hcd]; exact c1
            clear c1
            have HSL : Hid ((stL (L.take (k + 1))).sl i = if e.o.kd = 4 ∧ e.r.ix = i ∧ sl = none then some e.r.ep else sl) := Lib.hid (by
              rw [HTK.out, addS_sl, HSK.out.2.1]
              by_cases h4 : e.o.kd = 4
              · rw [if_pos ⟨hcd, h4⟩, keepF_at]
                by_cases hi : i = e.r.ix
                · subst hi
                  cases hs : (stL (L.take k)).sl e.r.ix <;> simp [h4]
                · have hi' : ¬ e.r.ix = i := fun h => hi h.symm
                  simp [hi, hi', h4]
              · rw [if_neg (fun h => h4 h.2)]
                simp [h4])
            have HAG : Hid ((stL (L.take (k + 1))).ag i = agAll (stL (L.take k)).ex (stL (L.take k)).ag e.la i) := Lib.hid (by rw [HTK.out, addS_ag, if_pos hcd])
            have HPD : Hid ((stL (L.take (k + 1))).pd i = pdAll e.r.ep (stL (L.take k)).pd e.lp i) := Lib.hid (by rw [HTK.out, addS_pd, if_pos hcd])
            clear hcd
            have xo := RO2.out
            have x2 : W3.cell? ⟨rx, 2, none⟩ = some (.int .i64 e.r.ix) := HB.out.rx.cell 2
            have x4 : W3.cell? ⟨rx, 4, none⟩ = some (.int .i64 e.r.ep) := HB.out.rx.cell 4
            have q4 : W3.cell? ⟨eb, 4, none⟩ = some (.int .i64 (sl.getD (-1))) := HB.out.of.cell 4
            have f4 : W3.frozen? ⟨eb, 4, none⟩ = false := HB.out.of.frz 4
            have y0 := Y2.out
            generalize hkd2 : e.o.kd = kd2 at *
            generalize hix : e.r.ix = ix at *
            generalize hep : e.r.ep = ep at *
            obtain ⟨sl2, hsl2⟩ : ∃ sl2, (if kd2 = 4 ∧ ix = i ∧ sl = none then some ep else sl) = sl2 := ⟨_, rfl⟩
            have HSL2 := Lib.hid hsl2
            rw [hsl2] at HSL
            clear hsl2 RO2 Y2
            obtain ⟨hit, hhit⟩ : ∃ hit, decide (kd2 = 4 ∧ ix = i ∧ sl = none) = hit := ⟨_, rfl⟩
            have HH := Lib.hid hhit
            clear hhit
            go_upto_region 15 with (fail)
            go_cut [86] from 49 to 150 (fun s86 wx => s86 = .bool hit ∧ wx = W3)
            case first =>
              cases sl with
              | some v =>
                have hd : Hid (hit = false) := Lib.hid (by rw [← HH.out]; simp)
                go_wp2_with (fail)
                go_meet
                exact ⟨by rw [hd.out], rfl⟩
              | none =>
                by_cases h4 : kd2 = 4
                · subst h4
                  by_cases hi : ix = i
                  · have hd : Hid (hit = true) := Lib.hid (by rw [← HH.out]; simp [hi])
                    have hb : (ix == i) = true := by simpa using hi
                    clear hi
                    go_wp2_with (fail)
                    go_meet
                    exact ⟨by rw [hd.out], rfl⟩
                  · have hd : Hid (hit = false) := Lib.hid (by rw [← HH.out]; simp [hi])
                    have hb : (ix == i) = false := by simpa using hi
                    clear hi
                    go_wp2_with (fail)
                    go_meet
                    exact ⟨by rw [hd.out], rfl⟩
                · have hd : Hid (hit = false) := Lib.hid (by rw [← HH.out]; simp [h4])
                  have hb : (kd2 == 4) = false := by simpa using h4
                  clear h4
                  go_wp2_with (fail)
                  go_meet
                  exact ⟨by rw [hd.out], rfl⟩
            case rest =>
              obtain ⟨h86, hw3⟩ := hcut
              have hw3' := hw3.symm
              subst hw3'
              subst h86
              clear hw3
              go_upto_if 86 with (fail)
              go_cut [9] from 49 to 150 (fun s9 wx => s9 = .bool sl2.isSome ∧ Hid (OfB w wx res eb (xvOf x0 ag sl2 pd) rx e.r))
              case first =>
                cases hit with
                | true =>
                  have H2 : Hid (sl2 = some ep) := Lib.hid (by rw [← HSL2.out, if_pos (of_decide_eq_true HH.out)])
                  have HB5 : Hid (OfB w (W3.setCell ⟨eb, 4, none⟩ (.int .i64 ep)) res eb (xvOf x0 ag sl2 pd) rx e.r) := Lib.hid (HB.out.set 4 (.int .i64 ep) (by rw [H2.out]; rfl))
                  go_wp2_with (fail)
                  go_meet
                  exact ⟨by rw [H2.out]; rfl, HB5⟩
                | false =>
                  have H2 : Hid (sl2 = sl) := Lib.hid (by rw [← HSL2.out, if_neg (of_decide_eq_false HH.out)])
                  go_wp2_with (fail)
                  go_meet
                  exact ⟨by rw [H2.out], by rw [H2.out]; exact HB⟩
              case rest =>
                obtain ⟨h9, HB5⟩ := hcut
                subst h9
                clear HSL2 HH HB c1' q4 f4 y0 xo x2 x4
                clear W3
                have x6 : wc.cell? ⟨rx, 6, none⟩ = some (.slice e.r.aa e.r.an e.r.ac) := HB5.out.rx.cell 6
                have han : e.r.an ≤ 9223372036854775807 := by have := (HAT.out wc HB5.out.of.bel).ac; unfold maxLen at this; omega
                have hpn : e.r.pn ≤ 9223372036854775807 := by have := (HAT.out wc HB5.out.of.bel).pc; unfold maxLen at this; omega
                have HLA : Hid (e.la.length = e.r.an ∧ e.lp.length = e.r.pn) := Lib.hid ⟨(HAT.out wc HB5.out.of.bel).an, (HAT.out wc HB5.out.of.bel).pn⟩
                obtain ⟨an, hAn⟩ : ∃ an, e.r.an = an := ⟨_, rfl⟩
                obtain ⟨pn, hPn⟩ : ∃ pn, e.r.pn = pn := ⟨_, rfl⟩
                have HAP := Lib.hid (And.intro hAn hPn)
                rw [hAn] at x6 han HLA
                rw [hPn] at hpn HLA
                clear hAn hPn
                go_wp2_with (fail)
                have HB6 : Hid (OfB w wc res eb (xvOf x0 (agAll (stL (L.take k)).ex (stL (L.take k)).ag (e.la.take 0) i) sl2 pd) rx e.r) := Lib.hid (by
                  have := HB5.out
                  rw [HSK.out.1] at this
                  exact this)
                have HAG0 : Hid (ag = agAll (stL (L.take k)).ex (stL (L.take k)).ag (e.la.take 0) i) := Lib.hid HSK.out.1
                obtain ⟨wb, hwb⟩ : ∃ wb, wc = wb := ⟨_, rfl⟩
                subst hwb
                go_loopw [8, 13] (fun s8 s13 wr => ∃ (j : Nat) (ag' : Option Int), j ≤ an ∧ s13 = .int .i64 j ∧ s8 = .bool ag'.isSome ∧ Hid (ag' = agAll (stL (L.take k)).ex (stL (L.take k)).ag (e.la.take j) i ∧ OfB w wr res eb (xvOf x0 ag' sl2 pd) rx e.r)) (fun _ s13 _ => an - (intOf s13).toNat)
                case atStart =>
                  refine ⟨0, ag, by omega, rfl, rfl, Lib.hid ⟨HAG0.out, ?_⟩⟩
                  rw [HAG0.out]
                  exact HB6.out
                case round =>
                  clear HB6 HAG0 HB5 x6
                  obtain ⟨j, ag', hj, rfl, rfl, HJ⟩ := hrel
                  have x6 : wr.cell? ⟨rx, 6, none⟩ = some (.slice e.r.aa an e.r.ac) := by rw [← HAP.out.1]; exact HJ.out.2.rx.cell 6
                  by_cases hlj : j < an
                  · obtain ⟨a, ha⟩ : ∃ a, e.la[j]? = some a := ⟨_, List.getElem?_eq_getElem (by rw [HLA.out.1]; exact hlj)⟩
                    obtain ⟨g3, o3, hg3, _, _, r3⟩ := (HAT.out wr HJ.out.2.of.bel).asg.at ha
                    have a0 : wr.cell? ⟨g3, o3 + j * 3, none⟩ = some (.int .i64 a.ix) := range0 r3 rfl
                    have a2 : wr.cell? ⟨g3, o3 + j * 3 + 2, none⟩ = some (.int .i64 a.ep) := r3 2 _ rfl
                    have q3 : wr.cell? ⟨eb, 3, none⟩ = some (.int .i64 (ag'.getD (-1))) := HJ.out.2.of.cell 3
                    have f3 : wr.frozen? ⟨eb, 3, none⟩ = false := HJ.out.2.of.frz 3
                    have HNX : Hid (agAll (stL (L.take k)).ex (stL (L.take k)).ag (e.la.take (j + 1)) i = if i = a.ix ∧ k0 < k ∧ ag' = none then some a.ep else ag') := Lib.hid (by
                      rw [agAll_take ha, agS_at, HXK.out k, ← HJ.out.1]
                      by_cases h1 : i = a.ix <;> by_cases h2 : k0 < k <;> cases ag' <;> simp [h1, h2])
                    rw [hg3] at x6
                    have hji : (0 : Int) ≤ (j : Int) := by omega
                    have hjn : (j : Int) < (an : Int) := by omega
                    have hj1 : ¬ (j : Int) < 0 := by omega
                    have hj2 : ¬ (an : Int) ≤ (j : Int) := by omega
                    clear ha hg3 r3
                    generalize a.ix = ai at *
                    generalize a.ep = ae at *
                    generalize e.r.aa = eaa at *
                    cases ag' with
                    | some v =>
                      go_wp2_with (fail)
                      go_roundw
                      case rel => exact ⟨j + 1, some v, by omega, by go_num, rfl, Lib.hid ⟨by rw [HNX.out]; simp, HJ.out.2⟩⟩
                      case measure => simp [intOf]; omega
                    | none =>
                      by_cases hkk : k0 < k
                      · have d1 : decide ((k0 : Int) < (k : Int)) = true := decide_eq_true (by omega)
                        have d2 : decide (k0 < k) = true := decide_eq_true hkk
                        by_cases hi : i = ai
                        · have hb : (ai == i) = true := by simpa using hi.symm
                          have H2 : Hid (agAll (stL (L.take k)).ex (stL (L.take k)).ag (e.la.take (j + 1)) i = some ae) := Lib.hid (by rw [HNX.out, if_pos ⟨hi, hkk, rfl⟩])
                          have HB7 : Hid (OfB w (wr.setCell ⟨eb, 3, none⟩ (.int .i64 ae)) res eb (xvOf x0 (some ae) sl2 pd) rx e.r) := Lib.hid (HJ.out.2.set 3 (.int .i64 ae) rfl)
                          clear hi hkk
                          go_wp2_with (fail)
                          go_roundw
                          case rel => exact ⟨j + 1, some ae, by omega, by go_num, rfl, Lib.hid ⟨H2.out.symm, HB7.out⟩⟩
                          case measure => simp [intOf]; omega
                        · have hb : (ai == i) = false := by simpa using fun h => hi h.symm
                          have H2 : Hid (agAll (stL (L.take k)).ex (stL (L.take k)).ag (e.la.take (j + 1)) i = none) := Lib.hid (by rw [HNX.out, if_neg (fun h => hi h.1)])
                          clear hi hkk
                          go_wp2_with (fail)
                          go_roundw
                          case rel => exact ⟨j + 1, none, by omega, by go_num, rfl, Lib.hid ⟨H2.out.symm, HJ.out.2⟩⟩
                          case measure => simp [intOf]; omega
                      · have d1 : decide ((k0 : Int) < (k : Int)) = false := decide_eq_false (by omega)
                        have d2 : decide (k0 < k) = false := decide_eq_false hkk
                        have H2 : Hid (agAll (stL (L.take k)).ex (stL (L.take k)).ag (e.la.take (j + 1)) i = none) := Lib.hid (by rw [HNX.out, if_neg (fun h => hkk h.2.1)])
                        clear hkk
                        go_wp2_with (fail)
                        go_roundw
                        case rel => exact ⟨j + 1, none, by omega, by go_num, rfl, Lib.hid ⟨H2.out.symm, HJ.out.2⟩⟩
                        case measure => simp [intOf]; omega
                  · obtain rfl : j = an := by omega
                    clear hlj
                    have hlj : ¬ j < j := by omega
                    have HA2 : Hid (ag' = (stL (L.take (k + 1))).ag i) := Lib.hid (by
                      rw [HAG.out, HJ.out.1, show e.la.take j = e.la from List.take_of_length_le (by rw [HLA.out.1]; exact Nat.le_refl _)])
                    have HB7 := Lib.hid HJ.out.2
                    have HPN : Hid (e.lp.length = pn ∧ e.r.pn = pn) := Lib.hid ⟨HLA.out.2, HAP.out.2⟩
                    have x7 : wr.cell? ⟨rx, 7, none⟩ = some (.slice e.r.pa pn e.r.pc) := by rw [← HAP.out.2]; exact HB7.out.rx.cell 7
                    clear HJ HAG HLA HAP
                    go_wp2_with (fail)
                    clear x6 x7
                    have HPD0 : Hid (pd = pdAll ep (stL (L.take k)).pd (e.lp.take 0) i) := Lib.hid HSK.out.2.2
                    obtain ⟨wd, hwd⟩ : ∃ wd, wr = wd := ⟨_, rfl⟩
                    subst hwd
                    go_loopw [10, 14] (fun s10 s14 wr => ∃ (j : Nat) (pd' : Option (Int × Int)), j ≤ pn ∧ s14 = .int .i64 j ∧ s10 = .bool pd'.isSome ∧ Hid (pd' = pdAll ep (stL (L.take k)).pd (e.lp.take j) i ∧ OfB w wr res eb (xvOf x0 ag' sl2 pd') rx e.r)) (fun _ s14 _ => pn - (intOf s14).toNat)
                    case atStart => exact ⟨0, pd, by omega, rfl, rfl, Lib.hid ⟨HPD0.out, HB7.out⟩⟩
                    case round =>
                      clear HPD0 HB7
                      obtain ⟨m, pd', hm, rfl, rfl, HJ⟩ := hrel
                      have x7 : wr.cell? ⟨rx, 7, none⟩ = some (.slice e.r.pa pn e.r.pc) := by rw [← HPN.out.2]; exact HJ.out.2.rx.cell 7
                      by_cases hlm : m < pn
                      · obtain ⟨p, hp⟩ : ∃ p, e.lp[m]? = some p := ⟨_, List.getElem?_eq_getElem (by rw [HPN.out.1]; exact hlm)⟩
                        obtain ⟨g3, o3, hg3, _, _, r3⟩ := (HAT.out wr HJ.out.2.of.bel).pay.at hp
                        have RP := Lib.hid r3
                        have HNX : Hid (pdAll ep (stL (L.take k)).pd (e.lp.take (m + 1)) i = if p.fl = true ∧ i = p.ix ∧ pd' = none then some (ep, p.am) else pd') := Lib.hid (by
                          rw [pdAll_take hp, pdS_at, ← HJ.out.1]
                          by_cases h1 : p.fl = true <;> by_cases h2 : i = p.ix <;> cases pd' <;> simp [h1, h2])
                        rw [hg3] at x7
                        have hmi : (0 : Int) ≤ (m : Int) := by omega
                        have hmn : (m : Int) < (pn : Int) := by omega
                        have hm1 : ¬ (m : Int) < 0 := by omega
                        have hm2 : ¬ (pn : Int) ≤ (m : Int) := by omega
                        clear hp hg3 r3
                        generalize e.r.pa = epa at *
                        go_upto_region 28 with (first | (refine wpList_load_Pm rfl 41 _ rfl g3 (o3 + m * 3) rfl p _ RP.out Try.underlying41 rfl infoPm ?_) | (refine wpList_store_row rfl _ _ _ rfl wr.heap.size (cellsPm p) rfl rfl 41 _ (heap_alloc_new wr _) infoPm rfl (cellsPm_one _) ?_; rw [World.setRow_alloc_new]))
                        have HB8 : Hid (OfB w (wr.alloc (.cells (cellsPm p) 41)) res eb (xvOf x0 ag' sl2 pd') rx e.r) := Lib.hid (HJ.out.2.alloc _)
                        have KP : Hid (Blk (wr.alloc (.cells (cellsPm p) 41)) wr.heap.size 41 (cellsPm p)) := Lib.hid (Blk.new _ _ _)
                        clear HJ x7 RP
                        generalize wr.heap.size = px at *
                        generalize wr.alloc (.cells (cellsPm p) 41) = W6 at *
                        clear wr
                        have p0 : W6.cell? ⟨px, 0, none⟩ = some (.int .i64 p.ix) := KP.out.cell 0
                        have p2 : W6.cell? ⟨px, 2, none⟩ = some (.bool p.fl) := KP.out.cell 2
                        have KPC : Hid ((cellsPm p)[1]? = some (.int .u64 p.am)) := Lib.hid rfl
                        generalize hpi : p.ix = pi at *
                        generalize hpf : p.fl = pf at *
                        generalize hpa : p.am = pam at *
                        clear hpi hpf hpa
                        cases pd' with
                        | some v =>
                          go_wp2_with (fail)
                          go_roundw
                          case rel => exact ⟨m + 1, some v, by omega, by go_num, rfl, Lib.hid ⟨by rw [HNX.out]; simp, HB8.out⟩⟩
                          case measure => simp [intOf]; omega
                        | none =>
                          cases pf with
                          | false =>
                            go_wp2_with (fail)
                            go_roundw
                            case rel => exact ⟨m + 1, none, by omega, by go_num, rfl, Lib.hid ⟨by rw [HNX.out]; simp, HB8.out⟩⟩
                            case measure => simp [intOf]; omega
                          | true =>
                            by_cases hi : i = pi
                            · have hb : (pi == i) = true := by simpa using hi.symm
                              have H2 : Hid (pdAll ep (stL (L.take k)).pd (e.lp.take (m + 1)) i = some (ep, pam)) := Lib.hid (by rw [HNX.out, if_pos ⟨rfl, hi, rfl⟩])
                              have r4 : W6.cell? ⟨rx, 4, none⟩ = some (.int .i64 ep) := by rw [← hep]; exact HB8.out.rx.cell 4
                              have q5 : W6.cell? ⟨eb, 5, none⟩ = some (.int .i64 (-1)) := HB8.out.of.cell 5
                              have f5 : W6.frozen? ⟨eb, 5, none⟩ = false := HB8.out.of.frz 5
                              have HB9 : Hid (OfB w (W6.setCell ⟨eb, 5, none⟩ (.int .i64 ep)) res eb (xvOf x0 ag' sl2 (some (ep, 0))) rx e.r) := Lib.hid (HB8.out.set 5 (.int .i64 ep) rfl)
                              have KP9 : Hid (Blk (W6.setCell ⟨eb, 5, none⟩ (.int .i64 ep)) px 41 (cellsPm p)) := Lib.hid (KP.out.far (p := ⟨eb, 5, none⟩) (Blk.ne_ KP.out HB8.out.of.ke (by decide)) _)
                              clear hi
                              go_upto_region 30 with (fail)
                              generalize W6.setCell ⟨eb, 5, none⟩ (.int .i64 ep) = W7 at *
                              clear p0 p2 r4 q5 f5 HB8 KP
                              clear W6
                              have p1 : W7.cell? ⟨px, 1, none⟩ = some (.int .u64 pam) := (KP9.out.cell 1).trans KPC.out
                              have q6 : W7.cell? ⟨eb, 6, none⟩ = some (.int .u64 0) := HB9.out.of.cell 6
                              have f6 : W7.frozen? ⟨eb, 6, none⟩ = false := HB9.out.of.frz 6
                              have HB10 : Hid (OfB w (W7.setCell ⟨eb, 6, none⟩ (.int .u64 pam)) res eb (xvOf x0 ag' sl2 (some (ep, pam))) rx e.r) := Lib.hid (HB9.out.set 6 (.int .u64 pam) rfl)
                              go_wp2_with (fail)
                              go_roundw
                              case rel => exact ⟨m + 1, some (ep, pam), by omega, by go_num, rfl, Lib.hid ⟨H2.out.symm, HB10.out⟩⟩
                              case measure => simp [intOf]; omega
                            · have hb : (pi == i) = false := by simpa using fun h => hi h.symm
                              have H2 : Hid (pdAll ep (stL (L.take k)).pd (e.lp.take (m + 1)) i = none) := Lib.hid (by rw [HNX.out, if_neg (fun h => hi h.2.1)])
                              clear hi
                              go_wp2_with (fail)
                              go_roundw
                              case rel => exact ⟨m + 1, none, by omega, by go_num, rfl, Lib.hid ⟨H2.out.symm, HB8.out⟩⟩
                              case measure => simp [intOf]; omega
                      · obtain rfl : m = pn := by omega
                        clear hlm
                        have hlm : ¬ m < m := by omega
                        have HP2 : Hid (pd' = (stL (L.take (k + 1))).pd i) := Lib.hid (by
                          rw [HPD.out, HJ.out.1, show e.lp.take m = e.lp from List.take_of_length_le (by rw [HPN.out.1]; exact Nat.le_refl _)])
                        have HB8 := Lib.hid HJ.out.2.of
                        clear HJ HPD
                        go_wp2_with (fail)
                        go_roundw
                        case rel => exact ⟨k + 1, ag', sl2, pd', by omega, by go_num, rfl, rfl, rfl, Lib.hid ⟨HA2.out, HSL.out.symm, HP2.out, HB8.out⟩⟩
                        case measure => simp [intOf]; omega
          · have d : (e.r.cd != 0) = true := by simpa using hcd
            have HS : Hid ((stL (L.take (k + 1))).ag i = (stL (L.take k)).ag i ∧ (stL (L.take (k + 1))).sl i = (stL (L.take k)).sl i ∧ (stL (L.take (k + 1))).pd i = (stL (L.take k)).pd i) := Lib.hid (by
              rw [HTK.out, addS_ag, addS_sl, addS_pd, if_neg hcd, if_neg hcd, if_neg (fun h => hcd h.1)]
              exact ⟨rfl, rfl, rfl⟩)
            clear hcd
            go_wp2_with (fail)
            go_roundw
            case rel =>
              refine ⟨k + 1, ag, sl, pd, by omega, by go_num, rfl, rfl, rfl, Lib.hid ⟨?_, ?_, ?_, HB.out.of⟩⟩
              · rw [HS.out.1]; exact HSK.out.1
              · rw [HS.out.2.1]; exact HSK.out.2.1
              · rw [HS.out.2.2]; exact HSK.out.2.2
            case measure => simp [intOf]; omega
        · obtain rfl : k = n := by omega
          clear hlt
          have hlt : ¬ k < k := by omega
          have hT : L.take k = L := List.take_of_length_le (by rw [HN.out]; exact Nat.le_refl _)
          have HF : Hid (exitV (stL L) i = some (xvOf x0 ag sl pd)) := Lib.hid (by
            have := HR.out
            rw [hT] at this
            unfold exitV
            rw [HX.out, this.1, this.2.1, this.2.2.1]
            rfl)
          have HO9 := Lib.hid HR.out.2.2.2
          clear HR HRL hT
          go_wp2_with (first | (refine wpList_load_row rfl 33 _ rfl eb rfl 33 (cellsXv (xvOf x0 ag sl pd)) (0, 0) _ HO9.out.ke Try.underlying33 rfl infoXvF ?_) | (refine wpList_store_row rfl _ _ _ rfl res (cellsXv (xvOf x0 ag sl pd)) rfl rfl 33 _ HO9.out.kr infoXvF rfl (cellsXv_one _) ?_))
          refine bodyPost_ret (v := .tuple #[.agg (cellsXv (xvOf x0 ag sl pd)), .bool true]) (results_cell_row2 (fn := Try.f10) rfl _ _ res 33 (cellsXv (xvOf x0 ag sl pd)) (0, 0) _ rfl (HO9.out.kr.setRow (cellsXv (xvOf x0 ag sl pd))) Try.underlying33 rfl infoXvF) rfl ⟨?_, ?_⟩
          · rw [HF.out]; rfl
          · have := HO9.out.bel
            rw [HRW.out] at this ⊢
            exact below_row this HO9.out.kr _
end Go.Proofs.Ythnhpmeacboljaa
