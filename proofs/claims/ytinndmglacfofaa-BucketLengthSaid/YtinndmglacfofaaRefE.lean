/- The reference's Due: the walk. Made by mkrefe.py. -/
import Derived.Test.YtinndmglacfofaaRefD
namespace Go.Proofs.Ytinndmglacfofaa
open Go Go.RowKit Go.Deep
set_option linter.unusedVariables false
set_option linter.unusedSimpArgs false

set_option maxHeartbeats 3200000 in
theorem ref_due (r : Nat) (S : Nat → Prop) (L : List Ent) (ep : Int) (w : World) (h : Ref w r S L) (hL : L.length ≤ 100000) :
    Calls Try.prog 23 #[.pointer (some ⟨r, 0, none⟩), .int .i64 ep] w (RefDue w r S L ep) := by
  obtain ⟨se, si, hp, hS⟩ := h
  obtain ⟨ae, ce, rfl, hce, hce2⟩ := owns_int hp.eps
  obtain ⟨ai, ci, rfl, hci, hci2⟩ := owns_int hp.its
  obtain ⟨x0, x1⟩ := hp.cells
  have hrl := hp.own.lt
  have HP := Lib.hid hp
  have HSS := Lib.hid hS
  have HE := Lib.hid hp.eps
  have HI := Lib.hid hp.its
  obtain ⟨i0, hi0, hz0, hs0, hb0⟩ := int_app
  obtain ⟨q, hq⟩ : ∃ q, L.length = q := ⟨_, rfl⟩
  have HQ := Lib.hid hq
  rw [hq] at x0 x1 hL
  clear hp hS hq hce hci
  have H0 : Hid (RAt w (w.alloc (.cells #[.slice none 0 0, .slice none 0 0] 29)) w.heap.size (.slice none 0 0) (.slice none 0 0) (.slice none 0 0) ((stay ep (L.take 0)).map (·.1)) ((stay ep (L.take 0)).map (·.2)) (goes ep (L.take 0))) := Lib.hid
    ⟨Blk.new _ _ _, World.ownsRow_nil _ _ _ _, World.ownsRow_nil _ _ _ _, World.ownsRow_nil _ _ _ _, (fun q h => by cases h), (fun q h => by cases h), (fun q h => by cases h), Nat.le_refl _, (Below.refl _ _).alloc (Nat.le_refl _) _⟩
  go_enter Try.func23, Try.ntmps23
  go_wp2
  go_loopw [5, 7] (fun s5 s7 wr => ∃ (k : Nat) (te ti : Value), k ≤ q ∧ s7 = .int .i64 k ∧ Hid (RAt w wr w.heap.size te ti s5 ((stay ep (L.take k)).map (·.1)) ((stay ep (L.take k)).map (·.2)) (goes ep (L.take k)))) (fun _ s7 _ => q - (intOf s7).toNat)
  case atStart => exact ⟨0, _, _, by omega, rfl, H0⟩
  case round =>
    clear H0
    obtain ⟨k, te, ti, hk, rfl, HD⟩ := hrel
    have m0 : wr.cell? ⟨r, 0, none⟩ = some (.slice ae q ce) := (HD.out.below.cell (p := ⟨r, 0, none⟩) hrl).trans x0
    have m1 : wr.cell? ⟨r, 1, none⟩ = some (.slice ai q ci) := (HD.out.below.cell (p := ⟨r, 1, none⟩) hrl).trans x1
    by_cases hlt : k < q
    · obtain ⟨e, he⟩ : ∃ e, L[k]? = some e := ⟨_, List.getElem?_eq_getElem (by have := HQ.out; omega)⟩
      obtain ⟨g, rfl, e0⟩ := owns_cell HE.out (eps_get he)
      obtain ⟨g1, rfl, e1⟩ := owns_cell HI.out (its_get he)
      have hl0 : g < w.heap.size := (HE.out.lt g rfl).2
      have hl1 : g1 < w.heap.size := (HI.out.lt g1 rfl).2
      have k0 : wr.cell? ⟨g, k, none⟩ = some (.int .i64 e.1) := (HD.out.below.cell (p := ⟨g, k, none⟩) hl0).trans e0
      have k1 : wr.cell? ⟨g1, k, none⟩ = some (.int .i64 e.2) := (HD.out.below.cell (p := ⟨g1, k, none⟩) hl1).trans e1
      have hk1 : ¬ (k : Int) < 0 := by omega
      have hk2 : ¬ (q : Int) ≤ (k : Int) := by omega
      have hk3 : (k : Int) < (q : Int) := by omega
      have HT : Hid (L.take (k + 1) = L.take k ++ [e]) := Lib.hid (ent_snoc he)
      have hws := HD.out.below.size
      have hgo := goes_len ep (L.take k)
      have hst := stay_len ep (L.take k)
      have htk : (L.take k).length ≤ k := by rw [List.length_take]; omega
      have f1 := e1
      clear he e0 e1
      by_cases heq : e.1 = ep
      · have hb1 : (e.1 == ep) = true := by simpa using heq
        have HEQ := Lib.hid heq
        clear heq
        go_wp2_with (at_builtin; (refine wpList_append_src _ rfl (.tmp 28) (.tmp 36) 27 rfl w.heap.size 3 i0 _ 1 8 Try.underlying27 hi0 hz0 hs0 hb0 rfl Nat.one_pos u5 (goes ep (L.take k)).length _ rfl (HD.out.o.alloc _) (some ⟨wr.heap.size, 0, none⟩) 1 1 [.int .i64 e.2] rfl rfl (fun _ => ⟨_, rfl, cell_one_new wr _ _⟩) (by simp [Value.oneCell']) (by unfold maxLen; omega) (by omega) (by simp; omega) ?_; intro v1 w1 ho hg hv1))
        have hZ : RAt w w1 w.heap.size te ti v1 ((stay ep (L.take (k + 1))).map (·.1)) ((stay ep (L.take (k + 1))).map (·.2)) (goes ep (L.take (k + 1))) := by
          rw [HT.out, stay_snoc, if_pos HEQ.out, goes_snoc, if_pos HEQ.out]
          exact HD.out.push_o (((Kept.refl _ wr).alloc _).trans (Kept.of_grown hg (S := fun i => u5.ownBlock = some i) (fun i hi => hi.symm)) (fun _ _ h => h)) ho (hv1.imp id (fun h => ⟨_, h, by simp⟩))
        have HZ := Lib.hid hZ
        clear ho hg hv1 hZ HD m0 m1 k0 k1
        go_wp2
        go_roundw
        case rel => exact ⟨k + 1, te, ti, by omega, by go_num, HZ⟩
        case measure => simp [intOf]; omega
      · have hb1 : (e.1 == ep) = false := by simpa using heq
        have HEQ := Lib.hid heq
        clear heq
        go_wp2
        refine wp_region_first (fun _ => True) 16 16 [] (by kernel_rfl) (by kernel_rfl) trivial ?_
        refine wpQuiet_nil ?_
        refine headF_takes (fun w' => w'.cell? ⟨w.heap.size, 0, none⟩ = some te ∧ w'.cell? ⟨r, 0, none⟩ = some (.slice (some ⟨g, 0, none⟩) q ce) ∧ w'.cell? ⟨g, k, none⟩ = some (.int .i64 e.1)) (m := 16) (f := 4) [0, 1, 2, 3, 4, 5, 6, 7, 8, 9, 10, 11] (fun _ _ => trivial) (by kernel_rfl) ⟨HD.out.cells.1, m0, k0⟩ ?_
        simp only [List.filterMap_cons, List.filterMap_nil, List.getElem?_toArray, List.getElem?_cons_zero, List.getElem?_cons_succ]
        show wpQuiet _ _ _ _ [_, _, _, _, _, _, _, _, _, _, _, _] _
        iterate 4 (go_big_quiet_step ((intros; rfl)))
        refine q_cell 27 _ _ te rfl rfl rfl (fun w h => by simp [go_sem, h]) (fun w h => h.1) ?_
        simp only [Act.put, List.setIfInBounds_toArray, List.set_cons_zero, List.set_cons_succ]
        iterate 3 (go_big_quiet_step ((intros; rfl)))
        refine q_cell 27 _ _ (.slice (some ⟨g, 0, none⟩) q ce) rfl rfl rfl (fun w h => by simp [go_sem, h]) (fun w h => h.2.1) ?_
        simp only [Act.put, List.setIfInBounds_toArray, List.set_cons_zero, List.set_cons_succ]
        iterate 2 (go_big_quiet_step ((intros; rfl)))
        refine q_cell 3 _ _ (.int .i64 e.1) rfl rfl rfl (fun w h => by simp [go_sem, h]) (fun w h => h.2.2) ?_
        simp only [Act.put, List.setIfInBounds_toArray, List.set_cons_zero, List.set_cons_succ]
        refine wpQuiet_nil ?_
        refine headF_one (i := 12) (by kernel_rfl) (by omega) ?_
        refine wpOp_at rfl rfl (wp_buildSlice_one 27 3 i0 (.tmp 49) _ (.int .i64 e.1) rfl rfl Try.underlying27 hi0 hz0 hs0 rfl rfl ⟨⟨cell_alloc_some _ HD.out.cells.1, cell_alloc_some _ m0, cell_alloc_some _ k0⟩, ?_⟩)
        refine headF_one (i := 13) (by kernel_rfl) (by omega) ?_
        simp only [Act.put, List.getElem_toArray, List.getElem_cons_zero, List.getElem_cons_succ, List.setIfInBounds_toArray, List.set_cons_zero, List.set_cons_succ]
        refine wpOp_at rfl rfl (wp_append_src _ (.tmp 42) (.tmp 50) 27 rfl w.heap.size 3 i0 _ 1 8 Try.underlying27 hi0 hz0 hs0 hb0 rfl Nat.one_pos te _ _ rfl (World.ownsRow.alloc (w := (wr).drew) HD.out.e _)
          (some ⟨(wr).drew.heap.size, 0, none⟩) 1 1 [.int .i64 e.1] rfl rfl (fun _ => ⟨_, rfl, cell_one_new (wr).drew _ _⟩) (by simp [Value.oneCell']) (by rw [List.length_map]; unfold maxLen; omega) (by rw [List.length_map]; omega) (by have := HD.out.below.size; simp; omega) ?_)
        intro v3 w3 ho3 hg3 hs3
        have HK0 : Hid (Kept (fun i => (te).ownBlock = some i) (wr) w3) := Lib.hid (((Kept.refl _ (wr)).drew.alloc _).trans (Kept.of_grown hg3 (S := fun i => (te).ownBlock = some i) (fun i hi => hi.symm)) (fun _ _ h => h))
        have HN0 : Hid (RAt w (w3.setCell ⟨w.heap.size, 0, none⟩ v3) w.heap.size v3 ti u5 ((stay ep (L.take k)).map (·.1) ++ [e.1]) ((stay ep (L.take k)).map (·.2)) (goes ep (L.take k))) := Lib.hid (HD.out.push_e HK0.out ho3 (hs3.imp id (fun h => ⟨_, h, by simp⟩)))
        have hfar : ∀ i, i < w.heap.size → ¬ (te).ownBlock = some i := fun i hi e => by have := (HD.out.e.lt i e).1; omega
        have y0 := HK0.out.cell (p := ⟨w.heap.size, 0, none⟩) HD.out.ne.1 HD.out.cells.1
        have y1 := HK0.out.cell (p := ⟨r, 0, none⟩) (hfar r hrl) m0
        have y2 := HK0.out.cell (p := ⟨g, k, none⟩) (hfar g hl0) k0
        have z1 : w3.frozen? ⟨w.heap.size, 0, none⟩ = false := (HK0.out.frozen (p := ⟨w.heap.size, 0, none⟩) HD.out.ne.1 HD.out.own.lt).trans HD.out.cells.2.2.1
        obtain ⟨a3, c3, rfl, -, -⟩ := owns_int ho3
        refine ⟨⟨y0, y1, y2⟩, ?_⟩
        clear ho3 hg3 hs3
        simp only [Act.put, List.getElem_toArray, List.getElem_cons_zero, List.getElem_cons_succ, List.setIfInBounds_toArray, List.set_cons_zero, List.set_cons_succ]
        refine headF_takes (fun w' => w'.cell? ⟨w.heap.size, 0, none⟩ = some te ∧ w'.cell? ⟨r, 0, none⟩ = some (.slice (some ⟨g, 0, none⟩) q ce) ∧ w'.cell? ⟨g, k, none⟩ = some (.int .i64 e.1)) (m := 2) (f := 0) [14, 15] (fun _ h => h) (by kernel_rfl) ⟨y0, y1, y2⟩ ?_
        simp only [List.filterMap_cons, List.filterMap_nil, List.getElem?_toArray, List.getElem?_cons_zero, List.getElem?_cons_succ]
        show wpQuiet _ _ _ _ [_, _] _
        iterate 2 (go_big_quiet_step ((intros; rfl)))
        refine wpQuiet_nil ?_
        show Region.seqB _ _ _ _ _ = true ∧ _
        refine ⟨by kernel_rfl, ?_⟩
        simp only [Act.put, List.getElem_toArray, List.getElem_cons_zero, List.getElem_cons_succ, List.setIfInBounds_toArray, List.set_cons_zero, List.set_cons_succ, List.drop_succ_cons, List.drop_zero]
        go_wp2
        refine NoPanic.normal ?_
        obtain ⟨W2, hW2⟩ : ∃ W, w3.setCell ⟨w.heap.size, 0, none⟩ (.slice a3 ((stay ep (L.take k)).length + 1) c3) = W := ⟨_, rfl⟩
        rw [List.length_map] at HN0
        rw [hW2] at HN0 ⊢
        clear y0 y1 y2 z1 hfar HK0 hW2 m0 k0 m1 k1
        have m1 : W2.cell? ⟨r, 1, none⟩ = some (.slice (some ⟨g1, 0, none⟩) q ci) := (HN0.out.below.cell (p := ⟨r, 1, none⟩) hrl).trans x1
        have k1 : W2.cell? ⟨g1, k, none⟩ = some (.int .i64 e.2) := (HN0.out.below.cell (p := ⟨g1, k, none⟩) hl1).trans f1
        go_wp2
        refine wp_region_first (fun _ => True) 16 16 [] (by kernel_rfl) (by kernel_rfl) trivial ?_
        refine wpQuiet_nil ?_
        refine headF_takes (fun w' => w'.cell? ⟨w.heap.size, 1, none⟩ = some ti ∧ w'.cell? ⟨r, 1, none⟩ = some (.slice (some ⟨g1, 0, none⟩) q ci) ∧ w'.cell? ⟨g1, k, none⟩ = some (.int .i64 e.2)) (m := 16) (f := 4) [0, 1, 2, 3, 4, 5, 6, 7, 8, 9, 10, 11] (fun _ _ => trivial) (by kernel_rfl) ⟨HN0.out.cells.2.1, m1, k1⟩ ?_
        simp only [List.filterMap_cons, List.filterMap_nil, List.getElem?_toArray, List.getElem?_cons_zero, List.getElem?_cons_succ]
        show wpQuiet _ _ _ _ [_, _, _, _, _, _, _, _, _, _, _, _] _
        iterate 4 (go_big_quiet_step ((intros; rfl)))
        refine q_cell 27 _ _ ti rfl rfl rfl (fun w h => by simp [go_sem, h]) (fun w h => h.1) ?_
        simp only [Act.put, List.setIfInBounds_toArray, List.set_cons_zero, List.set_cons_succ]
        iterate 3 (go_big_quiet_step ((intros; rfl)))
        refine q_cell 27 _ _ (.slice (some ⟨g1, 0, none⟩) q ci) rfl rfl rfl (fun w h => by simp [go_sem, h]) (fun w h => h.2.1) ?_
        simp only [Act.put, List.setIfInBounds_toArray, List.set_cons_zero, List.set_cons_succ]
        iterate 2 (go_big_quiet_step ((intros; rfl)))
        refine q_cell 3 _ _ (.int .i64 e.2) rfl rfl rfl (fun w h => by simp [go_sem, h]) (fun w h => h.2.2) ?_
        simp only [Act.put, List.setIfInBounds_toArray, List.set_cons_zero, List.set_cons_succ]
        refine wpQuiet_nil ?_
        refine headF_one (i := 12) (by kernel_rfl) (by omega) ?_
        refine wpOp_at rfl rfl (wp_buildSlice_one 27 3 i0 (.tmp 65) _ (.int .i64 e.2) rfl rfl Try.underlying27 hi0 hz0 hs0 rfl rfl ⟨⟨cell_alloc_some _ HN0.out.cells.2.1, cell_alloc_some _ m1, cell_alloc_some _ k1⟩, ?_⟩)
        refine headF_one (i := 13) (by kernel_rfl) (by omega) ?_
        simp only [Act.put, List.getElem_toArray, List.getElem_cons_zero, List.getElem_cons_succ, List.setIfInBounds_toArray, List.set_cons_zero, List.set_cons_succ]
        refine wpOp_at rfl rfl (wp_append_src _ (.tmp 58) (.tmp 66) 27 rfl w.heap.size 3 i0 _ 1 8 Try.underlying27 hi0 hz0 hs0 hb0 rfl Nat.one_pos ti _ _ rfl (World.ownsRow.alloc (w := (W2).drew) HN0.out.i _)
          (some ⟨(W2).drew.heap.size, 0, none⟩) 1 1 [.int .i64 e.2] rfl rfl (fun _ => ⟨_, rfl, cell_one_new (W2).drew _ _⟩) (by simp [Value.oneCell']) (by rw [List.length_map]; unfold maxLen; omega) (by rw [List.length_map]; omega) (by have := HN0.out.below.size; simp; omega) ?_)
        intro v3 w4 ho3 hg3 hs3
        have HK1 : Hid (Kept (fun i => (ti).ownBlock = some i) (W2) w4) := Lib.hid (((Kept.refl _ (W2)).drew.alloc _).trans (Kept.of_grown hg3 (S := fun i => (ti).ownBlock = some i) (fun i hi => hi.symm)) (fun _ _ h => h))
        have HN1 : Hid (RAt w (w4.setCell ⟨w.heap.size, 1, none⟩ v3) w.heap.size _ v3 u5 ((stay ep (L.take k)).map (·.1) ++ [e.1]) ((stay ep (L.take k)).map (·.2) ++ [e.2]) (goes ep (L.take k))) := Lib.hid (HN0.out.push_i HK1.out ho3 (hs3.imp id (fun h => ⟨_, h, by simp⟩)))
        have hfar : ∀ i, i < w.heap.size → ¬ (ti).ownBlock = some i := fun i hi e => by have := (HN0.out.i.lt i e).1; omega
        have y0 := HK1.out.cell (p := ⟨w.heap.size, 1, none⟩) HN0.out.ne.2.1 HN0.out.cells.2.1
        have y1 := HK1.out.cell (p := ⟨r, 1, none⟩) (hfar r hrl) m1
        have y2 := HK1.out.cell (p := ⟨g1, k, none⟩) (hfar g1 hl1) k1
        have z1 : w4.frozen? ⟨w.heap.size, 1, none⟩ = false := (HK1.out.frozen (p := ⟨w.heap.size, 1, none⟩) HN0.out.ne.2.1 HN0.out.own.lt).trans HN0.out.cells.2.2.2
        obtain ⟨a3, c3, rfl, -, -⟩ := owns_int ho3
        refine ⟨⟨y0, y1, y2⟩, ?_⟩
        clear ho3 hg3 hs3
        simp only [Act.put, List.getElem_toArray, List.getElem_cons_zero, List.getElem_cons_succ, List.setIfInBounds_toArray, List.set_cons_zero, List.set_cons_succ]
        refine headF_takes (fun w' => w'.cell? ⟨w.heap.size, 1, none⟩ = some ti ∧ w'.cell? ⟨r, 1, none⟩ = some (.slice (some ⟨g1, 0, none⟩) q ci) ∧ w'.cell? ⟨g1, k, none⟩ = some (.int .i64 e.2)) (m := 2) (f := 0) [14, 15] (fun _ h => h) (by kernel_rfl) ⟨y0, y1, y2⟩ ?_
        simp only [List.filterMap_cons, List.filterMap_nil, List.getElem?_toArray, List.getElem?_cons_zero, List.getElem?_cons_succ]
        show wpQuiet _ _ _ _ [_, _] _
        iterate 2 (go_big_quiet_step ((intros; rfl)))
        refine wpQuiet_nil ?_
        show Region.seqB _ _ _ _ _ = true ∧ _
        refine ⟨by kernel_rfl, ?_⟩
        simp only [Act.put, List.getElem_toArray, List.getElem_cons_zero, List.getElem_cons_succ, List.setIfInBounds_toArray, List.set_cons_zero, List.set_cons_succ, List.drop_succ_cons, List.drop_zero]
        go_wp2
        refine NoPanic.normal ?_
        rw [List.length_map] at HN1
        have HZ : Hid (RAt w (w4.setCell ⟨w.heap.size, 1, none⟩ (.slice a3 ((stay ep (L.take k)).length + 1) c3)) w.heap.size _ _ u5 ((stay ep (L.take (k + 1))).map (·.1)) ((stay ep (L.take (k + 1))).map (·.2)) (goes ep (L.take (k + 1)))) := Lib.hid (by
          rw [HT.out, stay_snoc, if_neg HEQ.out, goes_snoc, if_neg HEQ.out, List.map_append, List.map_append]
          exact HN1.out)
        clear y0 y1 y2 z1 hfar HK1 m1 k1 HD HN0 HN1
        go_wp2
        go_roundw
        case rel => exact ⟨k + 1, _, _, by omega, by go_num, HZ⟩
        case measure => simp [intOf]; omega
    · obtain rfl : k = q := by omega
      have hd := HD.out
      rw [List.take_of_length_le (by rw [HQ.out]; exact Nat.le_refl _)] at hd
      have HR := Lib.hid hd
      obtain ⟨b0, b1, -, -⟩ := hd.cells
      have hb := hd.below
      have y0 : wr.frozen? ⟨r, 0, none⟩ = false := (World.frozen?_of_block (w := w) (hb.block r hrl)).trans (HP.out.own.frozen 0)
      have y1 : wr.frozen? ⟨r, 1, none⟩ = false := (World.frozen?_of_block (w := w) (hb.block r hrl)).trans (HP.out.own.frozen 1)
      obtain ⟨a5, c5, rfl, -, -⟩ := owns_int hd.e
      obtain ⟨a6, c6, rfl, -, -⟩ := owns_int hd.i
      clear hlt hd HD hb
      have hlt : ¬ k < k := by omega
      have hne : ¬ r = w.heap.size := by omega
      have hne2 : ¬ w.heap.size = r := by omega
      go_wp2
      go_ret
      have hr := HR.out
      simp only [List.length_map] at hr
      obtain ⟨c1, c2, c3⟩ := hr.close HP.out
      refine ⟨u5, fun i => i = r ∨ (Value.slice a5 (stay ep L).length c5).ownBlock = some i ∨ (Value.slice a6 (stay ep L).length c6).ownBlock = some i, rfl, c2, ⟨_, _, c1, fun i => Iff.rfl⟩, ?_, c3.more (fun i _ hi => (HSS.out i).2 (.inl hi)), ?_⟩
      · rintro i (rfl | hi | hi)
        · exact .inl ((HSS.out _).2 (.inl rfl))
        · exact .inr (hr.e.lt i hi).1
        · exact .inr (hr.i.lt i hi).1
      · rintro i hi (rfl | he | he)
        · have := (hr.o.lt _ hi).1
          omega
        · exact hr.d2 i hi he
        · exact hr.d3 i hi he
end Go.Proofs.Ytinndmglacfofaa
