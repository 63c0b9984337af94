/- The walk of MeterPlays. -/
import Derived.Test.YtbebmdbhoombgaaWMeterRejects
namespace Go.Proofs.Ytbebmdbhoombgaa
open Go Go.RowKit Go.OpenShut
set_option linter.unusedVariables false
set_option linter.unusedSimpArgs false
theorem infoO : (Try.prog.info? 31).map (·.size) = some 2 := by kernel_rfl

set_option maxHeartbeats 1600000 in
theorem walk_MeterPlays (a0 : Option Addr) (len0 cap0 : Nat) (w : World) (w0 : IsOps w a0 len0 cap0) :
    Calls Try.prog 3 #[.slice a0 len0 cap0] w fun e w' => e = .returned (.bool true) ∧ Below w.heap.size w w' := by
  have W1 := Lib.hid w0
  have hl1 : len0 ≤ 9223372036854775807 := by have := w0.1; have := w0.2.1; unfold maxLen at this; omega
  clear w0
  go_enter Try.func3, Try.ntmps3
  go_wp2_with fail
  refine (Own.new _).mono ?_
  rintro e w1 ⟨rfl, o1, s1, b1⟩
  have BO : Hid (Both (w1.alloc (.cells #[.int .u64 0, .int .u64 0, .int .u64 0, .int .u64 0, .int .u64 0] 28)) w.heap.size w.heap.size w1.heap.size 0 0 0 0) := Lib.hid (Both.new_ o1.out s1.out)
  have B2 : Hid (Below w.heap.size w (w1.alloc (.cells #[.int .u64 0, .int .u64 0, .int .u64 0, .int .u64 0, .int .u64 0] 28))) := Lib.hid (b1.out.alloc b1.out.size _)
  clear o1 s1 b1
  by_cases h1000 : (1000 : Int) < (len0 : Int)
  · go_wp2_with fail
    generalize w1.alloc (.cells #[.int .u64 0, .int .u64 0, .int .u64 0, .int .u64 0, .int .u64 0] 28) = w2 at *
    refine (alive_any _).mono ?_
    rintro e w3 ⟨rfl, b3⟩
    go_wp2_with fail
    go_ret
    exact ⟨rfl, B2.out.trans (b3.mono B2.out.size)⟩
  · go_wp2_with fail
    generalize w1.alloc (.cells #[.int .u64 0, .int .u64 0, .int .u64 0, .int .u64 0, .int .u64 0] 28) = w2 at *
    generalize w1.heap.size = v at *
    go_loopw [18] (fun s18 wr => ∃ (k : Nat) (B S T D : Int), k ≤ len0 ∧ s18 = .int .i64 k ∧ Hid (Both wr w.heap.size w.heap.size v B S T D ∧ Below w.heap.size w wr)) (fun s18 _ => len0 - (intOf s18).toNat)
    case atStart => exact ⟨0, 0, 0, 0, 0, by omega, rfl, Lib.hid ⟨BO.out, B2.out⟩⟩
    case round =>
      obtain ⟨k, B, S, T, D, hk, rfl, H⟩ := hrel
      by_cases hlt : k < len0
      · obtain ⟨b, off, kd, x, rfl, x1, x2, hx⟩ := W1.out.at H.out.2 hlt
        obtain ⟨y0, y1⟩ := bounds_u64 hx
        have BR' : Hid (Both (wr.alloc (.cells #[.int .i64 kd, .int .u64 x] 31)) w.heap.size w.heap.size v B S T D) := Lib.hid (H.out.1.alloc _)
        have BB' : Hid (Below w.heap.size w (wr.alloc (.cells #[.int .i64 kd, .int .u64 x] 31))) := Lib.hid (H.out.2.alloc H.out.2.size _)
        have HNE : Hid (wr.heap.size ≠ w.heap.size ∧ wr.heap.size ≠ v) := Lib.hid ⟨by have := Blk.lt H.out.1.1; omega, by have := Blk.lt H.out.1.2.1; omega⟩
        clear H hx
        have HE : Hid (Blk (wr.alloc (.cells #[.int .i64 kd, .int .u64 x] 31)) wr.heap.size 31 #[.int .i64 kd, .int .u64 x]) := Lib.hid (Blk.new _ _ _)
        have HN : Hid (wr.heap.size ≠ w.heap.size ∧ wr.heap.size ≠ v) := Lib.hid ⟨HNE.out.1, HNE.out.2⟩
        clear HNE
        go_wp2_with (first | (refine wpList_store_row rfl _ _ _ rfl wr.heap.size #[.int .i64 kd, .int .u64 x] rfl rfl 31 _ (heap_alloc_new wr _) infoO rfl rfl ?_; rw [World.setRow_alloc_new]) | fail)
        clear x1 x2
        generalize wr.alloc (.cells #[.int .i64 kd, .int .u64 x] 31) = W at *
        generalize wr.heap.size = g at *
        · refine wp_region_first (fun w' => Blk w' g 31 #[.int .i64 kd, .int .u64 x]) 40 37 [0, 1, 2] (by kernel_rfl) (by kernel_rfl) (Blk.drew HE.out) ?_
          simp only [List.filterMap_cons, List.filterMap_nil, List.getElem?_toArray, List.getElem?_cons_zero, List.getElem?_cons_succ]
          show wpQuiet _ _ _ _ [_, _, _] _
          iterate 2 (go_big_quiet_step ((intros; rfl)))
          refine q_load 31 _ g 31 #[.int .i64 kd, .int .u64 x] _ rfl rfl rfl (fun w h => h) Try.underlying31 rfl infoO ?_
          simp only [Act.put, List.setIfInBounds_toArray, List.set_cons_zero, List.set_cons_succ]
          refine wpQuiet_nil ?_
          refine headF_one (i := 3) (by kernel_rfl) (by omega) ?_
          refine wpOp_at rfl rfl (wp_call_at rfl #[.pointer (some ⟨w.heap.size, 0, none⟩), .pointer (some ⟨v, 0, none⟩), .agg #[.int .i64 kd, .int .u64 x]] (by kernel_rfl) Try.call11 ((do_any _ _ _ kd x B S T D W.drew BR'.out.drew y0).mono ?_))
          rintro e w2 ⟨B', S', T', D', rfl, bo, bel, keep⟩
          have H2 : Hid (Blk w2 g 31 #[.int .i64 kd, .int .u64 x] ∧ Both w2 w.heap.size w.heap.size v B' S' T' D' ∧ Below w.heap.size w w2) := Lib.hid ⟨keep _ _ _ HN.out.1 HN.out.2 (Blk.drew HE.out), bo, bel _ BB'.out.drew⟩
          clear bo bel keep BR' BB' HE HN
          refine ⟨_, rfl, H2.out.1, ?_⟩
          simp only [Act.put, List.getElem_toArray, List.getElem_cons_zero, List.getElem_cons_succ, List.setIfInBounds_toArray, List.set_cons_zero, List.set_cons_succ]
          refine headF_takes (fun w' => Blk w' g 31 #[.int .i64 kd, .int .u64 x] ∧ Both w' w.heap.size w.heap.size v B' S' T' D' ∧ Below w.heap.size w w') (m := 36) (f := 29) [4, 5, 6, 8, 9, 10, 11] (fun _ h => h.1) (by kernel_rfl) H2.out ?_
          simp only [List.filterMap_cons, List.filterMap_nil, List.getElem?_toArray, List.getElem?_cons_zero, List.getElem?_cons_succ]
          show wpQuiet _ _ _ _ [_, _, _, _, _, _, _] _
          iterate 6 (go_big_quiet_step ((intros; rfl)))
          refine q_cell 26 _ _ (.int .u64 B') (by kernel_rfl) rfl rfl (fun w h => by simp [go_sem, h]) (fun w h => Blk.cell h.2.1.2.1 0) ?_
          simp only [Act.put, List.setIfInBounds_toArray, List.set_cons_zero, List.set_cons_succ]
          refine wpQuiet_nil ?_
          refine headF_one (i := 7) (by kernel_rfl) (by omega) ?_
          refine wpOp_atG rfl (by kernel_rfl) (wp_call_at rfl #[.pointer (some ⟨w.heap.size, 0, none⟩)] (by kernel_rfl) Try.call12 (((H2.out.2.1.own H2.out.2.2).balance).mono ?_))
          rintro e w3 ⟨rfl, o, bl⟩
          have H3 : Hid (Blk w3 g 31 #[.int .i64 kd, .int .u64 x] ∧ Both w3 w.heap.size w.heap.size v B' S' T' D' ∧ Below w.heap.size w w3) := Lib.hid ⟨H2.out.1.below bl.out (Blk.lt H2.out.1), H2.out.2.1.below bl.out, o.out.2.2.1⟩
          clear H2 o bl
          refine ⟨_, rfl, H3.out, ?_⟩
          simp only [Act.put, List.getElem_toArray, List.getElem_cons_zero, List.getElem_cons_succ, List.setIfInBounds_toArray, List.set_cons_zero, List.set_cons_succ]
          refine headF_takes (fun w' => Blk w' g 31 #[.int .i64 kd, .int .u64 x] ∧ Both w' w.heap.size w.heap.size v B' S' T' D' ∧ Below w.heap.size w w') (m := 28) (f := 20) [12, 13, 14, 15, 17, 18, 19, 20] (fun _ h => h) (by kernel_rfl) H3.out ?_
          simp only [List.filterMap_cons, List.filterMap_nil, List.getElem?_toArray, List.getElem?_cons_zero, List.getElem?_cons_succ]
          show wpQuiet _ _ _ _ [_, _, _, _, _, _, _, _] _
          iterate 7 (go_big_quiet_step ((intros; rfl)))
          refine q_cell 26 _ _ (.int .u64 S') (by kernel_rfl) rfl rfl (fun w h => by simp [go_sem, h]) (fun w h => Blk.cell h.2.1.2.1 1) ?_
          simp only [Act.put, List.setIfInBounds_toArray, List.set_cons_zero, List.set_cons_succ]
          refine wpQuiet_nil ?_
          refine headF_one (i := 16) (by kernel_rfl) (by omega) ?_
          refine wpOp_atG rfl (by kernel_rfl) (wp_call_at rfl #[.pointer (some ⟨w.heap.size, 0, none⟩)] (by kernel_rfl) Try.call13 (((H3.out.2.1.own H3.out.2.2).spent).mono ?_))
          rintro e w4 ⟨rfl, o, bl⟩
          have H4 : Hid (Blk w4 g 31 #[.int .i64 kd, .int .u64 x] ∧ Both w4 w.heap.size w.heap.size v B' S' T' D' ∧ Below w.heap.size w w4) := Lib.hid ⟨H3.out.1.below bl.out (Blk.lt H3.out.1), H3.out.2.1.below bl.out, o.out.2.2.1⟩
          clear H3 o bl
          refine ⟨_, rfl, H4.out, ?_⟩
          simp only [Act.put, List.getElem_toArray, List.getElem_cons_zero, List.getElem_cons_succ, List.setIfInBounds_toArray, List.set_cons_zero, List.set_cons_succ]
          refine headF_takes (fun w' => Blk w' g 31 #[.int .i64 kd, .int .u64 x] ∧ Both w' w.heap.size w.heap.size v B' S' T' D' ∧ Below w.heap.size w w') (m := 19) (f := 2) [21, 22, 23, 24, 26, 27, 28, 29, 30, 31, 32, 33, 34, 35, 36, 37, 38] (fun _ h => h) (by kernel_rfl) H4.out ?_
          simp only [List.filterMap_cons, List.filterMap_nil, List.getElem?_toArray, List.getElem?_cons_zero, List.getElem?_cons_succ]
          show wpQuiet _ _ _ _ [_, _, _, _, _, _, _, _, _, _, _, _, _, _, _, _, _] _
          iterate 7 (go_big_quiet_step ((intros; rfl)))
          refine q_cell 26 _ _ (.int .u64 (gOf B' T' D')) (by kernel_rfl) rfl rfl (fun w h => by simp [go_sem, h]) (fun w h => Blk.cell h.2.1.2.1 2) ?_
          simp only [Act.put, List.setIfInBounds_toArray, List.set_cons_zero, List.set_cons_succ]
          iterate 3 (go_big_quiet_step ((intros; rfl)))
          refine q_cell 26 _ _ (.int .u64 T') (by kernel_rfl) rfl rfl (fun w h => by simp [go_sem, h]) (fun w h => Blk.cell h.2.1.2.1 3) ?_
          simp only [Act.put, List.setIfInBounds_toArray, List.set_cons_zero, List.set_cons_succ]
          iterate 3 (go_big_quiet_step ((intros; rfl)))
          refine q_cell 26 _ _ (.int .u64 D') (by kernel_rfl) rfl rfl (fun w h => by simp [go_sem, h]) (fun w h => Blk.cell h.2.1.2.1 4) ?_
          simp only [Act.put, List.setIfInBounds_toArray, List.set_cons_zero, List.set_cons_succ]
          iterate 1 (go_big_quiet_step ((intros; rfl)))
          refine wpQuiet_nil ?_
          refine headF_one (i := 25) (by kernel_rfl) (by omega) ?_
          refine wpOp_atG rfl (by kernel_rfl) (wp_call_at rfl #[.pointer (some ⟨w.heap.size, 0, none⟩)] (by kernel_rfl) Try.call14 (((H4.out.2.1.own H4.out.2.2).totals).mono ?_))
          rintro e w5 ⟨rfl, o, bl⟩
          have H5 : Hid (Blk w5 g 31 #[.int .i64 kd, .int .u64 x] ∧ Both w5 w.heap.size w.heap.size v B' S' T' D' ∧ Below w.heap.size w w5) := Lib.hid ⟨H4.out.1.below bl.out (Blk.lt H4.out.1), H4.out.2.1.below bl.out, o.out.2.2.1⟩
          clear H4 o bl
          refine ⟨_, rfl, H5.out, ?_⟩
          simp only [Act.put, List.getElem_toArray, List.getElem_cons_zero, List.getElem_cons_succ, List.setIfInBounds_toArray, List.set_cons_zero, List.set_cons_succ]
          refine headF_takes (fun w' => Blk w' g 31 #[.int .i64 kd, .int .u64 x] ∧ Both w' w.heap.size w.heap.size v B' S' T' D' ∧ Below w.heap.size w w') (m := 1) (f := 0) [39] (fun _ h => h) (by kernel_rfl) H5.out ?_
          simp only [List.filterMap_cons, List.filterMap_nil, List.getElem?_toArray, List.getElem?_cons_zero, List.getElem?_cons_succ]
          show wpQuiet _ _ _ _ [_] _
          refine q_val (.bool false) (by kernel_rfl) (fun W => exec_same_neq W (xs := #[.int .u64 (gOf B' T' D'), .int .u64 T', .int .u64 D']) rfl rfl Try.eqGuardType35 (totals_same _ _ _ W)) ?_
          simp only [Act.put, List.setIfInBounds_toArray, List.set_cons_zero, List.set_cons_succ]
          refine wpQuiet_nil ?_
          show Region.seqB _ _ _ _ _ = true ∧ _
          refine ⟨by kernel_rfl, ?_⟩
          simp only [Act.put, List.getElem_toArray, List.getElem_cons_zero, List.getElem_cons_succ, List.setIfInBounds_toArray, List.set_cons_zero, List.set_cons_succ, List.drop_succ_cons, List.drop_zero]
          go_wp2
          refine NoPanic.normal ?_
          go_wp2_with fail
          go_roundw
          case rel => exact ⟨k + 1, B', S', T', D', by omega, by go_num, Lib.hid H5.out.2⟩
          case measure => simp [intOf]; omega
      · obtain rfl : k = len0 := by omega
        clear hlt
        have hlt : ¬ k < k := by omega
        have HB := Lib.hid H.out.2
        clear H
        go_wp2_with fail
        refine (alive_any _).mono ?_
        rintro e w3 ⟨rfl, b3⟩
        go_wp2_with fail
        go_ret
        exact ⟨rfl, HB.out.trans (b3.mono HB.out.size)⟩
end Go.Proofs.Ytbebmdbhoombgaa
