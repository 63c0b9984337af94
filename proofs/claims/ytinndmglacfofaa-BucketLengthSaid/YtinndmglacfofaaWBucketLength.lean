/- The walk of BucketLength. -/
import Derived.Test.YtinndmglacfofaaSameE
namespace Go.Proofs.Ytinndmglacfofaa
open Go Go.RowKit Go.Deep
set_option linter.unusedVariables false
set_option linter.unusedSimpArgs false

/-- Duo rings of a law, apart. -/
def Duo (w0 w : World) (b c n m : Nat) (S T : Nat → Prop) (L : List Ent) : Prop :=
  Ring w b S n L ∧ Ring w c T m L ∧ (∀ i, S i → ¬ T i) ∧ (∀ i, S i → w0.heap.size ≤ i) ∧ (∀ i, T i → w0.heap.size ≤ i) ∧ Below w0.heap.size w0 w
theorem Duo.below {w0 w w' : World} {b c n m : Nat} {S T : Nat → Prop} {L : List Ent} (h : Duo w0 w b c n m S T L) (k : Below w.heap.size w w') : Duo w0 w' b c n m S T L :=
  ⟨h.1.below k, h.2.1.below k, h.2.2.1, h.2.2.2.1, h.2.2.2.2.1, h.2.2.2.2.2.trans (k.mono h.2.2.2.2.2.size)⟩

theorem wpOp_skip {P : Program} {ops : Array Oper} {Q : Exit → Act → World → Prop} {i : Nat} {o : Oper} {K : Act → World → Prop} {a : Act} {w : World} (ho : ops[i]? = some o) (hg : Region.wanted o (yielded ops a.tmps) = false) (h : K (a.put o.dst undef) w) : wpOp P ops Q i K a w := by
  unfold wpOp
  rw [ho]
  simp only [hg, Bool.false_eq_true, if_false]
  exact h
set_option maxHeartbeats 1600000 in
theorem walk_BucketLength (a0 : Int) (a1 : Int) (a2 : Option Addr) (len2 cap2 : Nat) (w : World) (w0 : (Lit.int .u8 a0).wf = true) (w1 : (Lit.int .u8 a1).wf = true) (w2 : IsOps w a2 len2 cap2) :
    Calls Try.prog 7 #[.int .u8 a0, .int .u8 a1, .slice a2 len2 cap2] w fun e w' => e = .returned (.bool true) ∧ Below w.heap.size w w' := by
  have W1 := Lib.hid w2
  have hl1 : len2 ≤ 9223372036854775807 := by have := w2.1; have := w2.2.1; unfold maxLen at this; omega
  obtain ⟨z0, z1⟩ := u8_wf w0
  obtain ⟨y0, y1⟩ := u8_wf w1
  clear w0 w1 w2
  obtain ⟨n, hn⟩ : ∃ n : Nat, a0 + 1 = (n : Int) := ⟨(a0 + 1).toNat, by omega⟩
  obtain ⟨m, hm⟩ : ∃ m : Nat, a1 + 1 = (m : Int) := ⟨(a1 + 1).toNat, by omega⟩
  have hn1 : 1 ≤ n := by omega
  have hn2 : n ≤ 256 := by omega
  have hm1 : 1 ≤ m := by omega
  have hm2 : m ≤ 256 := by omega
  have HN := Lib.hid (fun w => new_any n w (by omega) (by omega))
  have HM := Lib.hid (fun w => new_any m w (by omega) (by omega))
  go_enter Try.func7, Try.ntmps7
  go_wp2_with fail
  refine (HN.out _).mono ?_
  rintro e w1 ⟨b, S0, rfl, hr, hS, hb⟩
  have HR1 := Lib.hid hr
  have HS1 := Lib.hid hS
  have HB1 := Lib.hid hb
  clear hr hS hb
  go_wp2_with fail
  refine (HM.out _).mono ?_
  rintro e w2 ⟨c, T0, rfl, hr, hS, hb⟩
  have H1 : Hid (Duo w w2 b c n m S0 T0 []) := Lib.hid (by
    have e1 := HB1.out.size
    refine ⟨HR1.out.below hb, hr, fun i hi ht => ?_, HS1.out, fun i hi => by have := hS i hi; omega, HB1.out.trans (hb.mono e1)⟩
    have h1 := HR1.out.lt i hi
    have h2 := hS i ht
    omega)
  clear hr hS hb HR1 HS1 HB1
  by_cases h100 : (100 : Int) < (len2 : Int)
  · have HB1 := Lib.hid H1.out.2.2.2.2.2
    go_wp2_with fail
    refine (alive_any _).mono ?_
    rintro e w2 ⟨rfl, hb2⟩
    have HB := Lib.hid (HB1.out.trans (hb2.mono HB1.out.size))
    clear hb2
    go_wp2_with fail
    go_ret
    exact ⟨rfl, HB.out⟩
  · go_wp2_with fail
    go_loopw [31] (fun s31 wr => ∃ (k : Nat) (L : List Ent), k ≤ len2 ∧ L.length ≤ k ∧ s31 = .int .i64 k ∧ Hid (∃ S T, Duo w wr b c n m S T L)) (fun s31 _ => len2 - (intOf s31).toNat)
    case atStart => exact ⟨0, [], by omega, by simp, rfl, Lib.hid ⟨_, _, H1.out⟩⟩
    case round =>
      obtain ⟨k, L, hk, hLk, rfl, HR0⟩ := hrel
      obtain ⟨S, T, hr0⟩ := HR0.out
      have HR := Lib.hid hr0
      clear HR0 hr0 H1
      by_cases hlt : k < len2
      · obtain ⟨g, off, x, rfl, HX, hf⟩ := W1.out.at HR.out.2.2.2.2.2 hlt
        have HE : Hid (Blk (wr.alloc (.cells (opCells x) 31)) wr.heap.size 31 (opCells x)) := Lib.hid (Blk.new _ _ _)
        have hk1 : ¬ (k : Int) < 0 := by omega
        have hk2 : ¬ (len2 : Int) ≤ (k : Int) := by omega
        have hk3 : (k : Int) < (len2 : Int) := by omega
        have hl2 := stepL_len L x
        have HR2 := Lib.hid (HR.out.below ((Below.refl _ _).alloc (Nat.le_refl _) (.cells (opCells x) 31)))
        have HSZ : Hid (¬ S wr.heap.size ∧ ¬ T wr.heap.size) := Lib.hid ⟨fun h => by have := HR.out.1.lt _ h; omega, fun h => by have := HR.out.2.1.lt _ h; omega⟩
        clear hf HR
        go_wp2_with (first | (refine wpList_load_op rfl 31 _ rfl g (off + k * 3) rfl x _ HX.out Try.underlying31 rfl infoO ?_) | (refine wpList_store_row rfl _ _ _ rfl wr.heap.size (opCells x) rfl rfl 31 _ (heap_alloc_new wr _) infoO rfl (opCells_one x) ?_; rw [World.setRow_alloc_new]))
        generalize wr.alloc (.cells (opCells x) 31) = W at *
        generalize wr.heap.size = n0 at *
        obtain ⟨due, ep, it⟩ := x
        cases due with
        | true =>
          have hl2' : (stay ep L).length ≤ k + 1 := Nat.le_trans hl2 (by omega)
          refine wp_region_first (fun w' => Blk w' n0 31 (opCells ⟨true, ep, it⟩)) 33 24 [0, 1, 2, 3, 4, 5, 7, 8, 9] (by kernel_rfl) (by kernel_rfl) HE.out ?_
          simp only [List.filterMap_cons, List.filterMap_nil, List.getElem?_toArray, List.getElem?_cons_zero, List.getElem?_cons_succ]
          show wpQuiet _ _ _ _ [_, _, _, _, _, _, _, _, _] _
          iterate 1 (go_big_quiet_step ((intros; rfl)))
          refine q_cell 4 _ _ (.bool true) (by kernel_rfl) rfl rfl (fun w h => by simp [go_sem, h]) (fun w h => h.cell 0) ?_
          simp only [Act.put, List.setIfInBounds_toArray, List.set_cons_zero, List.set_cons_succ]
          iterate 3 (go_big_quiet_step ((intros; rfl)))
          refine q_cell 3 _ _ (.int .i64 ep) (by kernel_rfl) rfl rfl (fun w h => by simp [go_sem, h]) (fun w h => h.cell 1) ?_
          simp only [Act.put, List.setIfInBounds_toArray, List.set_cons_zero, List.set_cons_succ]
          iterate 2 (go_big_quiet_step ((intros; rfl)))
          refine q_cell 3 _ _ (.int .i64 ep) (by kernel_rfl) rfl rfl (fun w h => by simp [go_sem, h]) (fun w h => h.cell 1) ?_
          simp only [Act.put, List.setIfInBounds_toArray, List.set_cons_zero, List.set_cons_succ]
          refine wpQuiet_nil ?_
          refine headF_one (i := 6) (by kernel_rfl) (by omega) ?_
          refine wpOp_atG rfl (by kernel_rfl) (wp_call_at rfl #[.pointer (some ⟨b, 0, none⟩), .int .i64 ep] (by kernel_rfl) Try.call20 ((due_all b n S L ep _ (HR2.out.1.drew) (by omega)).mono ?_))
          rintro e w1 ⟨v, S1, rfl, ho, hR, hs, hk⟩
          have HO := Lib.hid ho
          have HR1 := Lib.hid hR
          have HK1 : Hid (Kept S W w1) := Lib.hid (((Kept.refl _ W).drew).trans hk (fun _ _ h => h))
          have HS1 := Lib.hid hs
          have HE1 : Hid (Blk w1 n0 31 (opCells ⟨true, ep, it⟩)) := Lib.hid (HE.out.kept HK1.out HSZ.out.1)
          have HT1 : Hid (Ring w1 c T m L) := Lib.hid (HR2.out.2.1.kept HK1.out (fun i hi hs => HR2.out.2.2.1 i hs hi))
          clear ho hR hs hk
          refine ⟨v, rfl, HE1.out, ?_⟩
          simp only [Act.put, List.getElem_toArray, List.getElem_cons_zero, List.getElem_cons_succ, List.setIfInBounds_toArray, List.set_cons_zero, List.set_cons_succ]
          refine headF_one (i := 10) (by kernel_rfl) (by omega) ?_
          refine wpOp_atG rfl (by kernel_rfl) (wp_call_at rfl #[.pointer (some ⟨c, 0, none⟩), .int .i64 ep] (by kernel_rfl) Try.call20 ((due_all c m T L ep _ HT1.out (by omega)).mono ?_))
          rintro e w2 ⟨v2, T2, rfl, ho2, hR2, hs2, hk2⟩
          have HTW : Hid (∀ i, T i → i < W.heap.size) := Lib.hid (fun i hi => HR2.out.2.1.lt i hi)
          have HO2 : Hid (w2.ownsRow W.heap.size 3 1 v (goes ep L).length ((goes ep L).map (Value.int .i64))) := Lib.hid (owns_same HO.out fun i hi => hk2.block i (HO.out.lt i hi).2 (fun t => by have := HTW.out i t; have h3 : W.heap.size ≤ i := (HO.out.lt i hi).1; omega))
          obtain ⟨a1, c1, rfl, hl1, hc1, hc1', hi1⟩ := ints_of_owns (S := fun _ => False) HO2.out (fun _ _ h => h)
          obtain ⟨a2, c2, rfl, hl2, hc2, hc2', hi2⟩ := ints_of_owns (S := fun _ => False) ho2 (fun _ _ h => h)
          have HP2 : Hid (Duo w w2 b c n m S1 T2 (stay ep L)) := Lib.hid (by
            have hB := HR2.out.2.2.2.2.2
            have e0 := hB.size
            have e1 : W.heap.size ≤ w1.heap.size := HK1.out.size
            refine ⟨HR1.out.kept hk2 (fun i hi ht => HR2.out.2.2.1 i (HS1.out i hi) ht), hR2, fun i hi ht => HR2.out.2.2.1 i (HS1.out i hi) (hs2 i ht), fun i hi => HR2.out.2.2.2.1 i (HS1.out i hi), fun i hi => HR2.out.2.2.2.2.1 i (hs2 i hi), ?_⟩
            exact Kept.below (Kept.below hB HK1.out HR2.out.2.2.2.1 e0) hk2 HR2.out.2.2.2.2.1 (by omega))
          have HE2 : Hid (Blk w2 n0 31 (opCells ⟨true, ep, it⟩)) := Lib.hid (HE1.out.kept hk2 HSZ.out.2)
          have HI1 := Lib.hid hi1
          have HI2 := Lib.hid hi2
          have hgl : (goes ep L).length ≤ 9223372036854775807 := by have := goes_len ep L; omega
          clear ho2 hR2 hs2 hk2 hi1 hi2
          refine ⟨_, rfl, HE2.out, ?_⟩
          simp only [Act.put, List.getElem_toArray, List.getElem_cons_zero, List.getElem_cons_succ, List.setIfInBounds_toArray, List.set_cons_zero, List.set_cons_succ]
          refine headF_one (i := 11) (by kernel_rfl) (by omega) ?_
          refine wpOp_atG rfl (by kernel_rfl) (wp_call_at rfl #[.slice a1 (goes ep L).length c1, .slice a2 (goes ep L).length c2] (by kernel_rfl) Try.call21 ((equal_same HI1.out HI2.out rfl hgl).mono ?_))
          rintro e w3 ⟨rfl, m', rfl⟩
          have HE3 : Hid (Blk (w2.drewN m') n0 31 (opCells ⟨true, ep, it⟩)) := Lib.hid HE2.out
          have HP3 : Hid (Duo w (w2.drewN m') b c n m S1 T2 (stay ep L)) := Lib.hid (HP2.out.below (below_drewN (Below.refl _ _) m'))
          refine ⟨_, rfl, HE3.out, ?_⟩
          simp only [Act.put, List.getElem_toArray, List.getElem_cons_zero, List.getElem_cons_succ, List.setIfInBounds_toArray, List.set_cons_zero, List.set_cons_succ]
          refine headF_takes (fun w' => Blk w' n0 31 (opCells ⟨true, ep, it⟩)) (m := 21) (f := 4) [12, 13, 14, 15, 16, 17, 18, 19, 20, 21, 22, 23, 25, 26, 27, 28, 29] (fun _ h => h) (by kernel_rfl) HE3.out ?_
          simp only [List.filterMap_cons, List.filterMap_nil, List.getElem?_toArray, List.getElem?_cons_zero, List.getElem?_cons_succ]
          show wpQuiet _ _ _ _ [_, _, _, _, _, _, _, _, _, _, _, _, _, _, _, _, _] _
          iterate 4 (go_big_quiet_step ((intros; rfl)))
          refine q_cell 4 _ _ (.bool true) (by kernel_rfl) rfl rfl (fun w h => by simp [go_sem, h]) (fun w h => h.cell 0) ?_
          simp only [Act.put, List.setIfInBounds_toArray, List.set_cons_zero, List.set_cons_succ]
          iterate 2 (go_big_quiet_step ((intros; rfl)))
          iterate 10 (with_reducible refine q_skip (by kernel_rfl) ?_; simp only [Act.put, List.setIfInBounds_toArray, List.set_cons_zero, List.set_cons_succ])
          refine wpQuiet_nil ?_
          refine headF_one (i := 24) (by kernel_rfl) (by omega) ?_
          refine wpOp_skip rfl (by kernel_rfl) ⟨HE3.out, ?_⟩
          simp only [Act.put, List.getElem_toArray, List.getElem_cons_zero, List.getElem_cons_succ, List.setIfInBounds_toArray, List.set_cons_zero, List.set_cons_succ]
          refine headF_one (i := 30) (by kernel_rfl) (by omega) ?_
          refine wpOp_skip rfl (by kernel_rfl) ⟨HE3.out, ?_⟩
          simp only [Act.put, List.getElem_toArray, List.getElem_cons_zero, List.getElem_cons_succ, List.setIfInBounds_toArray, List.set_cons_zero, List.set_cons_succ]
          refine headF_takes (fun w' => Blk w' n0 31 (opCells ⟨true, ep, it⟩)) (m := 2) (f := 0) [31, 32] (fun _ h => h) (by kernel_rfl) HE3.out ?_
          simp only [List.filterMap_cons, List.filterMap_nil, List.getElem?_toArray, List.getElem?_cons_zero, List.getElem?_cons_succ]
          show wpQuiet _ _ _ _ [_, _] _
          iterate 1 (with_reducible refine q_skip (by kernel_rfl) ?_; simp only [Act.put, List.setIfInBounds_toArray, List.set_cons_zero, List.set_cons_succ])
          iterate 1 (go_big_quiet_step ((intros; rfl)))
          refine wpQuiet_nil ?_
          show Region.seqB _ _ _ _ _ = true ∧ _
          refine ⟨by kernel_rfl, ?_⟩
          simp only [Act.put, List.getElem_toArray, List.getElem_cons_zero, List.getElem_cons_succ, List.setIfInBounds_toArray, List.set_cons_zero, List.set_cons_succ, List.drop_succ_cons, List.drop_zero]
          clear HE HE1 HE2 HE3 HO HR1 HK1 HS1 HT1 HTW HO2 HP2 HI1 HI2 HX HR2 HSZ
          go_wp2_with fail
          refine NoPanic.normal ?_
          go_wp2_with fail
          go_roundw
          case rel => exact ⟨k + 1, stay ep L, by omega, hl2', by go_num, Lib.hid ⟨S1, T2, HP3.out⟩⟩
          case measure => simp [intOf]; omega
        | false =>
          have hl2' : (putL L ep it).length ≤ k + 1 := Nat.le_trans hl2 (by omega)
          refine wp_region_first (fun w' => Blk w' n0 31 (opCells ⟨false, ep, it⟩)) 33 24 [0, 1, 2, 3, 4, 5, 7, 8, 9] (by kernel_rfl) (by kernel_rfl) HE.out ?_
          simp only [List.filterMap_cons, List.filterMap_nil, List.getElem?_toArray, List.getElem?_cons_zero, List.getElem?_cons_succ]
          show wpQuiet _ _ _ _ [_, _, _, _, _, _, _, _, _] _
          iterate 1 (go_big_quiet_step ((intros; rfl)))
          refine q_cell 4 _ _ (.bool false) (by kernel_rfl) rfl rfl (fun w h => by simp [go_sem, h]) (fun w h => h.cell 0) ?_
          simp only [Act.put, List.setIfInBounds_toArray, List.set_cons_zero, List.set_cons_succ]
          iterate 1 (go_big_quiet_step ((intros; rfl)))
          iterate 6 (with_reducible refine q_skip (by kernel_rfl) ?_; simp only [Act.put, List.setIfInBounds_toArray, List.set_cons_zero, List.set_cons_succ])
          refine wpQuiet_nil ?_
          refine headF_one (i := 6) (by kernel_rfl) (by omega) ?_
          refine wpOp_skip rfl (by kernel_rfl) ⟨HE.out, ?_⟩
          simp only [Act.put, List.getElem_toArray, List.getElem_cons_zero, List.getElem_cons_succ, List.setIfInBounds_toArray, List.set_cons_zero, List.set_cons_succ]
          refine headF_one (i := 10) (by kernel_rfl) (by omega) ?_
          refine wpOp_skip rfl (by kernel_rfl) ⟨HE.out, ?_⟩
          simp only [Act.put, List.getElem_toArray, List.getElem_cons_zero, List.getElem_cons_succ, List.setIfInBounds_toArray, List.set_cons_zero, List.set_cons_succ]
          refine headF_one (i := 11) (by kernel_rfl) (by omega) ?_
          refine wpOp_skip rfl (by kernel_rfl) ⟨HE.out, ?_⟩
          simp only [Act.put, List.getElem_toArray, List.getElem_cons_zero, List.getElem_cons_succ, List.setIfInBounds_toArray, List.set_cons_zero, List.set_cons_succ]
          refine headF_takes (fun w' => Blk w' n0 31 (opCells ⟨false, ep, it⟩)) (m := 21) (f := 4) [12, 13, 14, 15, 16, 17, 18, 19, 20, 21, 22, 23, 25, 26, 27, 28, 29] (fun _ h => h) (by kernel_rfl) HE.out ?_
          simp only [List.filterMap_cons, List.filterMap_nil, List.getElem?_toArray, List.getElem?_cons_zero, List.getElem?_cons_succ]
          show wpQuiet _ _ _ _ [_, _, _, _, _, _, _, _, _, _, _, _, _, _, _, _, _] _
          iterate 1 (with_reducible refine q_skip (by kernel_rfl) ?_; simp only [Act.put, List.setIfInBounds_toArray, List.set_cons_zero, List.set_cons_succ])
          iterate 3 (go_big_quiet_step ((intros; rfl)))
          refine q_cell 4 _ _ (.bool false) (by kernel_rfl) rfl rfl (fun w h => by simp [go_sem, h]) (fun w h => h.cell 0) ?_
          simp only [Act.put, List.setIfInBounds_toArray, List.set_cons_zero, List.set_cons_succ]
          iterate 4 (go_big_quiet_step ((intros; rfl)))
          refine q_cell 3 _ _ (.int .i64 ep) (by kernel_rfl) rfl rfl (fun w h => by simp [go_sem, h]) (fun w h => h.cell 1) ?_
          simp only [Act.put, List.setIfInBounds_toArray, List.set_cons_zero, List.set_cons_succ]
          iterate 1 (go_big_quiet_step ((intros; rfl)))
          refine q_cell 3 _ _ (.int .i64 it) (by kernel_rfl) rfl rfl (fun w h => by simp [go_sem, h]) (fun w h => h.cell 2) ?_
          simp only [Act.put, List.setIfInBounds_toArray, List.set_cons_zero, List.set_cons_succ]
          iterate 2 (go_big_quiet_step ((intros; rfl)))
          refine q_cell 3 _ _ (.int .i64 ep) (by kernel_rfl) rfl rfl (fun w h => by simp [go_sem, h]) (fun w h => h.cell 1) ?_
          simp only [Act.put, List.setIfInBounds_toArray, List.set_cons_zero, List.set_cons_succ]
          iterate 1 (go_big_quiet_step ((intros; rfl)))
          refine q_cell 3 _ _ (.int .i64 it) (by kernel_rfl) rfl rfl (fun w h => by simp [go_sem, h]) (fun w h => h.cell 2) ?_
          simp only [Act.put, List.setIfInBounds_toArray, List.set_cons_zero, List.set_cons_succ]
          refine wpQuiet_nil ?_
          refine headF_one (i := 24) (by kernel_rfl) (by omega) ?_
          refine wpOp_atG rfl (by kernel_rfl) (wp_call_at rfl #[.pointer (some ⟨b, 0, none⟩), .int .i64 ep, .int .i64 it] (by kernel_rfl) Try.call19 ((put_all b n S L ep it _ (HR2.out.1.drew) (by omega)).mono ?_))
          rintro e w1 ⟨rfl, S1, hR, hs, hk⟩
          have HR1 := Lib.hid hR
          have HK1 : Hid (Kept S W w1) := Lib.hid (((Kept.refl _ W).drew).trans hk (fun _ _ h => h))
          have HS1 : Hid (∀ i, S1 i → S i ∨ W.heap.size ≤ i) := Lib.hid hs
          have HE1 : Hid (Blk w1 n0 31 (opCells ⟨false, ep, it⟩)) := Lib.hid (HE.out.kept HK1.out HSZ.out.1)
          have HT1 : Hid (Ring w1 c T m L) := Lib.hid (HR2.out.2.1.kept HK1.out (fun i hi hs => HR2.out.2.2.1 i hs hi))
          have HA1 : Hid (∀ i, S1 i → ¬ T i) := Lib.hid (fun i hi ht => by
            rcases hs i hi with h | h
            · exact HR2.out.2.2.1 i h ht
            · have h2 := HR2.out.2.1.lt i ht
              have h3 : W.heap.size ≤ i := h
              omega)
          clear hR hs hk
          refine ⟨_, rfl, HE1.out, ?_⟩
          simp only [Act.put, List.getElem_toArray, List.getElem_cons_zero, List.getElem_cons_succ, List.setIfInBounds_toArray, List.set_cons_zero, List.set_cons_succ]
          refine headF_one (i := 30) (by kernel_rfl) (by omega) ?_
          refine wpOp_atG rfl (by kernel_rfl) (wp_call_at rfl #[.pointer (some ⟨c, 0, none⟩), .int .i64 ep, .int .i64 it] (by kernel_rfl) Try.call19 ((put_all c m T L ep it _ HT1.out (by omega)).mono ?_))
          rintro e w2 ⟨rfl, T2, hR2, hs2, hk2⟩
          have HP2 : Hid (Duo w w2 b c n m S1 T2 (putL L ep it)) := Lib.hid (by
            have hB := HR2.out.2.2.2.2.2
            have e0 := hB.size
            have e1 : W.heap.size ≤ w1.heap.size := HK1.out.size
            refine ⟨HR1.out.kept hk2 HA1.out, hR2, fun i hi ht => ?_, fun i hi => ?_, fun i hi => ?_, ?_⟩
            · rcases hs2 i ht with h | h
              · exact HA1.out i hi h
              · have := HR1.out.lt i hi
                omega
            · rcases HS1.out i hi with h | h
              · exact HR2.out.2.2.2.1 i h
              · omega
            · rcases hs2 i hi with h | h
              · exact HR2.out.2.2.2.2.1 i h
              · omega
            · exact Kept.below (Kept.below hB HK1.out HR2.out.2.2.2.1 e0) hk2 HR2.out.2.2.2.2.1 (by omega))
          have HE2 : Hid (Blk w2 n0 31 (opCells ⟨false, ep, it⟩)) := Lib.hid (HE1.out.kept hk2 HSZ.out.2)
          clear hR2 hs2 hk2
          refine ⟨_, rfl, HE2.out, ?_⟩
          simp only [Act.put, List.getElem_toArray, List.getElem_cons_zero, List.getElem_cons_succ, List.setIfInBounds_toArray, List.set_cons_zero, List.set_cons_succ]
          refine headF_takes (fun w' => Blk w' n0 31 (opCells ⟨false, ep, it⟩)) (m := 2) (f := 0) [31, 32] (fun _ h => h) (by kernel_rfl) HE2.out ?_
          simp only [List.filterMap_cons, List.filterMap_nil, List.getElem?_toArray, List.getElem?_cons_zero, List.getElem?_cons_succ]
          show wpQuiet _ _ _ _ [_, _] _
          generalize okE ep = ok
          iterate 2 (go_big_quiet_step ((intros; rfl)))
          refine wpQuiet_nil ?_
          show Region.seqB _ _ _ _ _ = true ∧ _
          refine ⟨by kernel_rfl, ?_⟩
          simp only [Act.put, List.getElem_toArray, List.getElem_cons_zero, List.getElem_cons_succ, List.setIfInBounds_toArray, List.set_cons_zero, List.set_cons_succ, List.drop_succ_cons, List.drop_zero]
          clear HE HE1 HE2 HR1 HK1 HS1 HT1 HA1 HX HR2 HSZ
          go_wp2_with fail
          refine NoPanic.normal ?_
          go_wp2_with fail
          go_roundw
          case rel => exact ⟨k + 1, putL L ep it, by omega, hl2', by go_num, Lib.hid ⟨S1, T2, HP2.out⟩⟩
          case measure => simp [intOf]; omega
      · obtain rfl : k = len2 := by omega
        clear hlt
        have hlt : ¬ k < k := by omega
        have hL100 : L.length ≤ 100 := by omega
        go_wp2_with fail
        refine (alive_any _).mono ?_
        rintro x w3 ⟨rfl, hb3⟩
        have K3 := Lib.hid (HR.out.below hb3)
        clear hb3 HR
        go_wp2_with fail
        refine (len_any b n S L w3 K3.out.1 (by omega)).mono ?_
        rintro x w4 ⟨rfl, hb4⟩
        have K4 := Lib.hid (K3.out.below hb4)
        clear hb4 K3
        go_wp2_with fail
        refine (len_any c m T L w4 K4.out.2.1 (by omega)).mono ?_
        rintro x w5 ⟨rfl, hb5⟩
        have K5 := Lib.hid (K4.out.below hb5)
        clear hb5 K4
        go_wp2_with fail
        refine (ring_any K5.out.1 (by omega)).mono ?_
        rintro x w6 ⟨t, a6, c6, rfl, ht, HT, HE6, HB6⟩
        have K6 := Lib.hid (K5.out.below HB6.out)
        have ht6 : t.length ≤ 100 := by omega
        clear ht
        clear HB6 K5
        go_wp2_with fail
        refine (ring_all K6.out.2.1 (by omega) HT.out.1 HT.out.2).mono ?_
        rintro x w7 ⟨a7, c7, rfl, hf7, hb7⟩
        have HE7 := Lib.hid hf7.ents
        have HE6b := Lib.hid (HE6.out.below hb7)
        have K7 := Lib.hid (K6.out.below hb7)
        clear hf7 hb7 K6 HE6
        go_wp2_with fail
        refine (equal_ents a6 a7 t.length c6 c7 t w7 HE6b.out HE7.out (by omega) rfl).mono ?_
        rintro x w8 ⟨rfl, m', rfl⟩
        go_wp2_with fail
        go_ret
        exact ⟨by first | rfl | simp, below_drewN K7.out.2.2.2.2.2 m'⟩
end Go.Proofs.Ytinndmglacfofaa
