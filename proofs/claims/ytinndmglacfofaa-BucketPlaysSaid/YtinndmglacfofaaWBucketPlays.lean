/- The walk of BucketPlays. -/
import Derived.Test.YtinndmglacfofaaLaws
namespace Go.Proofs.Ytinndmglacfofaa
open Go Go.RowKit Go.Deep
set_option linter.unusedVariables false
set_option linter.unusedSimpArgs false

set_option maxHeartbeats 1600000 in
theorem walk_BucketPlays (a0 : Int) (a1 : Option Addr) (len1 cap1 : Nat) (w : World) (w0 : (Lit.int .i64 a0).wf = true) (w1 : IsOps w a1 len1 cap1) :
    Calls Try.prog 3 #[.int .i64 a0, .slice a1 len1 cap1] w fun e w' => e = .returned (.bool true) ∧ Below w.heap.size w w' := by
  have W1 := Lib.hid w1
  have hl1 : len1 ≤ 9223372036854775807 := by have := w1.1; have := w1.2.1; unfold maxLen at this; omega
  clear w0 w1
  by_cases hout : a0 < 1 ∨ 4096 < a0
  · have HNO := Lib.hid (fun w => new_none a0 w hout)
    by_cases h1 : a0 < 1
    · clear hout
      go_enter Try.func3, Try.ntmps3
      go_wp2_with fail
      refine (HNO.out _).mono ?_
      rintro e w1 ⟨rfl, rfl⟩
      go_wp2_with fail
      refine (alive_any _).mono ?_
      rintro e w1 ⟨rfl, hb⟩
      have HB := Lib.hid hb
      clear hb
      go_wp2_with fail
      go_ret
      exact ⟨rfl, HB.out⟩
    · have h2 : 4096 < a0 := by omega
      have h1 : 1 ≤ a0 := by omega
      clear hout
      go_enter Try.func3, Try.ntmps3
      go_wp2_with fail
      refine (HNO.out _).mono ?_
      rintro e w1 ⟨rfl, rfl⟩
      go_wp2_with fail
      refine (alive_any _).mono ?_
      rintro e w1 ⟨rfl, hb⟩
      have HB := Lib.hid hb
      clear hb
      go_wp2_with fail
      go_ret
      exact ⟨rfl, HB.out⟩
  · obtain ⟨n, rfl⟩ : ∃ n : Nat, a0 = n := ⟨a0.toNat, by omega⟩
    have hc1 : ¬ (n : Int) < 1 := by omega
    have hc2 : ¬ (4096 : Int) < (n : Int) := by omega
    have HN := Lib.hid (fun w => new_any n w (by omega) (by omega))
    clear hout
    go_enter Try.func3, Try.ntmps3
    go_wp2_with fail
    refine (HN.out _).mono ?_
    rintro e w1 ⟨b, S, rfl, hr, hS, hb⟩
    have H1 : Hid (Keep w (w1.alloc (.cells #[.slice none 0 0, .slice none 0 0] 29)) b w1.heap.size n []) := Lib.hid (Keep.new hr hS hb)
    have HB1 := Lib.hid hb
    clear hr hS hb
    by_cases h100 : (100 : Int) < (len1 : Int)
    · go_wp2_with fail
      refine (alive_any _).mono ?_
      rintro e w2 ⟨rfl, hb2⟩
      have HB := Lib.hid (HB1.out.trans (hb2.mono HB1.out.size))
      clear hb2
      go_wp2_with fail
      go_ret
      exact ⟨rfl, HB.out⟩
    · generalize hr0 : w1.heap.size = r at *
      go_wp2_with fail
      go_loopw [36] (fun s36 wr => ∃ (k : Nat) (L : List Ent), k ≤ len1 ∧ L.length ≤ k ∧ s36 = .int .i64 k ∧ Hid (Keep w wr b r n L)) (fun s36 _ => len1 - (intOf s36).toNat)
      case atStart => exact ⟨0, [], by omega, by simp, rfl, H1⟩
      case round =>
        obtain ⟨k, L, hk, hLk, rfl, HR⟩ := hrel
        by_cases hlt : k < len1
        · obtain ⟨g, off, x, rfl, HX, hf⟩ := W1.out.at HR.out.bel hlt
          have HE : Hid (Blk (wr.alloc (.cells (opCells x) 31)) wr.heap.size 31 (opCells x)) := Lib.hid (Blk.new _ _ _)
          have hk1 : ¬ (k : Int) < 0 := by omega
          have hk2 : ¬ (len1 : Int) ≤ (k : Int) := by omega
          have hk3 : (k : Int) < (len1 : Int) := by omega
          have hl2 := stepL_len L x
          clear hf
          go_wp2_with (first | (refine wpList_load_op rfl 31 _ rfl g (off + k * 3) rfl x _ HX.out Try.underlying31 rfl infoO ?_) | (refine wpList_store_row rfl _ _ _ rfl wr.heap.size (opCells x) rfl rfl 31 _ (heap_alloc_new wr _) infoO rfl (opCells_one x) ?_; rw [World.setRow_alloc_new]))
          have HD := Lib.hid (HR.out.doit_op x (by omega))
          refine wp_region_first (fun w' => Blk w' wr.heap.size 31 (opCells x)) 14 11 [0, 1, 2] (by kernel_rfl) (by kernel_rfl) HE.out ?_
          simp only [List.filterMap_cons, List.filterMap_nil, List.getElem?_toArray, List.getElem?_cons_zero, List.getElem?_cons_succ]
          show wpQuiet _ _ _ _ [_, _, _] _
          iterate 2 (go_big_quiet_step ((intros; rfl)))
          refine q_load 31 _ wr.heap.size 31 (opCells x) _ rfl rfl rfl (fun w h => h) Try.underlying31 rfl infoO ?_
          simp only [Act.put, List.setIfInBounds_toArray, List.set_cons_zero, List.set_cons_succ]
          refine wpQuiet_nil ?_
          refine headF_one (i := 3) (by kernel_rfl) (by omega) ?_
          refine wpOp_at rfl rfl (wp_call_at rfl #[.pointer (some ⟨b, 0, none⟩), .pointer (some ⟨r, 0, none⟩), .agg (opCells x)] (by kernel_rfl) Try.call11 (HD.out.mono ?_))
          rintro e w2 ⟨rfl, hK, hE2⟩
          obtain ⟨T2, hT2⟩ := hK.ref
          obtain ⟨ai, ci, y1⟩ := hT2.items
          have HK := Lib.hid hK
          have HE2 := Lib.hid hE2
          have HY := Lib.hid y1
          have HRL := Lib.hid (hT2.lt r hT2.self)
          generalize hL' : stepL L x = L' at *
          clear hT2 hK hE2 y1 HD HE
          refine ⟨_, rfl, HE2.out, ?_⟩
          simp only [Act.put, List.getElem_toArray, List.getElem_cons_zero, List.getElem_cons_succ, List.setIfInBounds_toArray, List.set_cons_zero, List.set_cons_succ]
          refine headF_takes (fun w' => Blk w' wr.heap.size 31 (opCells x) ∧ w'.cell? ⟨r, 1, none⟩ = some (.slice ai L'.length ci)) (m := 10) (f := 2) [4, 5, 6, 8, 9, 10, 11, 12] (fun _ h => h.1) (by kernel_rfl) ⟨HE2.out, HY.out⟩ ?_
          simp only [List.filterMap_cons, List.filterMap_nil, List.getElem?_toArray, List.getElem?_cons_zero, List.getElem?_cons_succ]
          show wpQuiet _ _ _ _ [_, _, _, _, _, _, _, _] _
          iterate 6 (go_big_quiet_step ((intros; rfl)))
          refine q_cell 27 _ _ (.slice ai L'.length ci) (by kernel_rfl) rfl rfl (fun w h => by simp [go_sem, h]) (fun w h => h.2) ?_
          simp only [Act.put, List.setIfInBounds_toArray, List.set_cons_zero, List.set_cons_succ]
          iterate 1 (go_big_quiet_step ((intros; rfl)))
          refine wpQuiet_nil ?_
          refine headF_one (i := 7) (by kernel_rfl) (by omega) ?_
          refine wpOp_atG rfl (by kernel_rfl) (wp_call_at rfl #[.pointer (some ⟨b, 0, none⟩)] (by kernel_rfl) Try.call12 ((HK.out.len2 (by omega)).mono ?_))
          rintro e w3 ⟨rfl, hK3, hb3⟩
          have HK3 := Lib.hid hK3
          have HE3 : Hid (Blk w3 wr.heap.size 31 (opCells x) ∧ w3.cell? ⟨r, 1, none⟩ = some (.slice ai L'.length ci)) := Lib.hid ⟨HE2.out.below hb3 HE2.out.lt, (hb3.cell (p := ⟨r, 1, none⟩) HRL.out).trans HY.out⟩
          clear hK3 hb3
          refine ⟨_, rfl, HE3.out, ?_⟩
          simp only [Act.put, List.getElem_toArray, List.getElem_cons_zero, List.getElem_cons_succ, List.setIfInBounds_toArray, List.set_cons_zero, List.set_cons_succ]
          refine headF_takes (fun w' => Blk w' wr.heap.size 31 (opCells x) ∧ w'.cell? ⟨r, 1, none⟩ = some (.slice ai L'.length ci)) (m := 1) (f := 0) [13] (fun _ h => h) (by kernel_rfl) HE3.out ?_
          simp only [List.filterMap_cons, List.filterMap_nil, List.getElem?_toArray, List.getElem?_cons_zero, List.getElem?_cons_succ]
          show wpQuiet _ _ _ _ [_] _
          iterate 1 (go_big_quiet_step ((intros; rfl)))
          refine wpQuiet_nil ?_
          show Region.seqB _ _ _ _ _ = true ∧ _
          refine ⟨by kernel_rfl, ?_⟩
          simp only [Act.put, List.getElem_toArray, List.getElem_cons_zero, List.getElem_cons_succ, List.setIfInBounds_toArray, List.set_cons_zero, List.set_cons_succ, List.drop_succ_cons, List.drop_zero]
          have HNX := Lib.hid (HK3.out.next (by omega))
          clear HK HE2 HY HRL HR HX
          go_wp2
          refine NoPanic.normal ?_
          go_wp2_with fail
          refine HNX.out.mono ?_
          rintro e w4 ⟨rfl, K4⟩
          clear HK3 HE3 HNX
          go_wp2_with fail
          refine (K4.out.rnext (by omega)).mono ?_
          rintro e w5 ⟨rfl, rfl⟩
          generalize (bestF L').2 = m1 at *
          generalize (bestF L').1 = m2 at *
          go_wp2_with fail
          go_roundw
          case rel => exact ⟨k + 1, L', by omega, by omega, by go_num, K4⟩
          case measure => simp [intOf]; omega
        · obtain rfl : k = len1 := by omega
          clear hlt
          have hlt : ¬ k < k := by omega
          have HB := Lib.hid HR.out.bel
          go_wp2_with fail
          refine (alive_any _).mono ?_
          rintro e w2 ⟨rfl, hb2⟩
          have HB2 := Lib.hid (HB.out.trans (hb2.mono HB.out.size))
          clear hb2
          go_wp2_with fail
          go_ret
          exact ⟨rfl, HB2.out⟩
end Go.Proofs.Ytinndmglacfofaa
