/- The walk of LedgerBalances. -/
import Derived.Test.YtifjpfalokfhgaaWLedgerRoom
namespace Go.Proofs.Ytifjpfalokfhgaa
open Go Go.RowKit Go.OpenShut
set_option linter.unusedVariables false
set_option linter.unusedSimpArgs false

theorem getD_three (u y x : Int) (i : Nat) (hu0 : 0 ≤ u) (hu1 : u ≤ 18446744073709551615) (hy0 : 0 ≤ y) (hy1 : y ≤ 18446744073709551615) (hx0 : 0 ≤ x) (hx1 : x ≤ 18446744073709551615) : 0 ≤ [u, y, x].getD i 0 ∧ [u, y, x].getD i 0 ≤ 18446744073709551615 := by
  match i with
  | 0 => exact ⟨hu0, hu1⟩
  | 1 => exact ⟨hy0, hy1⟩
  | 2 => exact ⟨hx0, hx1⟩
  | i + 3 => simp
theorem add3_yes (g : Nat) (u y x : Int) (w : World) (h : Blk w g 22 #[.int .u64 u, .int .u64 y, .int .u64 x]) (hu0 : 0 ≤ u) (hy0 : 0 ≤ y) (hx0 : 0 ≤ x) (hs : u + y + x ≤ 18446744073709551615) :
    Calls Try.prog 17 #[.slice (some ⟨g, 0, none⟩) 3 3] w fun e w' => e = .returned (.tuple #[.int .u64 (u + y + x), .bool true]) ∧ w = w' := by
  have e : sumTo [u, y, x] 3 = u + y + x := by simp [sumTo]
  have k := add_yes (z := [u, y, x]) (n := 3) (by rw [e]; exact hs)
  rw [e] at k
  have := add_row g 0 3 3 [u, y, x] w (by omega) (fun i hi => by
    rw [Nat.zero_add, Blk.cell h i]
    obtain rfl | rfl | rfl : i = 0 ∨ i = 1 ∨ i = 2 := by omega
    all_goals rfl) (fun i => getD_three u y x i hu0 (by omega) hy0 (by omega) hx0 (by omega))
  rwa [k.1, k.2] at this

set_option maxHeartbeats 1600000 in
theorem walk_LedgerBalances (a0 : Int) (a1 : Option Addr) (len1 cap1 : Nat) (w : World) (w0 : (Lit.int .u64 a0).wf = true) (w1 : IsEnts w a1 len1 cap1) :
    Calls Try.prog 4 #[.int .u64 a0, .slice a1 len1 cap1] w fun e w' => e = .returned (.bool true) ∧ Below w.heap.size w w' := by
  obtain ⟨c0, c1⟩ := bounds_u64 w0
  have W1 := Lib.hid w1
  have hl1 : len1 ≤ 9223372036854775807 := by have := w1.1; have := w1.2.1; unfold maxLen at this; omega
  clear w0 w1
  go_enter Try.func4, Try.ntmps4
  go_wp2_with fail
  refine (new_at a0 _ c0 c1).mono ?_
  rintro e w1 ⟨rfl, l1, f1, b1, s1⟩
  have BO : Hid (Both (w1.alloc (.cells #[.int .u64 a0, .int .u64 0, .int .u64 0, .int .u64 0] 28)) w.heap.size w.heap.size w1.heap.size 0 0 0 a0) := Lib.hid (Both.new_ l1 f1 s1)
  have B2 : Below w.heap.size w (w1.alloc (.cells #[.int .u64 a0, .int .u64 0, .int .u64 0, .int .u64 0] 28)) := b1.alloc b1.size _
  clear l1 f1 b1 s1
  by_cases h1000 : (1000 : Int) < (len1 : Int)
  · go_wp2_with fail
    generalize w1.alloc (.cells #[.int .u64 a0, .int .u64 0, .int .u64 0, .int .u64 0] 28) = w2 at *
    refine (alive_any _).mono ?_
    rintro e w3 ⟨rfl, b3⟩
    go_wp2_with fail
    go_ret
    exact ⟨rfl, B2.trans (b3.mono B2.size)⟩
  · go_wp2_with fail
    generalize w1.alloc (.cells #[.int .u64 a0, .int .u64 0, .int .u64 0, .int .u64 0] 28) = w2 at *
    go_loopw [25] (fun s25 wr => ∃ (k : Nat) (D P B : Int), k ≤ len1 ∧ s25 = .int .i64 k ∧ Hid (Both wr w.heap.size w.heap.size w1.heap.size D P B a0) ∧ Below w.heap.size w wr) (fun s25 _ => len1 - (intOf s25).toNat)
    case atStart => exact ⟨0, 0, 0, 0, by omega, rfl, BO, B2⟩
    case round =>
      obtain ⟨k, D, P, B, hk, rfl, BR, BB⟩ := hrel
      by_cases hlt : k < len1
      · obtain ⟨b, off, kd, x, rfl, x1, x2, hx⟩ := W1.out.at BB hlt
        obtain ⟨y0, y1⟩ := bounds_u64 hx
        have BR' : Hid (Both (wr.alloc (.cells #[.int .i64 kd, .int .u64 x] 31)) w.heap.size w.heap.size w1.heap.size D P B a0) := Lib.hid (BR.out.alloc _)
        have BB' : Below w.heap.size w (wr.alloc (.cells #[.int .i64 kd, .int .u64 x] 31)) := BB.alloc BB.size _
        clear BR BB hx
        go_wp2_with fail
        clear x1 x2
        generalize wr.alloc (.cells #[.int .i64 kd, .int .u64 x] 31) = W at *
        refine (do_any _ _ _ kd x D P B a0 W BR'.out y0 y1).mono ?_
        rintro e w5 ⟨r, D', P', B', rfl, r0, r1, hr, bo, bel, _⟩
        have BO5 := Lib.hid bo
        have B5 := bel w BB'
        clear hr bo bel BR' BB' D P B
        go_wp2_with fail
        refine (totals_any _ _ _ _ _ _ BO5.out.1).mono ?_
        rintro e w6 ⟨rfl, b6⟩
        have BO6 : Hid (Both (w6.alloc (.cells #[.int .u64 D', .int .u64 P', .int .u64 B'] 36)) w.heap.size w.heap.size w1.heap.size D' P' B' a0) := Lib.hid ((BO5.out.below b6).alloc _)
        have B6 : Below w.heap.size w (w6.alloc (.cells #[.int .u64 D', .int .u64 P', .int .u64 B'] 36)) := (B5.trans (b6.mono B5.size)).alloc (B5.trans (b6.mono B5.size)).size _
        have HT : Hid (Blk (w6.alloc (.cells #[.int .u64 D', .int .u64 P', .int .u64 B'] 36)) w6.heap.size 36 #[.int .u64 D', .int .u64 P', .int .u64 B']) := Lib.hid (Blk.new _ _ _)
        clear b6 BO5 B5
        go_wp2_with (first | (refine wpList_store_row rfl _ _ _ rfl w6.heap.size #[.int .u64 D', .int .u64 P', .int .u64 B'] rfl rfl 36 _ (heap_alloc_new w6 _) infoT rfl rfl ?_; rw [World.setRow_alloc_new]) | fail)
        generalize w6.alloc (.cells #[.int .u64 D', .int .u64 P', .int .u64 B'] 36) = V at *
        have HF := Lib.hid BO6.out.2.2.2.2.2
        have T0 : Hid (Blk V.drew w6.heap.size 36 #[.int .u64 D', .int .u64 P', .int .u64 B']) := Lib.hid (Blk.drew HT.out)
        refine wp_region_first (fun w' => Blk w' w6.heap.size 36 #[.int .u64 D', .int .u64 P', .int .u64 B']) 12 7 [0, 2, 3, 4, 5] (by kernel_rfl) (by kernel_rfl) T0.out ?_
        simp only [List.filterMap_cons, List.filterMap_nil, List.getElem?_toArray, List.getElem?_cons_zero, List.getElem?_cons_succ]
        show wpQuiet _ _ _ _ [_, _, _, _, _] _
        iterate 2 (go_big_quiet_step ((intros; rfl)))
        refine q_cell 22 _ _ (.int .u64 P') rfl rfl rfl (fun w h => by simp [go_sem, h]) (fun w h => Blk.cell h 1) ?_
        simp only [Act.put, List.setIfInBounds_toArray, List.set_cons_zero, List.set_cons_succ]
        iterate 1 (go_big_quiet_step ((intros; rfl)))
        refine q_cell 22 _ _ (.int .u64 B') rfl rfl rfl (fun w h => by simp [go_sem, h]) (fun w h => Blk.cell h 2) ?_
        simp only [Act.put, List.setIfInBounds_toArray, List.set_cons_zero, List.set_cons_succ]
        refine wpQuiet_nil ?_
        refine headF_one (i := 1) (by kernel_rfl) (by omega) ?_
        refine wpOp_at rfl rfl (wp_call_at rfl #[.pointer (some ⟨w.heap.size, 0, none⟩)] (by kernel_rfl) Try.call13 ((supply_any w.heap.size D' P' B' a0 V.drew (Blk.drew BO6.out.1) HF.out).mono ?_))
        rintro e w7 ⟨rfl, m7, rfl⟩
        refine ⟨_, rfl, Blk.drewN T0.out m7, ?_⟩
        simp only [Act.put, List.getElem_toArray, List.getElem_cons_zero, List.getElem_cons_succ, List.setIfInBounds_toArray, List.set_cons_zero, List.set_cons_succ]
        refine headF_one (i := 6) (by kernel_rfl) (by omega) ?_
        refine wpOp_at rfl rfl (wp_buildSlice_three 51 22 (.tmp 37) (.tmp 39) (.tmp 41) _ _ (.int .u64 (D' - P' - B')) (.int .u64 P') (.int .u64 B') rfl rfl rfl rfl Try.underlying51 u64_info rfl rfl rfl rfl ⟨Blk.alloc (Blk.drewN T0.out m7) _, ?_⟩)
        simp only [Act.put, List.getElem_toArray, List.getElem_cons_zero, List.getElem_cons_succ, List.setIfInBounds_toArray, List.set_cons_zero, List.set_cons_succ]
        refine headF_one (i := 7) (by kernel_rfl) (by omega) ?_
        have hsum : D' - P' - B' + P' + B' = D' := by omega
        have hadd := add3_yes (V.drew.drewN m7).heap.size (D' - P' - B') P' B' _ (Blk.new (V.drew.drewN m7) _ _) (by have := HF.out; unfold Fits at this; omega) HF.out.1 HF.out.2.1 (by rw [hsum]; exact HF.out.2.2.2.1)
        rw [hsum] at hadd
        refine wpOp_at rfl rfl (wp_call_at rfl #[.slice (some ⟨(V.drew.drewN m7).heap.size, 0, none⟩) 3 3] (by kernel_rfl) Try.call17 (hadd.mono ?_))
        rintro e w8 ⟨rfl, hw8⟩
        have T8 : Hid (Blk w8 w6.heap.size 36 #[.int .u64 D', .int .u64 P', .int .u64 B']) := Lib.hid (hw8 ▸ Blk.alloc (Blk.drewN T0.out m7) _)
        have BO8 : Hid (Both w8 w.heap.size w.heap.size w1.heap.size D' P' B' a0) := Lib.hid (hw8 ▸ Both.alloc (Both.drewN (BO6.out.drewN 1) m7) _)
        have B8 : Below w.heap.size w w8 := hw8 ▸ (below_drewN B6.drew m7).alloc B6.size _
        refine ⟨_, rfl, T8.out, ?_⟩
        clear hw8 hadd hsum BO6 B6 HT T0
        simp only [Act.put, List.getElem_toArray, List.getElem_cons_zero, List.getElem_cons_succ, List.setIfInBounds_toArray, List.set_cons_zero, List.set_cons_succ]
        refine headF_takes (fun w' => Blk w' w6.heap.size 36 #[.int .u64 D', .int .u64 P', .int .u64 B']) (m := 4) (f := 0) [8, 9, 10, 11] (fun _ h => h) (by kernel_rfl) T8.out ?_
        simp only [List.filterMap_cons, List.filterMap_nil, List.getElem?_toArray, List.getElem?_cons_zero, List.getElem?_cons_succ]
        show wpQuiet _ _ _ _ [_, _, _, _] _
        iterate 4 (go_big_quiet_step ((intros; rfl)))
        refine wpQuiet_nil ?_
        show Region.seqB _ _ _ _ _ = true ∧ _
        refine ⟨by kernel_rfl, ?_⟩
        simp only [Act.put, List.getElem_toArray, List.getElem_cons_zero, List.getElem_cons_succ, List.setIfInBounds_toArray, List.set_cons_zero, List.set_cons_succ, List.drop_succ_cons, List.drop_zero]
        go_wp2
        refine NoPanic.normal ?_
        have t0 := T8.out.cell 0
        have HS := Lib.hid (supply_any w.heap.size D' P' B' a0 w8 BO8.out.1 HF.out)
        have hcap : D' - P' - B' ≤ a0 := HF.out.2.2.2.2.1
        generalize D' - P' - B' = S at *
        go_wp2_with fail
        refine HS.out.mono ?_
        rintro e w9 ⟨rfl, m9, hw9⟩
        have BO9 : Hid (Both w9 w.heap.size w.heap.size w1.heap.size D' P' B' a0) := Lib.hid (hw9 ▸ BO8.out.drewN m9)
        have B9 : Below w.heap.size w w9 := hw9 ▸ below_drewN B8 m9
        clear hw9 HS BO8 B8 T8 t0
        go_wp2_with fail
        go_roundw
        case rel => exact ⟨k + 1, D', P', B', by omega, by go_num, BO9, B9⟩
        case measure => simp [intOf]; omega
      · go_wp2_with fail
        refine (alive_any _).mono ?_
        rintro e w4 ⟨rfl, b4⟩
        go_wp2_with fail
        go_ret
        exact ⟨rfl, BB.trans (b4.mono BB.size)⟩
end Go.Proofs.Ytifjpfalokfhgaa
