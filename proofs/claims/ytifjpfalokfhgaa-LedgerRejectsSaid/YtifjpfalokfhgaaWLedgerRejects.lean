/- The walk of LedgerRejects. -/
import Derived.Test.YtifjpfalokfhgaaWLedgerRoom
namespace Go.Proofs.Ytifjpfalokfhgaa
open Go Go.RowKit Go.OpenShut
set_option linter.unusedVariables false
set_option linter.unusedSimpArgs false

set_option maxHeartbeats 1600000 in
theorem walk_LedgerRejects (a0 : Int) (a1 : Option Addr) (len1 cap1 : Nat) (w : World) (w0 : (Lit.int .u64 a0).wf = true) (w1 : IsEnts w a1 len1 cap1) :
    Calls Try.prog 6 #[.int .u64 a0, .slice a1 len1 cap1] w fun e w' => e = .returned (.bool true) ∧ Below w.heap.size w w' := by
  obtain ⟨c0, c1⟩ := bounds_u64 w0
  have W1 := Lib.hid w1
  have hl1 : len1 ≤ 9223372036854775807 := by have := w1.1; have := w1.2.1; unfold maxLen at this; omega
  clear w0 w1
  go_enter Try.func6, Try.ntmps6
  go_wp2_with fail
  refine (new_at a0 _ c0 c1).mono ?_
  rintro e w1 ⟨rfl, l1, f1, b1, s1⟩
  have BO : Hid (Both (w1.alloc (.cells #[.int .u64 a0, .int .u64 0, .int .u64 0, .int .u64 0] 28)) w.heap.size w.heap.size w1.heap.size 0 0 0 a0) := Lib.hid (Both.new_ l1 f1 s1)
  have B2 : Below w.heap.size w (w1.alloc (.cells #[.int .u64 a0, .int .u64 0, .int .u64 0, .int .u64 0] 28)) := b1.alloc b1.size _
  clear l1 f1 b1 s1
  by_cases h1000 : (1000 : Int) < (len1 : Int)
  · go_wp2_with fail
    generalize w1.alloc (.cells #[.int .u64 a0, .int .u64 0, .int .u64 0, .int .u64 0] 28) = w2 at *
    refine (alive_any _).mono ?_
    rintro e w3 ⟨rfl, b3⟩
    go_wp2_with fail
    go_ret
    exact ⟨rfl, B2.trans (b3.mono B2.size)⟩
  · go_wp2_with fail
    generalize w1.alloc (.cells #[.int .u64 a0, .int .u64 0, .int .u64 0, .int .u64 0] 28) = w2 at *
    go_loopw [26] (fun s26 wr => ∃ (k : Nat) (D P B : Int), k ≤ len1 ∧ s26 = .int .i64 k ∧ Hid (Both wr w.heap.size w.heap.size w1.heap.size D P B a0) ∧ Below w.heap.size w wr) (fun s26 _ => len1 - (intOf s26).toNat)
    case atStart => exact ⟨0, 0, 0, 0, by omega, rfl, BO, B2⟩
    case round =>
      obtain ⟨k, D, P, B, hk, rfl, BR, BB⟩ := hrel
      by_cases hlt : k < len1
      · obtain ⟨b, off, kd, x, rfl, x1, x2, hx⟩ := W1.out.at BB hlt
        obtain ⟨y0, y1⟩ := bounds_u64 hx
        have BR' : Hid (Both (wr.alloc (.cells #[.int .i64 kd, .int .u64 x] 31)) w.heap.size w.heap.size w1.heap.size D P B a0) := Lib.hid (BR.out.alloc _)
        have BB' : Below w.heap.size w (wr.alloc (.cells #[.int .i64 kd, .int .u64 x] 31)) := BB.alloc BB.size _
        have HE : Hid (Blk (wr.alloc (.cells #[.int .i64 kd, .int .u64 x] 31)) wr.heap.size 31 #[.int .i64 kd, .int .u64 x]) := Lib.hid (Blk.new _ _ _)
        have HF := Lib.hid BR.out.2.2.2.2.2
        clear BR BB hx
        go_wp2_with fail
        clear x1 x2
        generalize wr.alloc (.cells #[.int .i64 kd, .int .u64 x] 31) = W at *
        refine (totals_any _ D P B a0 _ BR'.out.1).mono ?_
        rintro e w3 ⟨rfl, b3⟩
        have BO3 : Hid (Both w3 w.heap.size w.heap.size w1.heap.size D P B a0) := Lib.hid (BR'.out.below b3)
        have B3 := BB'.trans (b3.mono BB'.size)
        have E3 : Hid (Blk w3 wr.heap.size 31 #[.int .i64 kd, .int .u64 x]) := Lib.hid (HE.out.below b3 (Blk.lt HE.out))
        have HS := Lib.hid (fun (w4 : World) (h : LedAt w4 w.heap.size D P B a0) => supply_any w.heap.size D P B a0 w4 h HF.out)
        have HSS : Hid (∃ S, S = D - P - B) := Lib.hid ⟨_, rfl⟩
        obtain ⟨S, hS⟩ := HSS.out
        rw [← hS] at HS
        have HSE := Lib.hid hS
        clear b3 BR' BB' HE HSS hS
        go_wp2_with fail
        refine (HS.out _ BO3.out.1).mono ?_
        rintro e w4 ⟨rfl, m4, hw4⟩
        have BO4 : Hid (Both (w4.alloc (.cells #[.int .u64 D, .int .u64 P, .int .u64 B] 36)) w.heap.size w.heap.size w1.heap.size D P B a0) := Lib.hid (hw4 ▸ Both.alloc (BO3.out.drewN m4) _)
        have B4 : Below w.heap.size w (w4.alloc (.cells #[.int .u64 D, .int .u64 P, .int .u64 B] 36)) := hw4 ▸ (below_drewN B3 m4).alloc B3.size _
        have E4 : Hid (Blk (w4.alloc (.cells #[.int .u64 D, .int .u64 P, .int .u64 B] 36)) wr.heap.size 31 #[.int .i64 kd, .int .u64 x]) := Lib.hid (hw4 ▸ Blk.alloc (Blk.drewN E3.out m4) _)
        have T4 : Hid (Blk (w4.alloc (.cells #[.int .u64 D, .int .u64 P, .int .u64 B] 36)) w4.heap.size 36 #[.int .u64 D, .int .u64 P, .int .u64 B]) := Lib.hid (Blk.new _ _ _)
        have HN1 : Hid (w4.heap.size ≠ w.heap.size ∧ w4.heap.size ≠ w1.heap.size) := Lib.hid (by
          have h1 : w.heap.size < w4.heap.size := hw4 ▸ Blk.lt BO3.out.1
          have h2 : w1.heap.size < w4.heap.size := hw4 ▸ Blk.lt BO3.out.2.1
          omega)
        have e0 := E4.out.cell 0
        have e1 := E4.out.cell 1
        clear hw4 BO3 B3 E3
        go_wp2_with (first | (refine wpList_store_row rfl _ _ _ rfl w4.heap.size #[.int .u64 D, .int .u64 P, .int .u64 B] rfl rfl 36 _ (heap_alloc_new w4 _) infoT rfl rfl ?_; rw [World.setRow_alloc_new]) | fail)
        clear e0 e1
        generalize w4.alloc (.cells #[.int .u64 D, .int .u64 P, .int .u64 B] 36) = V at *
        refine (do_any _ _ _ kd x D P B a0 V BO4.out y0 y1).mono ?_
        rintro e w5 ⟨r, D', P', B', rfl, r0, r1, hr, bo, bel, keep⟩
        have BO5 := Lib.hid bo
        have B5 := bel w B4
        have T5 := Lib.hid (keep _ _ _ HN1.out.1 HN1.out.2 T4.out)
        have HRR := Lib.hid hr
        clear hr bo bel keep BO4 B4 T4 E4 HN1
        by_cases hr0 : r = 0
        · subst hr0
          clear HRR HS T5
          go_wp2
          go_quiet (fail)
          go_wp2_with fail
          go_roundw
          case rel => exact ⟨k + 1, D', P', B', by omega, by go_num, Lib.hid (BO5.out.drewN _), below_drewN B5 _⟩
          case measure => simp [intOf]; omega
        · obtain ⟨rfl, rfl, rfl⟩ := HRR.out hr0
          have hn : (r != 0) = true := by simpa using hr0
          clear HRR hr0
          go_wp2
          refine wp_region_class (fun w' => Both w' w.heap.size w.heap.size w1.heap.size D' P' B' a0 ∧ Blk w' w4.heap.size 36 #[.int .u64 D', .int .u64 P', .int .u64 B'] ∧ Below w.heap.size w w') (by kernel_rfl) (by kernel_rfl) ⟨BO5.out.drewN 1, Blk.drew T5.out, B5.drew⟩ ?_
          iterate 2 (go_big_quiet_step ((intros; rfl)))
          iterate 2 (go_big_quiet_step ((intros; rfl)))
          refine q_call (.agg #[.int .u64 D', .int .u64 P', .int .u64 B']) #[.pointer (some ⟨w.heap.size, 0, none⟩)] (by kernel_rfl) (by kernel_rfl) Try.call12 (fun w' h => (totals_any _ D' P' B' a0 w' h.1.1).mono fun e w'' ⟨he, hb⟩ => ⟨he, h.1.below hb, h.2.1.below hb (Blk.lt h.2.1), h.2.2.trans (hb.mono h.2.2.size)⟩) ?_
          simp only [Act.put, List.setIfInBounds_toArray, List.set_cons_zero, List.set_cons_succ]
          refine q_load 36 (.tmp 9) w4.heap.size 36 _ _ (by kernel_rfl) rfl rfl (fun _ h => h.2.1) Try.underlying36 rfl infoT ?_
          simp only [Act.put, List.setIfInBounds_toArray, List.set_cons_zero, List.set_cons_succ]
          refine q_val (.bool false) (by kernel_rfl) (fun W => exec_same_neq W (xs := #[.int .u64 D', .int .u64 P', .int .u64 B']) rfl rfl Try.eqGuardType36 (totals_same D' P' B' W)) ?_
          simp only [Act.put, List.setIfInBounds_toArray, List.set_cons_zero, List.set_cons_succ]
          iterate 2 (go_big_quiet_step ((intros; rfl)))
          refine q_call (.int .u64 S) #[.pointer (some ⟨w.heap.size, 0, none⟩)] (by kernel_rfl) (by kernel_rfl) Try.call13 (fun w' h => (HS.out w' h.1.1).mono fun e w'' ⟨he, m, hm⟩ => ⟨he, hm ▸ h.1.drewN m, hm ▸ Blk.drewN h.2.1 m, hm ▸ below_drewN h.2.2 m⟩) ?_
          simp only [Act.put, List.setIfInBounds_toArray, List.set_cons_zero, List.set_cons_succ]
          iterate 4 (go_big_quiet_step ((intros; rfl)))
          refine wpQuiet_nil ?_
          rintro w6 ⟨BO6, _, B6⟩
          have HO6 := Lib.hid BO6
          clear BO6 HS BO5 B5 T5
          go_wp2_with fail
          go_roundw
          case rel => exact ⟨k + 1, D', P', B', by omega, by go_num, HO6, B6⟩
          case measure => simp [intOf]; omega
      · go_wp2_with fail
        refine (alive_any _).mono ?_
        rintro e w4 ⟨rfl, b4⟩
        go_wp2_with fail
        go_ret
        exact ⟨rfl, BB.trans (b4.mono BB.size)⟩
end Go.Proofs.Ytifjpfalokfhgaa
