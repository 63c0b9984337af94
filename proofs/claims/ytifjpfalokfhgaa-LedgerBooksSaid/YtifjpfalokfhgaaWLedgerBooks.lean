/- The walk of LedgerBooks. -/
import Derived.Test.YtifjpfalokfhgaaWLedgerRoom
namespace Go.Proofs.Ytifjpfalokfhgaa
open Go Go.RowKit Go.OpenShut
set_option linter.unusedVariables false
set_option linter.unusedSimpArgs false

set_option maxHeartbeats 1600000 in
theorem walk_LedgerBooks (a0 : Int) (a1 : Option Addr) (len1 cap1 : Nat) (w : World) (w0 : (Lit.int .u64 a0).wf = true) (w1 : IsEnts w a1 len1 cap1) :
    Calls Try.prog 3 #[.int .u64 a0, .slice a1 len1 cap1] w fun e w' => e = .returned (.bool true) ∧ Below w.heap.size w w' := by
  obtain ⟨c0, c1⟩ := bounds_u64 w0
  have W1 := Lib.hid w1
  have hl1 : len1 ≤ 9223372036854775807 := by have := w1.1; have := w1.2.1; unfold maxLen at this; omega
  clear w0 w1
  go_enter Try.func3, Try.ntmps3
  go_wp2_with fail
  refine (new_at a0 _ c0 c1).mono ?_
  rintro e w1 ⟨rfl, l1, f1, b1, s1⟩
  have BO : Hid (Both (w1.alloc (.cells #[.int .u64 a0, .int .u64 0, .int .u64 0, .int .u64 0] 28)) w.heap.size w.heap.size w1.heap.size 0 0 0 a0) := Lib.hid (Both.new_ l1 f1 s1)
  have B2 : Below w.heap.size w (w1.alloc (.cells #[.int .u64 a0, .int .u64 0, .int .u64 0, .int .u64 0] 28)) := b1.alloc b1.size _
  clear l1 f1 b1 s1
  by_cases h1000 : (1000 : Int) < (len1 : Int)
  · go_wp2_with fail
    generalize w1.alloc (.cells #[.int .u64 a0, .int .u64 0, .int .u64 0, .int .u64 0] 28) = w2 at *
    refine (alive_any _).mono ?_
    rintro e w3 ⟨rfl, b3⟩
    go_wp2_with fail
    go_ret
    exact ⟨rfl, B2.trans (b3.mono B2.size)⟩
  · go_wp2_with fail
    generalize w1.alloc (.cells #[.int .u64 a0, .int .u64 0, .int .u64 0, .int .u64 0] 28) = w2 at *
    go_loopw [24] (fun s24 wr => ∃ (k : Nat) (D P B : Int), k ≤ len1 ∧ s24 = .int .i64 k ∧ Hid (Both wr w.heap.size w.heap.size w1.heap.size D P B a0) ∧ Below w.heap.size w wr) (fun s24 _ => len1 - (intOf s24).toNat)
    case atStart => exact ⟨0, 0, 0, 0, by omega, rfl, BO, B2⟩
    case round =>
      obtain ⟨k, D, P, B, hk, rfl, BR, BB⟩ := hrel
      by_cases hlt : k < len1
      · obtain ⟨b, off, kd, x, rfl, x1, x2, hx⟩ := W1.out.at BB hlt
        obtain ⟨y0, y1⟩ := bounds_u64 hx
        have BR' : Hid (Both (wr.alloc (.cells #[.int .i64 kd, .int .u64 x] 31)) w.heap.size w.heap.size w1.heap.size D P B a0) := Lib.hid (BR.out.alloc _)
        have BB' : Below w.heap.size w (wr.alloc (.cells #[.int .i64 kd, .int .u64 x] 31)) := BB.alloc BB.size _
        clear BR BB hx
        go_wp2_with fail
        clear x1 x2
        generalize wr.alloc (.cells #[.int .i64 kd, .int .u64 x] 31) = W at *
        refine (do_any _ _ _ kd x D P B a0 W BR'.out y0 y1).mono ?_
        rintro e w5 ⟨r, D', P', B', rfl, r0, r1, hr, bo, bel, _⟩
        have BO5 := Lib.hid bo
        have B5 := bel w BB'
        have HF := Lib.hid bo.2.2.2.2.2
        clear hr bo bel BR' BB' D P B
        have HT := Lib.hid (fun (w' : World) (h : Both w' w.heap.size w.heap.size w1.heap.size D' P' B' a0) => totals_any w.heap.size D' P' B' a0 w' h.1)
        have HSS : Hid (∃ S, S = D' - P' - B') := Lib.hid ⟨_, rfl⟩
        obtain ⟨S, hS⟩ := HSS.out
        have HS := Lib.hid (fun (w' : World) (h : Both w' w.heap.size w.heap.size w1.heap.size D' P' B' a0) => supply_any w.heap.size D' P' B' a0 w' h.1 HF.out)
        have HRS := Lib.hid (fun (w' : World) (h : Both w' w.heap.size w.heap.size w1.heap.size D' P' B' a0) => refsupply_any w1.heap.size D' P' B' a0 w' h.2.1 HF.out)
        rw [← hS] at HS HRS
        have HR := Lib.hid (fun (w' : World) (h : Both w' w.heap.size w.heap.size w1.heap.size D' P' B' a0) => room_any w.heap.size D' P' B' a0 w' h.1 HF.out)
        have HRR := Lib.hid (fun (w' : World) (h : Both w' w.heap.size w.heap.size w1.heap.size D' P' B' a0) => refroom_any w1.heap.size D' P' B' a0 w' h.2.1 HF.out)
        generalize roomOf D' P' B' a0 = R at *
        clear hS HSS
        go_wp2
        refine wp_region_class (fun w' => Both w' w.heap.size w.heap.size w1.heap.size D' P' B' a0 ∧ Below w.heap.size w w') (by kernel_rfl) (by kernel_rfl) ⟨BO5.out.drewN 1, B5.drew⟩ ?_
        iterate 5 (go_big_quiet_step ((intros; rfl)))
        refine q_call (.agg #[.int .u64 D', .int .u64 P', .int .u64 B']) #[.pointer (some ⟨w.heap.size, 0, none⟩)] (by kernel_rfl) (by kernel_rfl) Try.call12 (fun w' h => (HT.out w' h.1).mono fun e w'' ⟨he, hb⟩ => ⟨he, h.1.below hb, h.2.trans (hb.mono h.2.size)⟩) ?_
        simp only [Act.put, List.setIfInBounds_toArray, List.set_cons_zero, List.set_cons_succ]
        iterate 3 (go_big_quiet_step ((intros; rfl)))
        refine q_cell 22 _ _ (.int .u64 D') (by kernel_rfl) rfl rfl (fun w h => by simp [go_sem, h]) (fun w h => h.1.2.1.cells.2.1) ?_
        simp only [Act.put, List.setIfInBounds_toArray, List.set_cons_zero, List.set_cons_succ]
        iterate 3 (go_big_quiet_step ((intros; rfl)))
        refine q_cell 22 _ _ (.int .u64 P') (by kernel_rfl) rfl rfl (fun w h => by simp [go_sem, h]) (fun w h => h.1.2.1.cells.2.2.1) ?_
        simp only [Act.put, List.setIfInBounds_toArray, List.set_cons_zero, List.set_cons_succ]
        iterate 3 (go_big_quiet_step ((intros; rfl)))
        refine q_cell 22 _ _ (.int .u64 B') (by kernel_rfl) rfl rfl (fun w h => by simp [go_sem, h]) (fun w h => h.1.2.1.cells.2.2.2) ?_
        simp only [Act.put, List.setIfInBounds_toArray, List.set_cons_zero, List.set_cons_succ]
        iterate 1 (go_big_quiet_step ((intros; rfl)))
        refine q_val (.bool false) (by kernel_rfl) (fun W => exec_same_neq W (xs := #[.int .u64 D', .int .u64 P', .int .u64 B']) rfl rfl Try.eqGuardType36 (totals_same D' P' B' W)) ?_
        simp only [Act.put, List.setIfInBounds_toArray, List.set_cons_zero, List.set_cons_succ]
        iterate 3 (go_big_quiet_step ((intros; rfl)))
        refine q_call (.int .u64 S) #[.pointer (some ⟨w.heap.size, 0, none⟩)] (by kernel_rfl) (by kernel_rfl) Try.call13 (fun w' h => (HS.out w' h.1).mono fun e w'' ⟨he, m, hm⟩ => ⟨he, hm ▸ h.1.drewN m, hm ▸ below_drewN h.2 m⟩) ?_
        simp only [Act.put, List.setIfInBounds_toArray, List.set_cons_zero, List.set_cons_succ]
        iterate 1 (go_big_quiet_step ((intros; rfl)))
        refine q_call (.int .u64 S) #[.pointer (some ⟨w1.heap.size, 0, none⟩)] (by kernel_rfl) (by kernel_rfl) Try.call14 (fun w' h => (HRS.out w' h.1).mono fun e w'' ⟨he, m, hm⟩ => ⟨he, hm ▸ h.1.drewN m, hm ▸ below_drewN h.2 m⟩) ?_
        simp only [Act.put, List.setIfInBounds_toArray, List.set_cons_zero, List.set_cons_succ]
        iterate 4 (go_big_quiet_step ((intros; rfl)))
        refine q_call (.int .u64 R) #[.pointer (some ⟨w.heap.size, 0, none⟩)] (by kernel_rfl) (by kernel_rfl) Try.call15 (fun w' h => (HR.out w' h.1).mono fun e w'' ⟨he, m, hm⟩ => ⟨he, hm ▸ h.1.drewN m, hm ▸ below_drewN h.2 m⟩) ?_
        simp only [Act.put, List.setIfInBounds_toArray, List.set_cons_zero, List.set_cons_succ]
        iterate 1 (go_big_quiet_step ((intros; rfl)))
        refine q_call (.int .u64 R) #[.pointer (some ⟨w1.heap.size, 0, none⟩)] (by kernel_rfl) (by kernel_rfl) Try.call16 (fun w' h => (HRR.out w' h.1).mono fun e w'' ⟨he, m, hm⟩ => ⟨he, hm ▸ h.1.drewN m, hm ▸ below_drewN h.2 m⟩) ?_
        simp only [Act.put, List.setIfInBounds_toArray, List.set_cons_zero, List.set_cons_succ]
        iterate 2 (go_big_quiet_step ((intros; rfl)))
        refine wpQuiet_nil ?_
        rintro w6 ⟨BO6, B6⟩
        have HO6 := Lib.hid BO6
        clear BO6 HS HRS HR HRR HT BO5 B5
        go_wp2_with fail
        go_roundw
        case rel => exact ⟨k + 1, D', P', B', by omega, by go_num, HO6, B6⟩
        case measure => simp [intOf]; omega
      · go_wp2_with fail
        refine (alive_any _).mono ?_
        rintro e w4 ⟨rfl, b4⟩
        go_wp2_with fail
        go_ret
        exact ⟨rfl, BB.trans (b4.mono BB.size)⟩
end Go.Proofs.Ytifjpfalokfhgaa
