/- The walk of RingPlays. -/
import Derived.Test.YteldkihbgfgkoaaWRingPeeks
namespace Go.Proofs.Yteldkihbgfgkoaa
open Go Go.RowKit Go.OpenShut
set_option linter.unusedVariables false

theorem isOps_below {w w' : World} {a : Option Addr} {len cap : Nat} (h : IsOps w a len cap) (hb : Below w.heap.size w w') : IsOps w' a len cap := by
  obtain ⟨h1, h2, h3⟩ := h
  refine ⟨h1, h2, fun h0 => ?_⟩
  obtain ⟨b, off, e, hbl, hc⟩ := h3 h0
  refine ⟨b, off, e, Nat.lt_of_lt_of_le hbl hb.size, fun i hi => ?_⟩
  obtain ⟨k, al, ll, cl, z, x1, x2, hr⟩ := hc i hi
  exact ⟨k, al, ll, cl, z, (hb.cell (p := ⟨b, off + i * 2, none⟩) hbl).trans x1, (hb.cell (p := ⟨b, off + i * 2 + 1, none⟩) hbl).trans x2, isRow_below hr hb⟩

set_option maxRecDepth 100000 in
theorem walk_RingPlays_bad (a0 : Int) (a1 : Option Addr) (len1 cap1 : Nat) (w : World) (h : a0 < 1 ∨ 1048576 < a0) :
    Calls Try.prog 3 #[.int .i64 a0, .slice a1 len1 cap1] w fun e w' => e = .returned (.bool true) ∧ Below w.heap.size w w' := by
  have hn := Lib.hid (ri_new_none a0 w h)
  rcases h with h | h
  · go_enter Try.func3, Try.ntmps3
    go_wp2_with fail
    refine hn.out.mono ?_
    rintro e w' ⟨rfl, rfl⟩
    go_wp2_with fail
    refine (alive_any _).mono ?_
    rintro e w4 ⟨rfl, hb4⟩
    go_wp2_with fail
    go_ret
    exact ⟨rfl, hb4⟩
  · have h1 : ¬ a0 < 1 := by omega
    go_enter Try.func3, Try.ntmps3
    go_wp2_with fail
    refine hn.out.mono ?_
    rintro e w' ⟨rfl, rfl⟩
    go_wp2_with fail
    refine (alive_any _).mono ?_
    rintro e w4 ⟨rfl, hb4⟩
    go_wp2_with fail
    go_ret
    exact ⟨rfl, hb4⟩

set_option maxRecDepth 100000 in
set_option maxHeartbeats 2000000 in
theorem walk_RingPlays_good (n : Nat) (a1 : Option Addr) (len1 cap1 : Nat) (w : World) (hn1 : 1 ≤ n) (hn2 : n ≤ 1048576) (w1 : IsOps w a1 len1 cap1) :
    Calls Try.prog 3 #[.int .i64 n, .slice a1 len1 cap1] w fun e w' => e = .returned (.bool true) ∧ Below w.heap.size w w' := by
  have W1 := Lib.hid w1
  have hl1 : len1 ≤ 9223372036854775807 := by have := w1.1; have := w1.2.1; unfold maxLen at this; omega
  have i1 : ¬ (n : Int) < 1 := by omega
  have i2 : ¬ (1048576 : Int) < (n : Int) := by omega
  clear w1
  go_enter Try.func3, Try.ntmps3
  go_wp2_with fail
  refine (ri_new_some n _ hn1 hn2).mono ?_
  rintro e w2 ⟨rfl, hw1⟩
  have R1 : Hid (RingAt 61 3 1 w2 w.heap.size none n 0 []) := by rw [← hw1]; exact Lib.hid (ringAt_new w _ _ 1 n hn1 hn2)
  have B2 : Below w.heap.size w w2 := by rw [← hw1]; exact (Below.refl _ _).alloc (Nat.le_refl _) _
  clear hw1
  go_wp2_with fail
  refine (few_any a1 len1 cap1 _ (isOps_below W1.out B2)).mono ?_
  rintro e w3 ⟨r, rfl, hr, hb3⟩
  have B3 : Below w.heap.size w w3 := B2.trans (hb3.mono B2.size)
  have R3 := Lib.hid (R1.out.kept (Kept.of_below (S := fun _ => False) hb3) (fun _ _ h => h))
  have hr' : r = true → FewTo w3 a1 len1 := fun h b off e i hi al ll cl hc => by
    obtain ⟨b', off', e', hb', hc'⟩ := W1.out.2.2 (by omega)
    have hf := (hr h).2 b off e i hi al ll cl
    refine hf ?_
    rw [e] at e'
    injection e' with e'
    injection e' with e1 e2
    subst e1 e2
    rw [← hb3.cell (p := ⟨b, off + i * 2 + 1, none⟩) (Nat.lt_of_lt_of_le hb' B2.size)]
    exact hc
  have HR := Lib.hid hr'
  clear hr hr' hb3 R1
  cases r with
  | false =>
    go_wp2_with fail
    refine (alive_any _).mono ?_
    rintro e w4 ⟨rfl, hb4⟩
    go_wp2_with fail
    go_ret
    exact ⟨rfl, B3.trans (hb4.mono B3.size)⟩
  | true =>
    have FEW := Lib.hid (HR.out rfl)
    have BO : Both (w3.alloc (.cells #[.slice none 0 0, .int .i64 n] 30)) w.heap.size w.heap.size w3.heap.size n none [] := Both.new_ R3.out (foot_none (Nat.le_refl _)) B3.size
    have B4 : Below w.heap.size w (w3.alloc (.cells #[.slice none 0 0, .int .i64 n] 30)) := B3.alloc B3.size _
    clear HR
    go_wp2
    go_loopw [33] (fun s33 wr => ∃ (k : Nat) (g : Option Nat) (L : List Int), k ≤ len1 ∧ s33 = .int .i64 k ∧ Both wr w.heap.size w.heap.size w3.heap.size n g L ∧ Below w.heap.size w wr) (fun s33 _ => len1 - (intOf s33).toNat)
    case atStart => exact ⟨0, none, [], by omega, rfl, BO, B4⟩
    case round =>
      clear BO B4
      obtain ⟨k, g, L, hk, rfl, BO, BR⟩ := hrel
      by_cases hkl : k < len1
      · obtain ⟨lb, off, kd, al, ll, cl, z, rfl, x1, x2, hrow, hints, h50⟩ := op_at W1.out FEW.out B3 BR hkl
        have HRow := Lib.hid (isRow_below hrow ((Below.refl _ wr).alloc (Nat.le_refl _) (.cells #[.int .i64 kd, .slice al ll cl] 32)))
        have HInts := Lib.hid (hints.kept (T := fun _ => False) ((Kept.refl _ wr).alloc (.cells #[.int .i64 kd, .slice al ll cl] 32)) (fun _ _ h => h.elim))
        have BO' := Lib.hid (BO.kept ((Kept.refl _ wr).alloc (.cells #[.int .i64 kd, .slice al ll cl] 32)))
        have HO : Hid (Blk (wr.alloc (.cells #[.int .i64 kd, .slice al ll cl] 32)) wr.heap.size 32 #[.int .i64 kd, .slice al ll cl]) := Lib.hid (Blk.new _ _ _)
        have BR' := Lib.hid (BR.alloc BR.size (.cells #[.int .i64 kd, .slice al ll cl] 32))
        clear hrow hints
        go_wp2_with fail
        clear BO BR x1 x2
        generalize wr.alloc (.cells #[.int .i64 kd, .slice al ll cl] 32) = W at *
        refine wp_region_first (fun _ => True) 35 33 [0, 1] (by kernel_rfl) (by kernel_rfl) trivial ?_
        simp only [List.filterMap_cons, List.filterMap_nil, List.getElem?_toArray, List.getElem?_cons_zero, List.getElem?_cons_succ]
        show wpQuiet _ _ _ _ [_, _] _
        iterate 2 (go_big_quiet_step ((intros; rfl)))
        refine wpQuiet_nil ?_
        refine headF_one (i := 2) (by kernel_rfl) (by omega) ?_
        refine wpOp_at rfl rfl (wp_load_row 32 (.tmp 8) rfl wr.heap.size rfl _ _ _ _ HO.out Try.underlying32 rfl (by kernel_rfl) ?_)
        refine ⟨trivial, ?_⟩
        refine headF_one (i := 3) (by kernel_rfl) (by omega) ?_
        refine wpOp_at rfl rfl (wp_call_at rfl #[.pointer (some ⟨w.heap.size, 0, none⟩), .pointer (some ⟨w3.heap.size, 0, none⟩), .agg #[.int .i64 kd, .slice al ll cl]] (by kernel_rfl) Try.call12 ((do_any (w := W.drew) kd al ll cl z BO'.out HRow.out HInts.out h50).mono ?_))
        rintro e w5 ⟨rfl, ⟨g5, L5, b5⟩, f5⟩
        refine ⟨_, rfl, trivial, ?_⟩
        have B5 : Below w.heap.size w w5 := f5 w BR'.out.drew
        clear f5 HRow HInts
        obtain ⟨ra, rc, rb, ri, rl, rm, rs⟩ := b5.2.1
        have HRB := Lib.hid rb
        have HRI := Lib.hid ri
        have HBO := Lib.hid b5
        obtain ⟨cc0, cc3⟩ := b5.1.cells
        have HC0 := Lib.hid cc0
        have HC3 := Lib.hid cc3
        have hsz := b5.size_le
        clear rb ri b5 cc0 cc3
        obtain ⟨fr, hfr, hfe⟩ : ∃ fr : Int, ((n - L5.length : Nat) : Int) = fr ∧ (n : Int) - (L5.length : Int) = fr := ⟨_, rfl, by omega⟩
        have HFR := Lib.hid hfr
        clear hfr
        simp only [Act.put, List.getElem_toArray, List.getElem_cons_zero, List.getElem_cons_succ, List.setIfInBounds_toArray, List.set_cons_zero, List.set_cons_succ]
        refine headF_takes (fun w' => w'.cell? ⟨w3.heap.size, 0, none⟩ = some (.slice ra L5.length rc)) (m := 31) (f := 23) [4, 5, 6, 8, 9, 10, 11, 12] (fun _ _ => trivial) (by kernel_rfl) (HRB.out.cell 0) ?_
        simp only [List.filterMap_cons, List.filterMap_nil, List.getElem?_toArray, List.getElem?_cons_zero, List.getElem?_cons_succ]
        show wpQuiet _ _ _ _ [_, _, _, _, _, _, _, _] _
        iterate 6 (go_big_quiet_step ((intros; rfl)))
        refine q_cell 28 _ _ (.slice ra L5.length rc) (by kernel_rfl) rfl rfl (fun w h => by simp [go_sem, h]) (fun w h => h) ?_
        simp only [Act.put, List.setIfInBounds_toArray, List.set_cons_zero, List.set_cons_succ]
        iterate 1 (go_big_quiet_step ((intros; rfl)))
        refine wpQuiet_nil ?_
        refine headF_one (i := 7) (by kernel_rfl) (by omega) ?_
        refine wpOp_atG rfl (by kernel_rfl) (wp_call_at rfl #[.pointer (some ⟨w.heap.size, 0, none⟩)] (by kernel_rfl) Try.call13 ((ri_len_any w.heap.size L5.length w5 HC3.out).mono ?_))
        rintro e w6 ⟨rfl, rfl⟩
        refine ⟨_, rfl, HRB.out.cell 0, ?_⟩
        simp only [Act.put, List.getElem_toArray, List.getElem_cons_zero, List.getElem_cons_succ, List.setIfInBounds_toArray, List.set_cons_zero, List.set_cons_succ]
        refine headF_takes (fun w' => w'.cell? ⟨w3.heap.size, 0, none⟩ = some (.slice ra L5.length rc)) (m := 22) (f := 11) [13, 14, 15, 16, 18, 19, 20, 21, 22, 23, 24] (fun _ h => h) (by kernel_rfl) (HRB.out.cell 0) ?_
        simp only [List.filterMap_cons, List.filterMap_nil, List.getElem?_toArray, List.getElem?_cons_zero, List.getElem?_cons_succ]
        show wpQuiet _ _ _ _ [_, _, _, _, _, _, _, _, _, _, _] _
        iterate 8 (go_big_quiet_step ((intros; rfl)))
        refine q_cell 28 _ _ (.slice ra L5.length rc) (by kernel_rfl) rfl rfl (fun w h => by simp [go_sem, h]) (fun w h => h) ?_
        simp only [Act.put, List.setIfInBounds_toArray, List.set_cons_zero, List.set_cons_succ]
        iterate 2 (go_big_quiet_step ((intros; rfl)))
        refine wpQuiet_nil ?_
        refine headF_one (i := 17) (by kernel_rfl) (by omega) ?_
        have hfree := ri_free_any w.heap.size n L5.length w5 HC0.out HC3.out hsz.2 hsz.1
        rw [HFR.out] at hfree
        refine wpOp_atG rfl (by kernel_rfl) (wp_call_at rfl #[.pointer (some ⟨w.heap.size, 0, none⟩)] (by kernel_rfl) Try.call14 (hfree.mono ?_))
        rintro e w6 ⟨rfl, q, rfl⟩
        refine ⟨_, rfl, HRB.out.cell 0, ?_⟩
        clear hfree
        simp only [Act.put, List.getElem_toArray, List.getElem_cons_zero, List.getElem_cons_succ, List.setIfInBounds_toArray, List.set_cons_zero, List.set_cons_succ]
        refine headF_takes (fun w' => w'.cell? ⟨w3.heap.size, 0, none⟩ = some (.slice ra L5.length rc)) (m := 10) (f := 2) [25, 26, 27, 28, 30, 31, 32, 33] (fun _ h => h) (by kernel_rfl) (HRB.out.cell 0) ?_
        simp only [List.filterMap_cons, List.filterMap_nil, List.getElem?_toArray, List.getElem?_cons_zero, List.getElem?_cons_succ]
        show wpQuiet _ _ _ _ [_, _, _, _, _, _, _, _] _
        iterate 7 (go_big_quiet_step ((intros; rfl)))
        refine q_cell 28 _ _ (.slice ra L5.length rc) (by kernel_rfl) rfl rfl (fun w h => by simp [go_sem, h]) (fun w h => h) ?_
        simp only [Act.put, List.setIfInBounds_toArray, List.set_cons_zero, List.set_cons_succ]
        refine wpQuiet_nil ?_
        refine headF_one (i := 29) (by kernel_rfl) (by omega) ?_
        refine wpOp_atG rfl (by kernel_rfl) (wp_call_at rfl #[.pointer (some ⟨w.heap.size, 0, none⟩)] (by kernel_rfl) Try.call16 ((ri_all_any w.heap.size n L5.length g5 _ (w5.drewN q) (HBO.out.1.drewN q)).mono ?_))
        rintro e w7 ⟨rfl, hb7, bel7⟩
        refine ⟨_, rfl, (bel7.cell (HRB.out.lt)).trans (HRB.out.cell 0), ?_⟩
        have B7 : Below w.heap.size w w7 := (below_drewN B5 q).trans (bel7.mono B5.size)
        have hbel7 : Below w5.heap.size w5 w7 := (below_drewN (Below.refl _ w5) q).trans bel7
        have hbo7 := HBO.out.kept (Kept.of_below (S := fun _ => False) hbel7)
        have heq := equal_same (c := L5.length) (d := rc) (IntsAt.of_blk (S := fun _ => False) hb7 id) (HRI.out.kept (Kept.of_below (S := fun _ => False) hbel7) (fun _ _ h => h.elim)) rfl (by omega)
        have HEQ := Lib.hid heq
        have HBO7 := Lib.hid hbo7
        have hc7 : w7.cell? ⟨w3.heap.size, 0, none⟩ = some (.slice ra L5.length rc) := (bel7.cell (HRB.out.lt)).trans (HRB.out.cell 0)
        clear heq hb7 hbo7 hbel7 bel7
        simp only [Act.put, List.getElem_toArray, List.getElem_cons_zero, List.getElem_cons_succ, List.setIfInBounds_toArray, List.set_cons_zero, List.set_cons_succ]
        refine headF_one (i := 34) (by kernel_rfl) (by omega) ?_
        refine wpOp_atG rfl (by kernel_rfl) (wp_call_at rfl #[.slice (some ⟨(w5.drewN q).heap.size, 0, none⟩) L5.length L5.length, .slice ra L5.length rc] (by kernel_rfl) Try.call15 (HEQ.out.mono ?_))
        rintro e w8 ⟨rfl, q8, rfl⟩
        refine ⟨_, rfl, hc7, ?_⟩
        show Region.seqB _ _ _ _ _ = true ∧ _
        refine ⟨by kernel_rfl, ?_⟩
        simp only [Act.put, List.getElem_toArray, List.getElem_cons_zero, List.getElem_cons_succ, List.setIfInBounds_toArray, List.set_cons_zero, List.set_cons_succ, List.drop_succ_cons, List.drop_zero]
        go_wp2
        refine NoPanic.normal ?_
        go_wp2
        go_roundw
        case rel => exact ⟨k + 1, g5, L5, by omega, by go_num, HBO7.out, below_drewN B7 q8⟩
        case measure => simp [intOf]; omega
      · obtain rfl : len1 = k := by omega
        go_wp2_with fail
        refine (alive_any _).mono ?_
        rintro e w4 ⟨rfl, hb4⟩
        go_wp2_with fail
        go_ret
        exact ⟨rfl, BR.trans (hb4.mono BR.size)⟩

theorem walk_RingPlays (a0 : Int) (a1 : Option Addr) (len1 cap1 : Nat) (w : World) (w0 : (Lit.int .i64 a0).wf = true) (w1 : IsOps w a1 len1 cap1) :
    Calls Try.prog 3 #[.int .i64 a0, .slice a1 len1 cap1] w fun e w' => e = .returned (.bool true) ∧ Below w.heap.size w w' := by
  by_cases h : a0 < 1 ∨ 1048576 < a0
  · exact walk_RingPlays_bad a0 a1 len1 cap1 w h
  · obtain ⟨n, rfl⟩ : ∃ n : Nat, a0 = n := ⟨a0.toNat, by omega⟩
    exact walk_RingPlays_good n a1 len1 cap1 w (by omega) (by omega) w1
end Go.Proofs.Yteldkihbgfgkoaa
