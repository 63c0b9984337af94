/- The ledger's Deposit, Pay, Burn and Room, and the reference's. -/
import Derived.Test.YtifjpfalokfhgaaBook
namespace Go.Proofs.Ytifjpfalokfhgaa
open Go.RowKit
set_option linter.unusedVariables false
set_option linter.unusedSimpArgs false

theorem deposit_nil (x : Int) (w : World) : Calls Try.prog 18 #[.pointer none, .int .u64 x] w fun e w' => e = .returned (.int .i64 1) ∧ w = w' := by
  go_enter Try.func18, Try.ntmps18
  go_wp2
  go_ret
  exact ⟨rfl, rfl⟩
theorem balance_led {b : Nat} {D P B C : Int} {w : World} (h : LedAt w b D P B C) (hF : Fits D P B C) :
    Calls Try.prog 24 #[.pointer (some ⟨b, 0, none⟩)] w fun e w' => e = .returned (.int .u64 (D - P - B)) ∧ ∃ m, w' = w.drewN m :=
  balance_any b D P B w h.cells.1 h.cells.2.1 h.cells.2.2.1 hF.1 hF.2.1 hF.2.2.1 hF.2.2.2.1
theorem entry_info : (Try.prog.info? 56).map (fun i => (i.zero, i.size)) = some (some (.agg #[.int .i64 0, .int .u64 0]), 2) := by kernel_rfl

theorem deposit_supply (b : Nat) (D P B C x : Int) (w : World) (h : LedAt w b D P B C) (hF : Fits D P B C) (hx : x > C - (D - P - B)) :
    Calls Try.prog 18 #[.pointer (some ⟨b, 0, none⟩), .int .u64 x] w fun e w' => e = .returned (.int .i64 4) ∧ ∃ m, w' = w.drewN m := by
  have c3 := h.cells.2.2.2
  have HB : Hid (∀ n, Calls Try.prog 24 #[.pointer (some ⟨b, 0, none⟩)] (w.drewN n) fun e w' => e = .returned (.int .u64 (D - P - B)) ∧ ∃ m, w' = (w.drewN n).drewN m) := Lib.hid (fun n => balance_led (Blk.drewN h n) hF)
  obtain ⟨f0, f1, f2, f3, f4, f5⟩ := hF
  clear h
  go_enter Try.func18, Try.ntmps18
  go_wp2
  go_quiet ((go_at_call 24; exact Calls.quiet_of (HB.out _)))
  go_wp2
  go_ret
  exact ⟨rfl, _, rfl⟩

set_option maxHeartbeats 800000 in
theorem deposit_over (b : Nat) (D P B C x : Int) (w : World) (h : LedAt w b D P B C) (hF : Fits D P B C) (x0 : 0 ≤ x) (x1 : x ≤ 18446744073709551615) (hx : x ≤ C - (D - P - B)) (ho : 18446744073709551615 < D + x) :
    Calls Try.prog 18 #[.pointer (some ⟨b, 0, none⟩), .int .u64 x] w fun e w' => e = .returned (.int .i64 10) ∧ Below w.heap.size w w' := by
  have c3 := h.cells.2.2.2
  have HB : Hid (∀ n, Calls Try.prog 24 #[.pointer (some ⟨b, 0, none⟩)] (w.drewN n) fun e w' => e = .returned (.int .u64 (D - P - B)) ∧ ∃ m, w' = (w.drewN n).drewN m) := Lib.hid (fun n => balance_led (Blk.drewN h n) hF)
  have HK : Hid (∀ (g : Nat) (w : World), LedAt w b D P B C → Blk w g 56 #[.int .i64 (0 : Nat), .int .u64 x] → Calls Try.prog 27 #[.pointer (some ⟨b, 0, none⟩), .slice (some ⟨g, 0, none⟩) 1 1] w fun e w' => e = .returned (.bool false) ∧ Below w.heap.size w w') :=
    Lib.hid (fun g w hl hg => book_no 0 b g D P B C x D w hl hg (by omega) rfl (by have := hF; unfold Fits at this; omega) hF.2.2.2.1 x0 x1 (by omega))
  have H := Lib.hid h
  obtain ⟨f0, f1, f2, f3, f4, f5⟩ := hF
  clear h
  go_enter Try.func18, Try.ntmps18
  go_wp2
  go_quiet ((go_at_call 24; exact Calls.quiet_of (HB.out _)))
  go_wp2_with fail
  refine (HK.out w.heap.size _ (Blk.alloc (Blk.drewN H.out nq) _) (Blk.new (w.drewN nq) _ _)).mono ?_
  rintro e w1 ⟨rfl, hb1⟩
  go_wp2_with fail
  go_ret
  exact ⟨rfl, ((below_drewN (Below.refl _ w) nq).alloc (Nat.le_refl _) _).trans (hb1.mono (by simp))⟩
set_option maxHeartbeats 800000 in
theorem deposit_ok (b : Nat) (D P B C x : Int) (w : World) (h : LedAt w b D P B C) (hF : Fits D P B C) (x0 : 0 ≤ x) (hx : x ≤ C - (D - P - B)) (ho : D + x ≤ 18446744073709551615) :
    Calls Try.prog 18 #[.pointer (some ⟨b, 0, none⟩), .int .u64 x] w fun e w' => e = .returned (.int .i64 0) ∧ LedAt w' b (D + x) P B C ∧ w.grownBy w' (some b) := by
  have c3 := h.cells.2.2.2
  have HB : Hid (∀ n, Calls Try.prog 24 #[.pointer (some ⟨b, 0, none⟩)] (w.drewN n) fun e w' => e = .returned (.int .u64 (D - P - B)) ∧ ∃ m, w' = (w.drewN n).drewN m) := Lib.hid (fun n => balance_led (Blk.drewN h n) hF)
  have HK : Hid (∀ (g : Nat) (w : World), LedAt w b D P B C → Blk w g 56 #[.int .i64 (0 : Nat), .int .u64 x] → Calls Try.prog 27 #[.pointer (some ⟨b, 0, none⟩), .slice (some ⟨g, 0, none⟩) 1 1] w fun e w' => e = .returned (.bool true) ∧ LedAt w' b (D + x) P B C ∧ w.grownBy w' (some b)) :=
    Lib.hid (fun g w hl hg => book_yes 0 b g D P B C (D + x) P B x D w hl hg (by omega) rfl rfl (by have := hF; unfold Fits at this; omega) x0 ho)
  have H := Lib.hid h
  obtain ⟨f0, f1, f2, f3, f4, f5⟩ := hF
  clear h
  go_enter Try.func18, Try.ntmps18
  go_wp2
  go_quiet ((go_at_call 24; exact Calls.quiet_of (HB.out _)))
  go_wp2_with fail
  refine (HK.out w.heap.size _ (Blk.alloc (Blk.drewN H.out nq) _) (Blk.new (w.drewN nq) _ _)).mono ?_
  rintro e w1 ⟨rfl, hl1, hg1⟩
  have HE := Lib.hid (And.intro hl1 (only_trans (only_alloc (only_drewN (only_refl w (some b)) nq) _) hg1))
  clear hl1 hg1
  go_wp2_with fail
  go_ret
  exact ⟨rfl, HE.out⟩

theorem withdraw_nil (s x : Int) (w : World) : Calls Try.prog 28 #[.pointer none, .agg #[.int .i64 s, .int .u64 x]] w fun e w' => e = .returned (.int .i64 1) ∧ Below w.heap.size w w' := by
  go_enter Try.func28, Try.ntmps28
  go_wp2
  go_ret
  exact ⟨rfl, (Below.refl _ _).alloc (Nat.le_refl _) _⟩
theorem withdraw_no (b : Nat) (s D P B C x : Int) (w : World) (h : LedAt w b D P B C) (hF : Fits D P B C) (hx : x > D - P - B) :
    Calls Try.prog 28 #[.pointer (some ⟨b, 0, none⟩), .agg #[.int .i64 s, .int .u64 x]] w fun e w' => e = .returned (.int .i64 3) ∧ Below w.heap.size w w' := by
  have HB : Hid (∀ n, Calls Try.prog 24 #[.pointer (some ⟨b, 0, none⟩)] ((w.alloc (.cells #[.int .i64 s, .int .u64 x] 56)).drewN n) fun e w' => e = .returned (.int .u64 (D - P - B)) ∧ ∃ m, w' = ((w.alloc (.cells #[.int .i64 s, .int .u64 x] 56)).drewN n).drewN m) := Lib.hid (fun n => balance_led (Blk.drewN (Blk.alloc h _) n) hF)
  clear h hF
  go_enter Try.func28, Try.ntmps28
  go_wp2
  go_quiet ((go_at_call 24; exact Calls.quiet_of (HB.out _)))
  go_wp2
  go_ret
  exact ⟨rfl, below_drewN ((Below.refl _ _).alloc (Nat.le_refl _) _) _⟩
set_option maxHeartbeats 800000 in
theorem withdraw_yes (b s : Nat) (D P B C D' P' B' x y : Int) (w : World) (h : LedAt w b D P B C) (hF : Fits D P B C) (hx : x ≤ D - P - B) (x0 : 0 ≤ x) (hs : s < 3)
    (hy : (#[.int .u64 D, .int .u64 P, .int .u64 B] : Array Value)[s]? = some (.int .u64 y)) (hup : (#[.int .u64 D, .int .u64 P, .int .u64 B] : Array Value).setIfInBounds s (.int .u64 (y + x)) = #[.int .u64 D', .int .u64 P', .int .u64 B'])
    (y0 : 0 ≤ y) (hsum : y + x ≤ 18446744073709551615) :
    Calls Try.prog 28 #[.pointer (some ⟨b, 0, none⟩), .agg #[.int .i64 s, .int .u64 x]] w fun e w' => e = .returned (.int .i64 0) ∧ LedAt w' b D' P' B' C ∧ w.grownBy w' (some b) := by
  have HK : Hid (∀ (g : Nat) (w : World), LedAt w b D P B C → Blk w g 56 #[.int .i64 s, .int .u64 x] → Calls Try.prog 27 #[.pointer (some ⟨b, 0, none⟩), .slice (some ⟨g, 0, none⟩) 1 1] w fun e w' => e = .returned (.bool true) ∧ LedAt w' b D' P' B' C ∧ w.grownBy w' (some b)) :=
    Lib.hid (fun g w hl hg => book_yes s b g D P B C D' P' B' x y w hl hg hs hy hup y0 x0 hsum)
  have HNE : Hid (some w.heap.size ≠ some b) := Lib.hid (by have := Blk.lt h; intro e; injection e with e; omega)
  have HF := Lib.hid hF
  have H1 : Hid (LedAt (w.alloc (.cells #[.int .i64 s, .int .u64 x] 56)) b D P B C) := Lib.hid (Blk.alloc h _)
  have HE : Hid (Blk (w.alloc (.cells #[.int .i64 s, .int .u64 x] 56)) w.heap.size 56 #[.int .i64 s, .int .u64 x]) := Lib.hid (Blk.new _ _ _)
  have HG : Hid (w.grownBy (w.alloc (.cells #[.int .i64 s, .int .u64 x] 56)) (some b)) := Lib.hid (only_alloc (only_refl _ _) _)
  clear h hF hy hup hsum
  go_enter Try.func28, Try.ntmps28
  go_wp2
  generalize w.alloc (.cells #[.int .i64 s, .int .u64 x] 56) = W at *
  refine wp_region_first (fun w' => Blk w' w.heap.size 56 #[.int .i64 s, .int .u64 x]) 14 9 [0, 1, 2, 3, 4] (by kernel_rfl) (by kernel_rfl) (Blk.drew HE.out) ?_
  simp only [List.filterMap_cons, List.filterMap_nil, List.getElem?_toArray, List.getElem?_cons_zero, List.getElem?_cons_succ]
  show wpQuiet _ _ _ _ [_, _, _, _, _] _
  iterate 1 (go_big_quiet_step ((intros; rfl)))
  refine q_cell 22 _ _ (.int .u64 x) rfl rfl rfl (fun w h => by simp [go_sem, h]) (fun w h => Blk.cell h 1) ?_
  simp only [Act.put, List.setIfInBounds_toArray, List.set_cons_zero, List.set_cons_succ]
  iterate 3 (go_big_quiet_step ((intros; rfl)))
  refine wpQuiet_nil ?_
  refine headF_one (i := 5) (by kernel_rfl) (by omega) ?_
  refine wpOp_at rfl rfl (wp_call_at rfl #[.pointer (some ⟨b, 0, none⟩)] (by kernel_rfl) Try.call24 ((balance_led (Blk.drew H1.out) HF.out).mono ?_))
  rintro e w1 ⟨rfl, m, rfl⟩
  refine ⟨_, rfl, Blk.drewN (Blk.drew HE.out) m, ?_⟩
  have HX : Hid (decide (D - P - B < x) = false) := Lib.hid (by simpa using hx)
  simp only [Act.put, List.getElem_toArray, List.getElem_cons_zero, List.getElem_cons_succ, List.setIfInBounds_toArray, List.set_cons_zero, List.set_cons_succ]
  refine headF_takes (fun w' => Blk w' w.heap.size 56 #[.int .i64 s, .int .u64 x]) (m := 8) (f := 2) [6, 7, 8, 9, 10, 11] (fun _ h => h) (by kernel_rfl) (Blk.drewN (Blk.drew HE.out) m) ?_
  simp only [List.filterMap_cons, List.filterMap_nil, List.getElem?_toArray, List.getElem?_cons_zero, List.getElem?_cons_succ]
  show wpQuiet _ _ _ _ [_, _, _, _, _, _] _
  iterate 1 (go_big_quiet_step ((intros; rfl)))
  rw [HX.out]
  iterate 4 (go_big_quiet_step ((intros; rfl)))
  refine q_load 56 (.tmp 3) w.heap.size 56 _ _ (by kernel_rfl) rfl rfl (fun _ h => h) Try.underlying56 rfl infoE ?_
  simp only [Act.put, List.setIfInBounds_toArray, List.set_cons_zero, List.set_cons_succ]
  refine wpQuiet_nil ?_
  refine headF_one (i := 12) (by kernel_rfl) (by omega) ?_
  refine wpOp_atG rfl (by kernel_rfl) (wp_buildSlice_pair 60 56 (.tmp 18) _ (.int .i64 s) (.int .u64 x) rfl rfl Try.underlying60 entry_info ⟨Blk.alloc (Blk.drewN (Blk.drew HE.out) m) _, ?_⟩)
  simp only [Act.put, List.getElem_toArray, List.getElem_cons_zero, List.getElem_cons_succ, List.setIfInBounds_toArray, List.set_cons_zero, List.set_cons_succ]
  refine headF_one (i := 13) (by kernel_rfl) (by omega) ?_
  refine wpOp_atG rfl (by kernel_rfl) (wp_call_at rfl #[.pointer (some ⟨b, 0, none⟩), .slice (some ⟨(W.drew.drewN m).heap.size, 0, none⟩) 1 1] (by kernel_rfl) Try.call27 ((HK.out (W.drew.drewN m).heap.size _ (Blk.alloc (Blk.drewN (Blk.drew H1.out) m) _) (Blk.new (W.drew.drewN m) _ _)).mono ?_))
  rintro e w2 ⟨rfl, hl2, hg2⟩
  have hE2 := (Blk.alloc (Blk.drewN (Blk.drew HE.out) m) (.cells #[.int .i64 s, .int .u64 x] 56)).grown hg2 HNE.out
  have HZ := Lib.hid (And.intro hl2 (only_trans (only_alloc (only_drewN (only_drew HG.out) m) _) hg2))
  refine ⟨_, rfl, hE2, ?_⟩
  clear hl2 hg2 hE2
  show Region.seqB _ _ _ _ _ = true ∧ _
  refine ⟨by kernel_rfl, ?_⟩
  simp only [Act.put, List.getElem_toArray, List.getElem_cons_zero, List.getElem_cons_succ, List.setIfInBounds_toArray, List.set_cons_zero, List.set_cons_succ, List.drop_succ_cons, List.drop_zero]
  go_wp2
  refine NoPanic.normal ?_
  go_wp2
  go_ret
  exact ⟨rfl, HZ.out⟩
end Go.Proofs.Ytifjpfalokfhgaa
