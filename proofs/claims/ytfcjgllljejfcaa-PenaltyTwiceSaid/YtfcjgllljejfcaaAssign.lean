/- Assign (after Accept). -/
import Derived.Test.YtfcjgllljejfcaaAccept
namespace Go.Proofs.Ytfcjgllljejfcaa
open Go Go.RowKit
set_option linter.unusedVariables false
set_option linter.unusedSimpArgs false
set_option maxRecDepth 100000

theorem cfg_two (w : World) (o : Obj) (c : Nat → Int) : Blk ((w.alloc o).alloc (.cells (cellsOf c) 30)) (w.heap.size + 1) 30 (cellsOf c) := by
  have := Blk.new (w.alloc o) 30 (cellsOf c)
  rw [show (w.alloc o).heap.size = w.heap.size + 1 by simp] at this
  exact this
set_option maxHeartbeats 1600000 in
theorem assign_any (v : Val) (e : Int) (c : Nat → Int) (w : World) (hv : StOk v) (h0 : 0 ≤ c 10) (h1 : c 10 ≤ 1048576) :
    Calls Try.prog 14 #[.agg (cellsV v), .int .i64 e, .agg (cellsOf c)] w fun o w' => o = .returned (ans (runE [scheduleE e, holdE e (c 10)] v)) ∧ Below w.heap.size w w' := by
  obtain ⟨r, hR⟩ : ∃ r, r = runE [scheduleE e, holdE e (c 10)] v := ⟨_, rfl⟩
  rw [← hR]
  have HR := Lib.hid hR
  have HV := Lib.hid hv
  clear hR hv
  go_enter Try.func14, Try.ntmps14
  go_upto_region 1 with (fail)
  rw [zero_cells]
  have V0 : Hid (VB (((w.alloc (.cells (cellsV v) 28)).alloc (.cells (cellsOf c) 30)).alloc (.cells (cellsV val0) 28)) w.heap.size v) := Lib.hid (Blk.alloc (Blk.alloc (Blk.new w _ _) _) _)
  have Z0 : Hid (VB (((w.alloc (.cells (cellsV v) 28)).alloc (.cells (cellsOf c) 30)).alloc (.cells (cellsV val0) 28)) (w.heap.size + 2) val0) := Lib.hid (vb_three _ _ _ _)
  have B0 : Hid (Below w.heap.size w (((w.alloc (.cells (cellsV v) 28)).alloc (.cells (cellsOf c) 30)).alloc (.cells (cellsV val0) 28))) := Lib.hid ((((Below.refl _ _).alloc (Nat.le_refl _) _).alloc (by simp) _).alloc (by simp; omega) _)
  have G0 : Hid (Blk (((w.alloc (.cells (cellsV v) 28)).alloc (.cells (cellsOf c) 30)).alloc (.cells (cellsV val0) 28)) (w.heap.size + 1) 30 (cellsOf c)) := Lib.hid (Blk.alloc (cfg_two _ _ _) _)
  generalize ((w.alloc (.cells (cellsV v) 28)).alloc (.cells (cellsOf c) 30)).alloc (.cells (cellsV val0) 28) = W at *
  go_wp2
  refine wp_region_first (fun w' => VB w' w.heap.size v ∧ Blk w' (w.heap.size + 1) 30 (cellsOf c)) 11 6 [0, 1, 3, 4, 5] (by kernel_rfl) (by kernel_rfl) ⟨V0.out, G0.out⟩ ?_
  simp only [List.filterMap_cons, List.filterMap_nil, List.getElem?_toArray, List.getElem?_cons_zero, List.getElem?_cons_succ]
  show wpQuiet _ _ _ _ [_, _, _, _, _] _
  refine q_load 28 _ w.heap.size 28 (cellsV v) _ (by kernel_rfl) rfl rfl (fun w h => h.1) Try.underlying28 rfl infoV ?_
  simp only [Act.put, List.setIfInBounds_toArray, List.set_cons_zero, List.set_cons_succ]
  iterate 3 (go_big_quiet_step ((intros; rfl)))
  refine q_cell 3 _ ⟨w.heap.size + 1, 10, none⟩ (.int .i64 (c 10)) rfl rfl rfl (fun w h => by simp [go_sem, h]) (fun w h => h.2.cell 10) ?_
  simp only [Act.put, List.setIfInBounds_toArray, List.set_cons_zero, List.set_cons_succ]
  refine wpQuiet_nil ?_
  have D0 : Hid (Below W.heap.size W W.drew) := Lib.hid (Below.drew (Below.refl _ _))
  refine headF_one (i := 2) (by kernel_rfl) (by omega) ?_
  refine wpOp_at rfl rfl (wp_call_at rfl #[.int .i64 e] (by kernel_rfl) Try.call28 ((schedule_any e W.drew).mono ?_))
  rintro o w1 ⟨k1, rfl, f1, b1⟩
  have D1 : Hid (Below W.heap.size W w1) := Lib.hid (D0.out.trans (b1.mono D0.out.size))
  clear b1
  refine ⟨_, rfl, ⟨old_vb V0.out D1.out, G0.out.below D1.out G0.out.lt⟩, ?_⟩
  refine headF_one (i := 6) (by kernel_rfl) (by omega) ?_
  simp only [Act.put, List.getElem_toArray, List.getElem_cons_zero, List.getElem_cons_succ, List.setIfInBounds_toArray, List.set_cons_zero, List.set_cons_succ]
  refine wpOp_at rfl rfl (wp_call_at rfl #[.int .i64 e, .int .i64 (c 10)] (by kernel_rfl) Try.call29 ((hold_any e (c 10) h0 (by omega) w1).mono ?_))
  rintro o w2 ⟨k2, rfl, f2, b2⟩
  have D2 : Hid (Below W.heap.size W w2) := Lib.hid (D1.out.trans (b2.mono D1.out.size))
  replace f1 := f1.below b2
  clear b2
  refine ⟨_, rfl, ⟨old_vb V0.out D2.out, G0.out.below D2.out G0.out.lt⟩, ?_⟩
  refine headF_one (i := 7) (by kernel_rfl) (by omega) ?_
  simp only [Act.put, List.getElem_toArray, List.getElem_cons_zero, List.getElem_cons_succ, List.setIfInBounds_toArray, List.set_cons_zero, List.set_cons_succ]
  refine wpOp_at rfl rfl (wp_buildSlice_two 62 54 (.tmp 10) (.tmp 14) _ _ (.func (.func 45) #[] k1) (.func (.func 46) #[] k2) rfl rfl rfl Try.underlying62 change_info rfl rfl rfl ?_)
  have b3 : Below w2.heap.size w2 (w2.alloc (.cells #[.func (.func 45) #[] k1, .func (.func 46) #[] k2] 54)) := (Below.refl _ _).alloc (Nat.le_refl _) _
  have CH := Lib.hid (changes_two (Blk.new w2 54 _) (f1.below b3) (f2.below b3))
  have D3 := Lib.hid (D2.out.trans (b3.mono D2.out.size))
  clear f1 f2 b3
  generalize w2.alloc (.cells #[.func (.func 45) #[] k1, .func (.func 46) #[] k2] 54) = w3 at *
  generalize w2.heap.size = g at *
  refine ⟨⟨old_vb V0.out D3.out, G0.out.below D3.out G0.out.lt⟩, ?_⟩
  refine headF_one (i := 8) (by kernel_rfl) (by omega) ?_
  simp only [Act.put, List.getElem_toArray, List.getElem_cons_zero, List.getElem_cons_succ, List.setIfInBounds_toArray, List.set_cons_zero, List.set_cons_succ]
  refine wpOp_at rfl rfl (wp_call_at rfl #[.agg (cellsV v), .slice (some ⟨g, 0, none⟩) 2 2] (by kernel_rfl) Try.call25 ((apply_any [scheduleE e, holdE e (c 10)] (some ⟨g, 0, none⟩) 2 v w3 HV.out (by simp) CH.out).mono ?_))
  rw [← HR.out]
  rintro o w4 ⟨rfl, b4⟩
  have D4 := Lib.hid (D3.out.trans (b4.mono D3.out.size))
  clear b4 CH
  have V4 : VB w4 w.heap.size v ∧ Blk w4 (w.heap.size + 1) 30 (cellsOf c) := ⟨old_vb V0.out D4.out, G0.out.below D4.out G0.out.lt⟩
  refine ⟨_, rfl, V4, ?_⟩
  simp only [Act.put, List.getElem_toArray, List.getElem_cons_zero, List.getElem_cons_succ, List.setIfInBounds_toArray, List.set_cons_zero, List.set_cons_succ]
  refine headF_takes (fun w' => VB w' w.heap.size v ∧ Blk w' (w.heap.size + 1) 30 (cellsOf c)) (m := 2) (f := 0) [9, 10] (fun _ h => h) (by kernel_rfl) V4 ?_
  simp only [List.filterMap_cons, List.filterMap_nil, List.getElem?_toArray, List.getElem?_cons_zero, List.getElem?_cons_succ]
  show wpQuiet _ _ _ _ [_, _] _
  iterate 2 (go_big_quiet_step ((intros; rfl)))
  refine wpQuiet_nil ?_
  show Region.seqB _ _ _ _ _ = true ∧ _
  refine ⟨by kernel_rfl, ?_⟩
  simp only [Act.put, List.getElem_toArray, List.getElem_cons_zero, List.getElem_cons_succ, List.setIfInBounds_toArray, List.set_cons_zero, List.set_cons_succ, List.drop_succ_cons, List.drop_zero]
  have Z4 : Hid (VB w4 (w.heap.size + 2) val0) := Lib.hid (old_vb Z0.out D4.out)
  have B4 : Hid (Below w.heap.size w w4) := Lib.hid (B0.out.trans (D4.out.mono B0.out.size))
  clear D4 D3 D2 D1 D0 Z0 B0 V0 V4 G0
  go_wp2_with (first | (refine wpList_store_row rfl _ _ _ rfl (w.heap.size + 2) (cellsV r.2) rfl rfl 28 _ Z4.out infoV rfl (cellsV_one r.2) ?_))
  refine NoPanic.normal ?_
  go_wp2
  exact bodyPost_ret (v := ans r) (results_cell_row2 (fn := Try.f14) rfl _ _ (w.heap.size + 2) 28 _ (0, 0) _ rfl (setRow_heap _ _ _ _ _ _ Z4.out) Try.underlying28 rfl infoV) rfl ⟨rfl, below_setRow B4.out (by omega) _⟩
end Go.Proofs.Ytfcjgllljejfcaa
