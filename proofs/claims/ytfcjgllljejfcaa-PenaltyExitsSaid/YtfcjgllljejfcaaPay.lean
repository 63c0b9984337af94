/- Pay (after Accept). -/
import Derived.Test.YtfcjgllljejfcaaAccept
namespace Go.Proofs.Ytfcjgllljejfcaa
open Go Go.RowKit
set_option linter.unusedVariables false
set_option linter.unusedSimpArgs false
set_option maxRecDepth 100000

set_option maxHeartbeats 1600000 in
theorem pay_any (v : Val) (e : Int) (w : World) (hv : StOk v) (h0 : 0 ≤ v.bal) (h1 : v.bal ≤ 18446744073709551615) :
    Calls Try.prog 19 #[.agg (cellsV v), .int .i64 e] w fun o w' => o = .returned (settleV [ripeE e, passE 5] v.bal v) ∧ Below w.heap.size w w' := by
  obtain ⟨r, m, hR⟩ : ∃ r m, settleV [ripeE e, passE 5] v.bal v = ans3 r m := ⟨runE [ripeE e, passE 5] { v with bal := v.bal - v.bal }, if (runE [ripeE e, passE 5] { v with bal := v.bal - v.bal }).1 = 0 then v.bal else 0, rfl⟩
  rw [hR]
  have HR := Lib.hid hR
  have HV := Lib.hid hv
  clear hR hv
  go_enter Try.func19, Try.ntmps19
  go_upto_region 1 with (fail)
  rw [zero_cells]
  have V0 : Hid (VB ((w.alloc (.cells (cellsV v) 28)).alloc (.cells (cellsV val0) 28)) w.heap.size v) := Lib.hid (Blk.alloc (Blk.new w _ _) _)
  have Z0 : Hid (VB ((w.alloc (.cells (cellsV v) 28)).alloc (.cells (cellsV val0) 28)) (w.heap.size + 1) val0) := Lib.hid (vb_two _ _ _)
  have B0 : Hid (Below w.heap.size w ((w.alloc (.cells (cellsV v) 28)).alloc (.cells (cellsV val0) 28))) := Lib.hid (((Below.refl _ _).alloc (Nat.le_refl _) _).alloc (by simp) _)
  generalize (w.alloc (.cells (cellsV v) 28)).alloc (.cells (cellsV val0) 28) = W at *
  go_wp2
  refine wp_region_first (fun w' => VB w' w.heap.size v) 11 7 [0, 1, 2, 3] (by kernel_rfl) (by kernel_rfl) V0.out ?_
  simp only [List.filterMap_cons, List.filterMap_nil, List.getElem?_toArray, List.getElem?_cons_zero, List.getElem?_cons_succ]
  show wpQuiet _ _ _ _ [_, _, _, _] _
  refine q_load 28 _ w.heap.size 28 (cellsV v) _ (by kernel_rfl) rfl rfl (fun w h => h) Try.underlying28 rfl infoV ?_
  simp only [Act.put, List.setIfInBounds_toArray, List.set_cons_zero, List.set_cons_succ]
  iterate 1 (go_big_quiet_step ((intros; rfl)))
  refine q_cell 22 _ ⟨w.heap.size, 0, none⟩ (.int .u64 v.bal) rfl rfl rfl (fun w h => by simp [go_sem, h]) (fun w h => Blk.cell h 0) ?_
  simp only [Act.put, List.setIfInBounds_toArray, List.set_cons_zero, List.set_cons_succ]
  iterate 1 (go_big_quiet_step ((intros; rfl)))
  refine wpQuiet_nil ?_
  have D0 : Hid (Below W.heap.size W W.drew) := Lib.hid (Below.drew (Below.refl _ _))
  refine headF_one (i := 4) (by kernel_rfl) (by omega) ?_
  refine wpOp_at rfl rfl (wp_call_at rfl #[.int .i64 e] (by kernel_rfl) Try.call35 ((ripe_any e W.drew).mono ?_))
  rintro o w1 ⟨k1, rfl, f1, b1⟩
  have D1 : Hid (Below W.heap.size W w1) := Lib.hid (D0.out.trans (b1.mono D0.out.size))
  clear b1
  refine ⟨_, rfl, old_vb V0.out D1.out, ?_⟩
  refine headF_one (i := 5) (by kernel_rfl) (by omega) ?_
  simp only [Act.put, List.getElem_toArray, List.getElem_cons_zero, List.getElem_cons_succ, List.setIfInBounds_toArray, List.set_cons_zero, List.set_cons_succ]
  refine wpOp_at rfl rfl (wp_call_at rfl #[.int .i64 5] (by kernel_rfl) Try.call27 ((pass_any 5 (by decide) w1).mono ?_))
  rintro o w2 ⟨k2, rfl, f2, b2⟩
  have D2 : Hid (Below W.heap.size W w2) := Lib.hid (D1.out.trans (b2.mono D1.out.size))
  replace f1 := f1.below b2
  clear b2
  refine ⟨_, rfl, old_vb V0.out D2.out, ?_⟩
  refine headF_one (i := 6) (by kernel_rfl) (by omega) ?_
  simp only [Act.put, List.getElem_toArray, List.getElem_cons_zero, List.getElem_cons_succ, List.setIfInBounds_toArray, List.set_cons_zero, List.set_cons_succ]
  refine wpOp_at rfl rfl (wp_buildSlice_two 62 54 (.tmp 11) (.tmp 12) _ _ (.func (.func 49) #[] k1) (.func (.func 43) #[] k2) rfl rfl rfl Try.underlying62 change_info rfl rfl rfl ?_)
  have b3 : Below w2.heap.size w2 (w2.alloc (.cells #[.func (.func 49) #[] k1, .func (.func 43) #[] k2] 54)) := (Below.refl _ _).alloc (Nat.le_refl _) _
  have CH := Lib.hid (changes_two (Blk.new w2 54 _) (f1.below b3) (f2.below b3))
  have D3 := Lib.hid (D2.out.trans (b3.mono D2.out.size))
  clear f1 f2 b3
  generalize w2.alloc (.cells #[.func (.func 49) #[] k1, .func (.func 43) #[] k2] 54) = w3 at *
  generalize w2.heap.size = g at *
  refine ⟨old_vb V0.out D3.out, ?_⟩
  refine headF_one (i := 7) (by kernel_rfl) (by omega) ?_
  simp only [Act.put, List.getElem_toArray, List.getElem_cons_zero, List.getElem_cons_succ, List.setIfInBounds_toArray, List.set_cons_zero, List.set_cons_succ]
  refine wpOp_at rfl rfl (wp_call_at rfl #[.agg (cellsV v), .int .u64 v.bal, .slice (some ⟨g, 0, none⟩) 2 2] (by kernel_rfl) Try.call34 ((settle_any [ripeE e, passE 5] (some ⟨g, 0, none⟩) 2 v.bal v w3 HV.out h0 (Int.le_refl _) h1 (by simp) CH.out).mono ?_))
  rw [HR.out]
  rintro o w4 ⟨rfl, b4⟩
  have D4 := Lib.hid (D3.out.trans (b4.mono D3.out.size))
  clear b4 CH
  have V4 := old_vb V0.out D4.out
  refine ⟨_, rfl, V4, ?_⟩
  simp only [Act.put, List.getElem_toArray, List.getElem_cons_zero, List.getElem_cons_succ, List.setIfInBounds_toArray, List.set_cons_zero, List.set_cons_succ]
  unfold ans3
  refine headF_takes (fun w' => VB w' w.heap.size v) (m := 3) (f := 0) [8, 9, 10] (fun _ h => h) (by kernel_rfl) V4 ?_
  simp only [List.filterMap_cons, List.filterMap_nil, List.getElem?_toArray, List.getElem?_cons_zero, List.getElem?_cons_succ]
  show wpQuiet _ _ _ _ [_, _, _] _
  iterate 3 (go_big_quiet_step ((intros; rfl)))
  refine wpQuiet_nil ?_
  show Region.seqB _ _ _ _ _ = true ∧ _
  refine ⟨by kernel_rfl, ?_⟩
  simp only [Act.put, List.getElem_toArray, List.getElem_cons_zero, List.getElem_cons_succ, List.setIfInBounds_toArray, List.set_cons_zero, List.set_cons_succ, List.drop_succ_cons, List.drop_zero]
  have Z4 : Hid (VB w4 (w.heap.size + 1) val0) := Lib.hid (old_vb Z0.out D4.out)
  have B4 : Hid (Below w.heap.size w w4) := Lib.hid (B0.out.trans (D4.out.mono B0.out.size))
  clear D4 D3 D2 D1 D0 Z0 B0 V0 V4
  go_wp2_with (first | (refine wpList_store_row rfl _ _ _ rfl (w.heap.size + 1) (cellsV r.2) rfl rfl 28 _ Z4.out infoV rfl (cellsV_one r.2) ?_))
  refine NoPanic.normal ?_
  go_wp2
  exact bodyPost_ret (v := ans3 r m) (results_cell_row3 (fn := Try.f19) rfl _ _ (w.heap.size + 1) 28 _ (0, 0) _ rfl (setRow_heap _ _ _ _ _ _ Z4.out) Try.underlying28 rfl infoV) rfl ⟨rfl, below_setRow B4.out (by omega) _⟩
end Go.Proofs.Ytfcjgllljejfcaa
