/- withdraw and pay, the bounds that are built on each other; Exit, Withdraw, Pay. -/
import Derived.Test.YtjleklhajmhekaaClo
import Derived.Deep.MidRow
namespace Go.Proofs.Ytjleklhajmhekaa
open Go Go.RowKit
set_option linter.unusedVariables false
set_option linter.unusedSimpArgs false
set_option maxRecDepth 100000

theorem int_info : ∃ i, Try.prog.info? 3 = some i ∧ i.zero = some (.int .i64 0) ∧ i.size = 1 := by
  have h : (Try.prog.info? 3).map (fun i => (i.zero, i.size)) = some (some (.int .i64 0), 1) := by kernel_rfl
  cases hi : Try.prog.info? 3 with
  | none => rw [hi] at h; cases h
  | some i =>
    rw [hi] at h
    simp at h
    exact ⟨i, rfl, h.1, h.2⟩
section
variable {a x : Int} {c : Nat → Int}
/-- What a function that makes a bound hands back. -/
def BoundPost (w : World) (g : Int → Option Int) (o : Ending) (w' : World) : Prop := ∃ f, o = .returned f ∧ IsBound w' f g ∧ Below w.heap.size w w'
set_option maxHeartbeats 1600000 in
theorem withdraw_any (hg : Good c) (ha : Amt a) (hx : Amt x) (w : World) :
    Calls Try.prog 31 #[.int .u64 a, .int .u64 x, .agg (cellsOf c)] w (BoundPost w (withdrawG a x c)) := by
  obtain ⟨i0, hi0, hz0, hs0⟩ := int_info
  have HX := Lib.hid (fun w => exit_any hg ha hx w)
  have hn : 0 ≤ c 10 ∧ c 10 ≤ 9223372036854775807 := by have := hg.unb0; have := hg.unb1; omega
  have HN := Lib.hid hn
  clear hg ha hx hn
  go_enter Try.func31, Try.ntmps31
  go_wp2_with (fail)
  have K0 : Hid (Blk (w.alloc (.cells (cellsOf c) 26)) w.heap.size 26 (cellsOf c)) := Lib.hid (Blk.new w _ _)
  have B0 : Hid (Below w.heap.size w (w.alloc (.cells (cellsOf c) 26))) := Lib.hid ((Below.refl _ _).alloc (Nat.le_refl _) _)
  generalize w.alloc (.cells (cellsOf c) 26) = W at *
  refine wp_region_first (fun w' => Blk w' w.heap.size 26 (cellsOf c)) 8 3 [0, 1, 2, 4, 5] (by kernel_rfl) (by kernel_rfl) K0.out ?_
  simp only [List.filterMap_cons, List.filterMap_nil, List.getElem?_toArray, List.getElem?_cons_zero, List.getElem?_cons_succ]
  show wpQuiet _ _ _ _ [_, _, _, _, _] _
  iterate 2 (go_big_quiet_step ((intros; rfl)))
  refine q_load 26 _ w.heap.size 26 (cellsOf c) _ (by kernel_rfl) rfl rfl (fun w h => h) Try.underlying26 rfl info24 ?_
  simp only [Act.put, List.setIfInBounds_toArray, List.set_cons_zero, List.set_cons_succ]
  iterate 1 (go_big_quiet_step ((intros; rfl)))
  refine q_cell 3 _ ⟨w.heap.size, 10, none⟩ (.int .i64 (c 10)) rfl rfl rfl (fun w h => by simp [go_sem, h]) (fun w h => h.cell 10) ?_
  simp only [Act.put, List.setIfInBounds_toArray, List.set_cons_zero, List.set_cons_succ]
  refine wpQuiet_nil ?_
  have D0 : Hid (Below W.heap.size W W.drew) := Lib.hid (Below.drew (Below.refl _ _))
  have HW : Hid (w.heap.size ≤ W.heap.size) := Lib.hid B0.out.size
  refine headF_two (i := 3) (k := 6) (by kernel_rfl) (by omega) (by omega) ?_ ?_
  · refine wpOp_at rfl rfl (wp_call_at rfl #[.int .u64 a, .int .u64 x, .agg (cellsOf c)] (by kernel_rfl) Try.call29 ((HX.out W.drew).mono ?_))
    rintro o w1 ⟨f, rfl, hf, b1⟩
    have D1 : Hid (Below W.heap.size W w1) := Lib.hid (D0.out.trans (b1.mono D0.out.size))
    have HF := Lib.hid hf
    clear b1 hf
    refine ⟨_, rfl, K0.out.below D1.out K0.out.lt, ?_⟩
    refine headF_one (i := 6) (by kernel_rfl) (by omega) ?_
    simp only [Act.put, List.getElem_toArray, List.getElem_cons_zero, List.getElem_cons_succ, List.setIfInBounds_toArray, List.set_cons_zero, List.set_cons_succ]
    refine wpOp_at rfl rfl (wp_buildSlice_one 41 3 i0 _ (.int .i64 0) (.int .i64 (c 10)) rfl rfl Try.underlying41 hi0 hz0 hs0 rfl rfl ?_)
    have b2 : Below w1.heap.size w1 (w1.alloc (.cells #[.int .i64 (c 10)] 3)) := (Below.refl _ _).alloc (Nat.le_refl _) _
    have D2 : Hid (Below W.heap.size W (w1.alloc (.cells #[.int .i64 (c 10)] 3))) := Lib.hid (D1.out.trans (b2.mono D1.out.size))
    have HF2 := Lib.hid (HF.out.below b2)
    have HC : Hid ((w1.alloc (.cells #[.int .i64 (c 10)] 3)).cell? ⟨w1.heap.size, 0, none⟩ = some (.int .i64 (c 10))) := Lib.hid ((Blk.new w1 _ _).cell 0)
    clear b2
    refine ⟨K0.out.below D2.out K0.out.lt, ?_⟩
    refine headF_one (i := 7) (by kernel_rfl) (by omega) ?_
    simp only [Act.put, List.getElem_toArray, List.getElem_cons_zero, List.getElem_cons_succ, List.setIfInBounds_toArray, List.set_cons_zero, List.set_cons_succ]
    generalize w1.alloc (.cells #[.int .i64 (c 10)] 3) = w2 at *
    generalize w1.heap.size = g0 at *
    refine wpOp_at rfl rfl (wp_call_at rfl #[f, .slice (some ⟨g0, 0, none⟩) 1 1] (by kernel_rfl) Try.call51 ((plus_any f g0 w2 HF2.out HC.out HN.out).mono ?_))
    rintro o w3 ⟨f', rfl, hf, b3⟩
    have D3 : Hid (Below W.heap.size W w3) := Lib.hid (D2.out.trans (b3.mono D2.out.size))
    have HP : Hid (BoundPost w (withdrawG a x c) (.returned f') w3) := Lib.hid ⟨f', rfl, hf, B0.out.trans (D3.out.mono HW.out)⟩
    refine ⟨_, rfl, K0.out.below D3.out K0.out.lt, ?_⟩
    clear b3 hf HF HF2 HC D0 D1 D2
    show Region.seqB _ _ _ _ _ = true ∧ _
    refine ⟨by kernel_rfl, ?_⟩
    simp only [Act.put, List.getElem_toArray, List.getElem_cons_zero, List.getElem_cons_succ, List.setIfInBounds_toArray, List.set_cons_zero, List.set_cons_succ, List.drop_succ_cons, List.drop_zero]
    go_wp2_with (fail)
    refine NoPanic.normal ?_
    go_wp2
    go_ret
    exact HP.out
  · refine wpOp_at rfl rfl (wp_buildSlice_one 41 3 i0 _ (.int .i64 0) (.int .i64 (c 10)) rfl rfl Try.underlying41 hi0 hz0 hs0 rfl rfl ?_)
    have D1 : Hid (Below W.heap.size W (W.drew.alloc (.cells #[.int .i64 (c 10)] 3))) := Lib.hid (D0.out.alloc (Nat.le_refl _) _)
    have HC : Hid ((W.drew.alloc (.cells #[.int .i64 (c 10)] 3)).cell? ⟨W.heap.size, 0, none⟩ = some (.int .i64 (c 10))) := Lib.hid ((Blk.new W.drew _ _).cell 0)
    refine ⟨K0.out.below D1.out K0.out.lt, ?_⟩
    refine headF_one (i := 3) (by kernel_rfl) (by omega) ?_
    simp only [Act.put, List.getElem_toArray, List.getElem_cons_zero, List.getElem_cons_succ, List.setIfInBounds_toArray, List.set_cons_zero, List.set_cons_succ]
    have HE : W.drew.heap.size = W.heap.size := rfl
    rw [HE]
    generalize W.drew.alloc (.cells #[.int .i64 (c 10)] 3) = w1 at *
    refine wpOp_at rfl rfl (wp_call_at rfl #[.int .u64 a, .int .u64 x, .agg (cellsOf c)] (by kernel_rfl) Try.call29 ((HX.out w1).mono ?_))
    rintro o w2 ⟨f, rfl, hf, b2⟩
    have D2 : Hid (Below W.heap.size W w2) := Lib.hid (D1.out.trans (b2.mono D1.out.size))
    have HF := Lib.hid hf
    have HC2 := Lib.hid (old_cell HC.out b2)
    clear b2 hf
    refine ⟨_, rfl, K0.out.below D2.out K0.out.lt, ?_⟩
    refine headF_one (i := 7) (by kernel_rfl) (by omega) ?_
    simp only [Act.put, List.getElem_toArray, List.getElem_cons_zero, List.getElem_cons_succ, List.setIfInBounds_toArray, List.set_cons_zero, List.set_cons_succ]
    refine wpOp_at rfl rfl (wp_call_at rfl #[f, .slice (some ⟨W.heap.size, 0, none⟩) 1 1] (by kernel_rfl) Try.call51 ((plus_any f W.heap.size w2 HF.out HC2.out HN.out).mono ?_))
    rintro o w3 ⟨f', rfl, hf, b3⟩
    have D3 : Hid (Below W.heap.size W w3) := Lib.hid (D2.out.trans (b3.mono D2.out.size))
    have HP : Hid (BoundPost w (withdrawG a x c) (.returned f') w3) := Lib.hid ⟨f', rfl, hf, B0.out.trans (D3.out.mono HW.out)⟩
    refine ⟨_, rfl, K0.out.below D3.out K0.out.lt, ?_⟩
    clear b3 hf HF HC HC2 D0 D1 D2
    show Region.seqB _ _ _ _ _ = true ∧ _
    refine ⟨by kernel_rfl, ?_⟩
    simp only [Act.put, List.getElem_toArray, List.getElem_cons_zero, List.getElem_cons_succ, List.setIfInBounds_toArray, List.set_cons_zero, List.set_cons_succ, List.drop_succ_cons, List.drop_zero]
    go_wp2_with (fail)
    refine NoPanic.normal ?_
    go_wp2
    go_ret
    exact HP.out
set_option maxHeartbeats 1600000 in
theorem pay_any (hg : Good c) (ha : Amt a) (hx : Amt x) (w : World) :
    Calls Try.prog 32 #[.int .u64 a, .int .u64 x, .agg (cellsOf c)] w (BoundPost w (payG a x c)) := by
  obtain ⟨i0, hi0, hz0, hs0⟩ := int_info
  have HX := Lib.hid (fun w => withdraw_any hg ha hx w)
  have HS := Lib.hid (fun w => sweep_any c hg w)
  have HN : Hid (0 ≤ sweepN c ∧ sweepN c ≤ 9223372036854775807) := Lib.hid (by have := sweepN_bd hg; omega)
  have HG := Lib.hid (show payG a x c = plusG (withdrawG a x c) (sweepN c) from rfl)
  clear hg ha hx
  generalize sweepN c = n at *
  go_enter Try.func32, Try.ntmps32
  go_wp2_with (fail)
  have K0 : Hid (Blk (w.alloc (.cells (cellsOf c) 26)) w.heap.size 26 (cellsOf c)) := Lib.hid (Blk.new w _ _)
  have B0 : Hid (Below w.heap.size w (w.alloc (.cells (cellsOf c) 26))) := Lib.hid ((Below.refl _ _).alloc (Nat.le_refl _) _)
  generalize w.alloc (.cells (cellsOf c) 26) = W at *
  refine wp_region_first (fun w' => Blk w' w.heap.size 26 (cellsOf c)) 8 4 [0, 1, 2, 4] (by kernel_rfl) (by kernel_rfl) K0.out ?_
  simp only [List.filterMap_cons, List.filterMap_nil, List.getElem?_toArray, List.getElem?_cons_zero, List.getElem?_cons_succ]
  show wpQuiet _ _ _ _ [_, _, _, _] _
  iterate 2 (go_big_quiet_step ((intros; rfl)))
  refine q_load 26 _ w.heap.size 26 (cellsOf c) _ (by kernel_rfl) rfl rfl (fun w h => h) Try.underlying26 rfl info24 ?_
  simp only [Act.put, List.setIfInBounds_toArray, List.set_cons_zero, List.set_cons_succ]
  refine q_load 26 _ w.heap.size 26 (cellsOf c) _ (by kernel_rfl) rfl rfl (fun w h => h) Try.underlying26 rfl info24 ?_
  simp only [Act.put, List.setIfInBounds_toArray, List.set_cons_zero, List.set_cons_succ]
  refine wpQuiet_nil ?_
  have D0 : Hid (Below W.heap.size W W.drew) := Lib.hid (Below.drew (Below.refl _ _))
  have HW : Hid (w.heap.size ≤ W.heap.size) := Lib.hid B0.out.size
  refine headF_one (i := 3) (by kernel_rfl) (by omega) ?_
  refine wpOp_at rfl rfl (wp_call_at rfl #[.int .u64 a, .int .u64 x, .agg (cellsOf c)] (by kernel_rfl) Try.call31 ((HX.out W.drew).mono ?_))
  rintro o w1 ⟨f, rfl, hf, b1⟩
  have D1 : Hid (Below W.heap.size W w1) := Lib.hid (D0.out.trans (b1.mono D0.out.size))
  have HF := Lib.hid hf
  clear b1 hf
  refine ⟨_, rfl, K0.out.below D1.out K0.out.lt, ?_⟩
  refine headF_one (i := 5) (by kernel_rfl) (by omega) ?_
  simp only [Act.put, List.getElem_toArray, List.getElem_cons_zero, List.getElem_cons_succ, List.setIfInBounds_toArray, List.set_cons_zero, List.set_cons_succ]
  refine wpOp_at rfl rfl (wp_call_at rfl #[.agg (cellsOf c)] (by kernel_rfl) Try.call18 ((HS.out w1).mono ?_))
  rintro o w2 ⟨rfl, b2⟩
  have D2 : Hid (Below W.heap.size W w2) := Lib.hid (D1.out.trans (b2.mono D1.out.size))
  have HF1 := Lib.hid (HF.out.below b2)
  clear b2 HF
  refine ⟨_, rfl, K0.out.below D2.out K0.out.lt, ?_⟩
  refine headF_one (i := 6) (by kernel_rfl) (by omega) ?_
  simp only [Act.put, List.getElem_toArray, List.getElem_cons_zero, List.getElem_cons_succ, List.setIfInBounds_toArray, List.set_cons_zero, List.set_cons_succ]
  refine wpOp_at rfl rfl (wp_buildSlice_one 41 3 i0 _ (.int .i64 0) (.int .i64 n) rfl rfl Try.underlying41 hi0 hz0 hs0 rfl rfl ?_)
  have b3 : Below w2.heap.size w2 (w2.alloc (.cells #[.int .i64 n] 3)) := (Below.refl _ _).alloc (Nat.le_refl _) _
  have D3 : Hid (Below W.heap.size W (w2.alloc (.cells #[.int .i64 n] 3))) := Lib.hid (D2.out.trans (b3.mono D2.out.size))
  have HF2 := Lib.hid (HF1.out.below b3)
  have HC : Hid ((w2.alloc (.cells #[.int .i64 n] 3)).cell? ⟨w2.heap.size, 0, none⟩ = some (.int .i64 n)) := Lib.hid ((Blk.new w2 _ _).cell 0)
  clear b3
  refine ⟨K0.out.below D3.out K0.out.lt, ?_⟩
  refine headF_one (i := 7) (by kernel_rfl) (by omega) ?_
  simp only [Act.put, List.getElem_toArray, List.getElem_cons_zero, List.getElem_cons_succ, List.setIfInBounds_toArray, List.set_cons_zero, List.set_cons_succ]
  generalize w2.alloc (.cells #[.int .i64 n] 3) = w3 at *
  generalize w2.heap.size = g0 at *
  refine wpOp_at rfl rfl (wp_call_at rfl #[f, .slice (some ⟨g0, 0, none⟩) 1 1] (by kernel_rfl) Try.call51 ((plus_any f g0 w3 HF2.out HC.out HN.out).mono ?_))
  rintro o w4 ⟨f', rfl, hf, b4⟩
  have D4 : Hid (Below W.heap.size W w4) := Lib.hid (D3.out.trans (b4.mono D3.out.size))
  have HP : Hid (BoundPost w (payG a x c) (.returned f') w4) := Lib.hid ⟨f', rfl, by rw [HG.out]; exact hf, B0.out.trans (D4.out.mono HW.out)⟩
  refine ⟨_, rfl, K0.out.below D4.out K0.out.lt, ?_⟩
  clear b4 hf HF1 HF2 HC D0 D1 D2 D3
  show Region.seqB _ _ _ _ _ = true ∧ _
  refine ⟨by kernel_rfl, ?_⟩
  simp only [Act.put, List.getElem_toArray, List.getElem_cons_zero, List.getElem_cons_succ, List.setIfInBounds_toArray, List.set_cons_zero, List.set_cons_succ, List.drop_succ_cons, List.drop_zero]
  go_wp2_with (fail)
  refine NoPanic.normal ?_
  go_wp2
  go_ret
  exact HP.out
end
section
variable {a x : Int} {c : Nat → Int}
theorem exit_at (hg : Good c) (ha : Amt a) (hx : Amt x) (e : Int) (w : World) :
    Calls Try.prog 13 #[.int .i64 e, .int .u64 a, .int .u64 x, .agg (cellsOf c)] w fun o w' => o = .returned (laterIs (exitG a x c e)) ∧ Below w.heap.size w w' := by
  have HX := Lib.hid (fun w => exit_any hg ha hx w)
  have K0 : Hid (Blk (w.alloc (.cells (cellsOf c) 26)) w.heap.size 26 (cellsOf c)) := Lib.hid (Blk.new w _ _)
  have B0 : Hid (Below w.heap.size w (w.alloc (.cells (cellsOf c) 26))) := Lib.hid ((Below.refl _ _).alloc (Nat.le_refl _) _)
  clear hg ha hx
  go_enter Try.func13, Try.ntmps13
  go_wp2_with (first | (refine wpList_load_row rfl 26 _ rfl w.heap.size rfl 26 _ (0, 0) _ K0.out Try.underlying26 rfl info24 ?_))
  refine (HX.out _).mono ?_
  rintro o w1 ⟨f, rfl, hf, b1⟩
  obtain ⟨F, caps, rfl, hcall, hrun⟩ := hf
  have B1 : Hid (Below w.heap.size w w1) := Lib.hid (B0.out.trans (b1.mono B0.out.size))
  have HR := Lib.hid (hrun w1 e (Below.refl _ _))
  clear hrun b1 B0 K0 HX
  generalize hr : exitG a x c e = r at *
  have HQ := Lib.hid hr
  go_wp2_with (fail)
  refine HR.out.mono ?_
  rintro o w2 ⟨rfl, b2⟩
  have B2 : Hid (Below w.heap.size w w2) := Lib.hid (B1.out.trans (b2.mono B1.out.size))
  clear b2 B1 HR hr
  rcases r with _ | s
  · unfold laterIs
    go_wp2_with (fail)
    go_ret2
    exact ⟨by rw [HQ.out]; rfl, B2.out⟩
  · unfold laterIs
    go_wp2_with (fail)
    go_ret2
    exact ⟨by rw [HQ.out]; rfl, B2.out⟩
theorem withdraw_at (hg : Good c) (ha : Amt a) (hx : Amt x) (e : Int) (w : World) :
    Calls Try.prog 15 #[.int .i64 e, .int .u64 a, .int .u64 x, .agg (cellsOf c)] w fun o w' => o = .returned (laterIs (withdrawG a x c e)) ∧ Below w.heap.size w w' := by
  have HX := Lib.hid (fun w => withdraw_any hg ha hx w)
  have K0 : Hid (Blk (w.alloc (.cells (cellsOf c) 26)) w.heap.size 26 (cellsOf c)) := Lib.hid (Blk.new w _ _)
  have B0 : Hid (Below w.heap.size w (w.alloc (.cells (cellsOf c) 26))) := Lib.hid ((Below.refl _ _).alloc (Nat.le_refl _) _)
  clear hg ha hx
  go_enter Try.func15, Try.ntmps15
  go_wp2_with (first | (refine wpList_load_row rfl 26 _ rfl w.heap.size rfl 26 _ (0, 0) _ K0.out Try.underlying26 rfl info24 ?_))
  refine (HX.out _).mono ?_
  rintro o w1 ⟨f, rfl, hf, b1⟩
  obtain ⟨F, caps, rfl, hcall, hrun⟩ := hf
  have B1 : Hid (Below w.heap.size w w1) := Lib.hid (B0.out.trans (b1.mono B0.out.size))
  have HR := Lib.hid (hrun w1 e (Below.refl _ _))
  clear hrun b1 B0 K0 HX
  generalize hr : withdrawG a x c e = r at *
  have HQ := Lib.hid hr
  go_wp2_with (fail)
  refine HR.out.mono ?_
  rintro o w2 ⟨rfl, b2⟩
  have B2 : Hid (Below w.heap.size w w2) := Lib.hid (B1.out.trans (b2.mono B1.out.size))
  clear b2 B1 HR hr
  rcases r with _ | s
  · unfold laterIs
    go_wp2_with (fail)
    go_ret2
    exact ⟨by rw [HQ.out]; rfl, B2.out⟩
  · unfold laterIs
    go_wp2_with (fail)
    go_ret2
    exact ⟨by rw [HQ.out]; rfl, B2.out⟩
theorem pay_at (hg : Good c) (ha : Amt a) (hx : Amt x) (e : Int) (w : World) :
    Calls Try.prog 16 #[.int .i64 e, .int .u64 a, .int .u64 x, .agg (cellsOf c)] w fun o w' => o = .returned (laterIs (payG a x c e)) ∧ Below w.heap.size w w' := by
  have HX := Lib.hid (fun w => pay_any hg ha hx w)
  have K0 : Hid (Blk (w.alloc (.cells (cellsOf c) 26)) w.heap.size 26 (cellsOf c)) := Lib.hid (Blk.new w _ _)
  have B0 : Hid (Below w.heap.size w (w.alloc (.cells (cellsOf c) 26))) := Lib.hid ((Below.refl _ _).alloc (Nat.le_refl _) _)
  clear hg ha hx
  go_enter Try.func16, Try.ntmps16
  go_wp2_with (first | (refine wpList_load_row rfl 26 _ rfl w.heap.size rfl 26 _ (0, 0) _ K0.out Try.underlying26 rfl info24 ?_))
  refine (HX.out _).mono ?_
  rintro o w1 ⟨f, rfl, hf, b1⟩
  obtain ⟨F, caps, rfl, hcall, hrun⟩ := hf
  have B1 : Hid (Below w.heap.size w w1) := Lib.hid (B0.out.trans (b1.mono B0.out.size))
  have HR := Lib.hid (hrun w1 e (Below.refl _ _))
  clear hrun b1 B0 K0 HX
  generalize hr : payG a x c e = r at *
  have HQ := Lib.hid hr
  go_wp2_with (fail)
  refine HR.out.mono ?_
  rintro o w2 ⟨rfl, b2⟩
  have B2 : Hid (Below w.heap.size w w2) := Lib.hid (B1.out.trans (b2.mono B1.out.size))
  clear b2 B1 HR hr
  rcases r with _ | s
  · unfold laterIs
    go_wp2_with (fail)
    go_ret2
    exact ⟨by rw [HQ.out]; rfl, B2.out⟩
  · unfold laterIs
    go_wp2_with (fail)
    go_ret2
    exact ⟨by rw [HQ.out]; rfl, B2.out⟩
end
end Go.Proofs.Ytjleklhajmhekaa
