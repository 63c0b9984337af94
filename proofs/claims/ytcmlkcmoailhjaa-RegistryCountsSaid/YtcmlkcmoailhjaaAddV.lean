/- Add. -/
import Derived.Test.YtcmlkcmoailhjaaTwo
namespace Go.Proofs.Ytcmlkcmoailhjaa
open Go Go.RowKit Go.Deep
set_option linter.unusedVariables false
set_option linter.unusedSimpArgs false

theorem addv_nil (v : Val) (w : World) : Calls Try.prog 23 #[.pointer none, .agg (cellsV v)] w fun e w' => e = .returned (.tuple #[.int .i64 (-1), .int .i64 1]) ∧ Below w.heap.size w w' := by
  go_enter_defers Try.func23, Try.ntmps23
  go_wp2
  exact ⟨_, results_tmp2 rfl _ _ _, rfl, (Below.refl _ _).alloc (Nat.le_refl _) _⟩
theorem addv_full (b cap cp : Nat) (a : Option Addr) (v : Val) (w : World) (h0 : w.cell? ⟨b, 0, none⟩ = some (.int .i64 cap)) (h1 : w.cell? ⟨b, 1, none⟩ = some (.slice a cap cp)) :
    Calls Try.prog 23 #[.pointer (some ⟨b, 0, none⟩), .agg (cellsV v)] w fun e w' => e = .returned (.tuple #[.int .i64 (-1), .int .i64 5]) ∧ Below w.heap.size w w' := by
  have x0 := cell_alloc_some (.cells (cellsV v) 29) h0
  have x1 := cell_alloc_some (.cells (cellsV v) 29) h1
  clear h0 h1
  go_enter_defers Try.func23, Try.ntmps23
  go_wp2
  exact ⟨_, results_tmp2 rfl _ _ _, rfl, (Below.refl _ _).alloc (Nat.le_refl _) _⟩
set_option maxHeartbeats 800000 in
theorem addv_over (b cap cp n : Nat) (a : Option Addr) (T : Int) (v : Val) (w : World) (h0 : w.cell? ⟨b, 0, none⟩ = some (.int .i64 cap)) (h1 : w.cell? ⟨b, 1, none⟩ = some (.slice a n cp)) (h4 : w.cell? ⟨b, 4, none⟩ = some (.int .u64 T))
    (hn : n < cap) (hc : cap ≤ 4096) (hv : FitsV v) (hT0 : 0 ≤ T) (hT1 : T ≤ 18446744073709551615) (hT : 18446744073709551615 < T + v.bal) :
    Calls Try.prog 23 #[.pointer (some ⟨b, 0, none⟩), .agg (cellsV v)] w fun e w' => e = .returned (.tuple #[.int .i64 (-1), .int .i64 10]) ∧ Below w.heap.size w w' := by
  have x0 := cell_alloc_some (.cells (cellsV v) 29) h0
  have x1 := cell_alloc_some (.cells (cellsV v) 29) h1
  have x4 := cell_alloc_some (.cells (cellsV v) 29) h4
  have hB : Below w.heap.size w (w.alloc (.cells (cellsV v) 29)) := (Below.refl _ _).alloc (Nat.le_refl _) _
  have y0 : (w.alloc (.cells (cellsV v) 29)).cell? ⟨w.heap.size, 0, none⟩ = some (.int .u64 v.bal) := (Blk.new w 29 (cellsV v)).cell 0
  obtain ⟨v0, v1⟩ := hv.bal
  have hnc : ((n : Int) == (cap : Int)) = false := by simp; omega
  have X4 := Lib.hid x4
  have Y0 := Lib.hid y0
  have HB := Lib.hid hB
  clear h0 h1 h4 x4 y0 hB hv
  go_enter_defers Try.func23, Try.ntmps23
  go_wp2
  generalize w.alloc (.cells (cellsV v) 29) = W at *
  refine wp_region_first (fun _ => True) 12 12 [] (by kernel_rfl) (by kernel_rfl) trivial ?_
  refine wpQuiet_nil ?_
  refine headF_takes (fun w' => w'.cell? ⟨b, 4, none⟩ = some (.int .u64 T) ∧ w'.cell? ⟨w.heap.size, 0, none⟩ = some (.int .u64 v.bal)) (m := 12) (f := 6) [0, 1, 2, 3, 4, 5] (fun _ _ => trivial) (by kernel_rfl) ⟨X4.out, Y0.out⟩ ?_
  simp only [List.filterMap_cons, List.filterMap_nil, List.getElem?_toArray, List.getElem?_cons_zero, List.getElem?_cons_succ]
  show wpQuiet _ _ _ _ [_, _, _, _, _, _] _
  iterate 3 (go_big_quiet_step ((intros; rfl)))
  refine q_cell 27 _ _ (.int .u64 T) rfl rfl rfl (fun w h => by simp [go_sem, h]) (fun w h => h.1) ?_
  simp only [Act.put, List.setIfInBounds_toArray, List.set_cons_zero, List.set_cons_succ]
  iterate 1 (go_big_quiet_step ((intros; rfl)))
  refine q_cell 27 _ _ (.int .u64 v.bal) rfl rfl rfl (fun w h => by simp [go_sem, h]) (fun w h => h.2) ?_
  simp only [Act.put, List.setIfInBounds_toArray, List.set_cons_zero, List.set_cons_succ]
  refine wpQuiet_nil ?_
  refine headF_one (i := 6) (by kernel_rfl) (by omega) ?_
  refine wpOp_at rfl rfl (wp_buildSlice_two 60 27 (.tmp 26) (.tmp 28) _ _ (.int .u64 T) (.int .u64 v.bal) rfl rfl rfl Try.underlying60 u64_info rfl rfl rfl ⟨⟨cell_alloc_some _ X4.out, cell_alloc_some _ Y0.out⟩, ?_⟩)
  refine headF_one (i := 7) (by kernel_rfl) (by omega) ?_
  simp only [Act.put, List.getElem_toArray, List.getElem_cons_zero, List.getElem_cons_succ, List.setIfInBounds_toArray, List.set_cons_zero, List.set_cons_succ]
  refine wpOp_at rfl rfl (wp_call_at rfl #[.slice (some ⟨W.drew.heap.size, 0, none⟩) 2 2] (by kernel_rfl) Try.call31 ((add2_not W.drew.heap.size T v.bal _ (Blk.new W.drew _ _) hT0 hT1 v0 v1 (by omega)).mono ?_))
  rintro e w2 ⟨rfl, hw2⟩
  have B2 : Below w.heap.size w w2 := hw2 ▸ HB.out.drew.alloc HB.out.size _
  have S2 : w2.cell? ⟨b, 4, none⟩ = some (.int .u64 T) ∧ w2.cell? ⟨w.heap.size, 0, none⟩ = some (.int .u64 v.bal) := by rw [← hw2]; exact ⟨cell_alloc_some _ X4.out, cell_alloc_some _ Y0.out⟩
  refine ⟨_, rfl, S2, ?_⟩
  clear hw2
  simp only [Act.put, List.getElem_toArray, List.getElem_cons_zero, List.getElem_cons_succ, List.setIfInBounds_toArray, List.set_cons_zero, List.set_cons_succ]
  refine headF_takes (fun w' => w'.cell? ⟨b, 4, none⟩ = some (.int .u64 T) ∧ w'.cell? ⟨w.heap.size, 0, none⟩ = some (.int .u64 v.bal)) (m := 4) (f := 0) [8, 9, 10, 11] (fun _ h => h) (by kernel_rfl) S2 ?_
  simp only [List.filterMap_cons, List.filterMap_nil, List.getElem?_toArray, List.getElem?_cons_zero, List.getElem?_cons_succ]
  show wpQuiet _ _ _ _ [_, _, _, _] _
  iterate 4 (go_big_quiet_step ((intros; rfl)))
  refine wpQuiet_nil ?_
  show Region.seqB _ _ _ _ _ = true ∧ _
  refine ⟨by kernel_rfl, ?_⟩
  simp only [Act.put, List.getElem_toArray, List.getElem_cons_zero, List.getElem_cons_succ, List.setIfInBounds_toArray, List.set_cons_zero, List.set_cons_succ, List.drop_succ_cons, List.drop_zero]
  go_wp2
  refine NoPanic.normal ?_
  go_wp2
  exact ⟨_, results_tmp2 rfl _ _ _, rfl, B2⟩

set_option maxHeartbeats 1600000 in
theorem addv_ok (b cap m : Nat) (s : Value) (l : List Val) (v : Val) (w : World) (h : RegB w b m s cap (countOf l) (activeOf l) (totalOf l)) (ho : w.ownsRow 0 29 7 s l.length (flat l))
    (hn : l.length < cap) (hc : cap ≤ 4096) (hf : ∀ x ∈ l, FitsV x) (hv : FitsV v) (hT : totalOf l + v.bal ≤ 18446744073709551615) :
    Calls Try.prog 23 #[.pointer (some ⟨b, 0, none⟩), .agg (cellsV v)] w fun e w' => e = .returned (.tuple #[.int .i64 l.length, .int .i64 0]) ∧ ∃ s', RegB w' b m s' cap (countOf (l ++ [v])) (activeOf (l ++ [v])) (totalOf (l ++ [v])) ∧ w'.ownsRow 0 29 7 s' (l.length + 1) (flat (l ++ [v])) ∧
      (s'.ownBlock = s.ownBlock ∨ ∃ q, s'.ownBlock = some q ∧ w.heap.size ≤ q) ∧ Kept (fun i => i = b ∨ i = m ∨ s.ownBlock = some i) w w' := by
  obtain ⟨a, cp, rfl, hcp, hcp2⟩ := owns_slice ho
  obtain ⟨hA0, hA⟩ := active_le hf
  have hT0 := total_nonneg hf
  have hcb := count_bounds l v.st
  obtain ⟨v0, v1⟩ := hv.bal
  have HB := Lib.hid (h.alloc (.cells (cellsV v) 29))
  have HO := Lib.hid (ho.alloc (.cells (cellsV v) 29))
  have HLT : Hid (∀ i, (Value.slice a l.length cp).ownBlock = some i → i < w.heap.size) := Lib.hid (fun i hi => (ho.lt i hi).2)
  have hbl := h.1.lt
  have hml := h.2.lt
  have HNE : Hid ((Value.slice a l.length cp).ownBlock ≠ some b ∧ (Value.slice a l.length cp).ownBlock ≠ some m) := Lib.hid (by
    rcases ho.2 with ⟨h1, _⟩ | ⟨g, cp', cur, h1, _, h3, _⟩
    · rw [h1]; simp [Value.ownBlock]
    · rw [h1]
      simp only [Value.ownBlock, ne_eq, Option.some.injEq]
      refine ⟨?_, ?_⟩
      · rintro rfl; have := h.1; unfold Blk at this; rw [h3] at this; injection this with this; injection this with _ h9; exact absurd h9 (by decide)
      · rintro rfl; obtain ⟨es, clock, h9, _⟩ := h.2; rw [h3] at h9; cases h9)
  have HE : Hid (Blk (w.alloc (.cells (cellsV v) 29)) w.heap.size 29 (cellsV v)) := Lib.hid (Blk.new _ _ _)
  have HK : Hid (Kept (fun i => i = b ∨ i = m ∨ (Value.slice a l.length cp).ownBlock = some i) w (w.alloc (.cells (cellsV v) 29))) := Lib.hid ((Kept.refl _ w).alloc _)
  obtain ⟨x0, x1, x2, x3, x4⟩ := HB.out.cells
  have X1 := Lib.hid x1
  have X4 := Lib.hid x4
  have Y0 := Lib.hid (HE.out.cell 0)
  have hnc : ((l.length : Int) == (cap : Int)) = false := by simp; omega
  have HV := Lib.hid hv
  have hw1 : w.heap.size ≤ (w.alloc (.cells (cellsV v) 29)).heap.size := by simp
  obtain ⟨n0, hn0⟩ : ∃ n, w.heap.size = n := ⟨_, rfl⟩
  rw [hn0] at hbl hml hw1 HLT HE Y0
  clear h ho x2 x3 x4 hf hv
  go_enter_defers Try.func23, Try.ntmps23
  go_wp2
  generalize w.alloc (.cells (cellsV v) 29) = W at *
  have hWn : n0 < W.heap.size := HE.out.lt
  obtain ⟨T, hTe⟩ : ∃ T, totalOf l = T := ⟨_, rfl⟩
  rw [hTe] at X4 hT hT0 hA
  refine wp_region_first (fun _ => True) 12 12 [] (by kernel_rfl) (by kernel_rfl) trivial ?_
  refine wpQuiet_nil ?_
  refine headF_takes (fun w' => w'.cell? ⟨b, 4, none⟩ = some (.int .u64 T) ∧ w'.cell? ⟨n0, 0, none⟩ = some (.int .u64 v.bal)) (m := 12) (f := 6) [0, 1, 2, 3, 4, 5] (fun _ _ => trivial) (by kernel_rfl) ⟨X4.out, Y0.out⟩ ?_
  simp only [List.filterMap_cons, List.filterMap_nil, List.getElem?_toArray, List.getElem?_cons_zero, List.getElem?_cons_succ]
  show wpQuiet _ _ _ _ [_, _, _, _, _, _] _
  iterate 3 (go_big_quiet_step ((intros; rfl)))
  refine q_cell 27 _ _ (.int .u64 T) rfl rfl rfl (fun w h => by simp [go_sem, h]) (fun w h => h.1) ?_
  simp only [Act.put, List.setIfInBounds_toArray, List.set_cons_zero, List.set_cons_succ]
  iterate 1 (go_big_quiet_step ((intros; rfl)))
  refine q_cell 27 _ _ (.int .u64 v.bal) rfl rfl rfl (fun w h => by simp [go_sem, h]) (fun w h => h.2) ?_
  simp only [Act.put, List.setIfInBounds_toArray, List.set_cons_zero, List.set_cons_succ]
  refine wpQuiet_nil ?_
  refine headF_one (i := 6) (by kernel_rfl) (by omega) ?_
  refine wpOp_at rfl rfl (wp_buildSlice_two 60 27 (.tmp 26) (.tmp 28) _ _ (.int .u64 T) (.int .u64 v.bal) rfl rfl rfl Try.underlying60 u64_info rfl rfl rfl ⟨⟨cell_alloc_some _ X4.out, cell_alloc_some _ Y0.out⟩, ?_⟩)
  refine headF_one (i := 7) (by kernel_rfl) (by omega) ?_
  simp only [Act.put, List.getElem_toArray, List.getElem_cons_zero, List.getElem_cons_succ, List.setIfInBounds_toArray, List.set_cons_zero, List.set_cons_succ]
  refine wpOp_at rfl rfl (wp_call_at rfl #[.slice (some ⟨W.drew.heap.size, 0, none⟩) 2 2] (by kernel_rfl) Try.call31 ((add2_yes W.drew.heap.size T v.bal _ (Blk.new W.drew _ _) hT0 v0 hT).mono ?_))
  rintro e w2 ⟨rfl, hw2⟩
  have S2 : w2.cell? ⟨b, 4, none⟩ = some (.int .u64 T) ∧ w2.cell? ⟨n0, 0, none⟩ = some (.int .u64 v.bal) := by rw [← hw2]; exact ⟨cell_alloc_some _ X4.out, cell_alloc_some _ Y0.out⟩
  refine ⟨_, rfl, S2, ?_⟩
  have H2 : Hid (RegB w2 b m (.slice a l.length cp) cap (countOf l) (activeOf l) T ∧ w2.ownsRow 0 29 7 (.slice a l.length cp) l.length (flat l) ∧ Blk w2 n0 29 (cellsV v) ∧ Kept (fun i => i = b ∨ i = m ∨ (Value.slice a l.length cp).ownBlock = some i) w w2 ∧ W.heap.size ≤ w2.heap.size) :=
    Lib.hid (hw2 ▸ ⟨by rw [← hTe]; exact (HB.out.drewN 1).alloc _, World.ownsRow.alloc (w := W.drew) HO.out _, Blk.alloc (Blk.drew HE.out) _, (HK.out.drew).alloc _, by simp⟩)
  clear hw2 HB HO HE HK X1 X4 Y0 x0 x1
  simp only [Act.put, List.getElem_toArray, List.getElem_cons_zero, List.getElem_cons_succ, List.setIfInBounds_toArray, List.set_cons_zero, List.set_cons_succ]
  refine headF_takes (fun w' => w'.cell? ⟨b, 4, none⟩ = some (.int .u64 T) ∧ w'.cell? ⟨n0, 0, none⟩ = some (.int .u64 v.bal)) (m := 4) (f := 0) [8, 9, 10, 11] (fun _ h => h) (by kernel_rfl) S2 ?_
  simp only [List.filterMap_cons, List.filterMap_nil, List.getElem?_toArray, List.getElem?_cons_zero, List.getElem?_cons_succ]
  show wpQuiet _ _ _ _ [_, _, _, _] _
  iterate 4 (go_big_quiet_step ((intros; rfl)))
  refine wpQuiet_nil ?_
  show Region.seqB _ _ _ _ _ = true ∧ _
  refine ⟨by kernel_rfl, ?_⟩
  simp only [Act.put, List.getElem_toArray, List.getElem_cons_zero, List.getElem_cons_succ, List.setIfInBounds_toArray, List.set_cons_zero, List.set_cons_succ, List.drop_succ_cons, List.drop_zero]
  go_wp2
  refine NoPanic.normal ?_
  go_wp2_with (refine wpList_load_val rfl 29 _ rfl n0 0 rfl v _ H2.out.2.2.1.range Try.underlying29 rfl infoV ?_)
  have S3 := H2.out.1.cells.2.1
  have S4 := H2.out.2.2.1.range
  have hle : w2.heap.size ≤ w2.drew.heap.size := Nat.le_refl _
  refine wp_region_first (fun _ => True) 10 10 [] (by kernel_rfl) (by kernel_rfl) trivial ?_
  refine wpQuiet_nil ?_
  refine headF_takes (fun w' => w'.cell? ⟨b, 1, none⟩ = some (.slice a l.length cp) ∧ w'.rangeAt n0 0 v.row) (m := 10) (f := 4) [0, 1, 2, 3, 4, 5] (fun _ _ => trivial) (by kernel_rfl) ⟨S3, S4⟩ ?_
  simp only [List.filterMap_cons, List.filterMap_nil, List.getElem?_toArray, List.getElem?_cons_zero, List.getElem?_cons_succ]
  show wpQuiet _ _ _ _ [_, _, _, _, _, _] _
  iterate 4 (go_big_quiet_step ((intros; rfl)))
  refine q_cell 26 _ _ (.slice a l.length cp) rfl rfl rfl (fun w h => by simp [go_sem, h]) (fun w h => h.1) ?_
  simp only [Act.put, List.setIfInBounds_toArray, List.set_cons_zero, List.set_cons_succ]
  refine q_load_val 29 (.tmp 3) n0 0 v _ rfl rfl rfl (fun w h => h.2) Try.underlying29 rfl infoV ?_
  simp only [Act.put, List.setIfInBounds_toArray, List.set_cons_zero, List.set_cons_succ]
  refine wpQuiet_nil ?_
  refine headF_one (i := 6) (by kernel_rfl) (by omega) ?_
  refine wpOp_at rfl rfl (wp_buildSlice_val 26 29 (.tmp 42) _ v rfl rfl Try.underlying26 val_info ⟨⟨cell_alloc_some _ S3, fun j u hu => cell_alloc_some _ (S4 j u hu)⟩, ?_⟩)
  refine headF_one (i := 7) (by kernel_rfl) (by omega) ?_
  simp only [Act.put, List.getElem_toArray, List.getElem_cons_zero, List.getElem_cons_succ, List.setIfInBounds_toArray, List.set_cons_zero, List.set_cons_succ]
  obtain ⟨i, hi, hz, hs7, hby⟩ := val_app
  refine wpOp_at rfl rfl (wp_append_src _ (.tmp 41) (.tmp 43) 26 rfl 0 29 i _ 7 56 Try.underlying26 hi hz hs7 hby (cellsV_size _) (by omega) (.slice a l.length cp) l.length (flat l) rfl (World.ownsRow.alloc (w := w2.drew) H2.out.2.1 _)
    (some ⟨w2.drew.heap.size, 0, none⟩) 1 1 v.row rfl rfl (fun _ => ⟨_, rfl, new_cells _ _ _⟩) (row_one v) (by unfold maxLen; omega) (by omega) (by omega) ?_)
  intro s' w3 ho3 hg3 hs3
  obtain ⟨a', cp', rfl, -, -⟩ := owns_slice ho3
  have H3 : Hid (RegB w3 b m (.slice a l.length cp) cap (countOf l) (activeOf l) T ∧ w3.ownsRow 0 29 7 (.slice a' (l.length + 1) cp') (l.length + 1) (flat (l ++ [v])) ∧ Kept (fun i => i = b ∨ i = m ∨ (Value.slice a l.length cp).ownBlock = some i) w w3 ∧ ((Value.slice a' (l.length + 1) cp').ownBlock = (Value.slice a l.length cp).ownBlock ∨ ∃ q, (Value.slice a' (l.length + 1) cp').ownBlock = some q ∧ n0 ≤ q) ∧ (Value.slice a' (l.length + 1) cp').ownBlock ≠ some b ∧ (Value.slice a' (l.length + 1) cp').ownBlock ≠ some m) := by
    have e1 : RegB (w2.drew.alloc (.cells (cellsV v) 29)) b m (.slice a l.length cp) cap (countOf l) (activeOf l) T := (H2.out.1.drewN 1).alloc _
    have k1 : Kept (fun i => i = b ∨ i = m ∨ (Value.slice a l.length cp).ownBlock = some i) w (w2.drew.alloc (.cells (cellsV v) 29)) := (H2.out.2.2.2.1.drew).alloc _
    have hsz : n0 ≤ (w2.drew.alloc (.cells (cellsV v) 29)).heap.size := by have := H2.out.2.2.2.2; simp; omega
    have hs3' : (Value.slice a' (l.length + 1) cp').ownBlock = (Value.slice a l.length cp).ownBlock ∨ ∃ q, (Value.slice a' (l.length + 1) cp').ownBlock = some q ∧ n0 ≤ q := hs3.imp id (fun h => ⟨_, h, hsz⟩)
    refine Lib.hid ⟨⟨e1.1.grown hg3 (Ne.symm HNE.out.1), e1.2.grown hg3 (Ne.symm HNE.out.2)⟩, by rw [flat_append, flat_one]; exact ho3, k1.trans (Kept.of_grown (S := fun i => some i = (Value.slice a l.length cp).ownBlock) hg3 (fun i hi => hi)) (fun i _ e => .inr (.inr e.symm)), hs3', ?_, ?_⟩
    · rcases hs3' with h | ⟨q, h, hq⟩ <;> rw [h]
      · exact HNE.out.1
      · intro e; injection e; omega
    · rcases hs3' with h | ⟨q, h, hq⟩ <;> rw [h]
      · exact HNE.out.2
      · intro e; injection e; omega
  have S5 := H3.out.1.cells.2.1
  have S6 : w3.rangeAt n0 0 v.row := fun j u hu => hg3.cell (cell_alloc_some _ (S4 j u hu)) (by intro e; have := HLT.out n0 e.symm; omega)
  refine ⟨⟨S5, S6⟩, ?_⟩
  clear ho3 hg3 hs3
  simp only [Act.put, List.getElem_toArray, List.getElem_cons_zero, List.getElem_cons_succ, List.setIfInBounds_toArray, List.set_cons_zero, List.set_cons_succ]
  refine headF_takes (fun w' => w'.cell? ⟨b, 1, none⟩ = some (.slice a l.length cp) ∧ w'.rangeAt n0 0 v.row) (m := 2) (f := 0) [8, 9] (fun _ h => h) (by kernel_rfl) ⟨S5, S6⟩ ?_
  simp only [List.filterMap_cons, List.filterMap_nil, List.getElem?_toArray, List.getElem?_cons_zero, List.getElem?_cons_succ]
  show wpQuiet _ _ _ _ [_, _] _
  iterate 2 (go_big_quiet_step ((intros; rfl)))
  refine wpQuiet_nil ?_
  show Region.seqB _ _ _ _ _ = true ∧ _
  refine ⟨by kernel_rfl, ?_⟩
  simp only [Act.put, List.getElem_toArray, List.getElem_cons_zero, List.getElem_cons_succ, List.setIfInBounds_toArray, List.set_cons_zero, List.set_cons_succ, List.drop_succ_cons, List.drop_zero]
  have Z1 := H3.out.1.1.frozen 1
  have HI := Lib.hid (include_any b m cap (.slice a' (l.length + 1) cp') (countOf l) (activeOf l) T v (w3.setCell ⟨b, 1, none⟩ (.slice a' (l.length + 1) cp')) (H3.out.1.list _) HV.out hA0 hA hT hcb.1 (by omega))
  clear S2 S3 S4 S6 H2 hi hz hs7 hby
  go_wp2
  refine NoPanic.normal ?_
  go_wp2
  refine leaves_cons (f := 32) (args := #[.pointer (some ⟨b, 0, none⟩), .agg (cellsV v)]) (by simp) (by simp [go_sem]) ?_
  refine (HI.out.2 _).mono ?_
  rintro e u' w4 ⟨rfl, rfl, hr4, hk4⟩
  refine ⟨_, results_tmp2 rfl _ _ _, rfl, .slice a' (l.length + 1) cp', ?_, ?_, ?_, ?_⟩
  · have e1 : activeOf (l ++ [v]) = activeOf l + liveBal v := by rw [active_append]; simp [activeOf]
    have e2 : totalOf (l ++ [v]) = T + v.bal := by rw [total_append, hTe]; simp [totalOf]
    rw [e1, e2]
    refine ⟨hr4.1, hr4.2.congr (fun q => ?_)⟩
    rw [count_append]
    simp only [upd, countOf]
    by_cases hq : q = v.st
    · subst hq; simp
    · rw [if_neg hq, if_neg (fun e => hq e.symm)]; omega
  · refine owns_same H3.out.2.1 (fun i hi => ?_)
    have h1 : i ≠ b := by rintro rfl; exact H3.out.2.2.2.2.1 hi
    have h2 : i ≠ m := by rintro rfl; exact H3.out.2.2.2.2.2 hi
    have h3 := (H3.out.2.1.lt i hi).2
    rw [hk4.block i (by simpa [World.setCell] using h3) (by rintro (h | h); exact h1 h; exact h2 h)]
    exact Below.heap_setCell _ _ _ _ h1
  · rw [hn0]
    exact H3.out.2.2.2.1
  · exact (H3.out.2.2.1.setCell (.inl (.inl rfl)) _).trans hk4 (fun i _ hi => hi.elim .inl (fun h => .inr (.inl h)))

/-- Add, whatever comes. -/
theorem addv_any (b cap : Nat) (S : Nat → Prop) (l : List Val) (v : Val) (w : World) (h : Reg w b S cap l) (hv : FitsV v) :
    Calls Try.prog 23 #[.pointer (some ⟨b, 0, none⟩), .agg (cellsV v)] w fun e w' =>
      (l.length = cap ∧ e = .returned (.tuple #[.int .i64 (-1), .int .i64 5]) ∧ Below w.heap.size w w') ∨
      (l.length < cap ∧ 18446744073709551615 < totalOf l + v.bal ∧ e = .returned (.tuple #[.int .i64 (-1), .int .i64 10]) ∧ Below w.heap.size w w') ∨
      (l.length < cap ∧ totalOf l + v.bal ≤ 18446744073709551615 ∧ e = .returned (.tuple #[.int .i64 l.length, .int .i64 0]) ∧ ∃ S', Reg w' b S' cap (l ++ [v]) ∧ (∀ i, S' i → S i ∨ w.heap.size ≤ i) ∧ Kept S w w') := by
  obtain ⟨m, s, h1, h2, h3, h4, h5, h6, h7, hS⟩ := h
  obtain ⟨a, cp, rfl, _, _⟩ := owns_slice h2
  obtain ⟨x0, x1, x2, x3, x4⟩ := h1.cells
  by_cases hc : l.length = cap
  · rw [hc] at x1
    exact (addv_full b cap cp a v w x0 x1).mono fun e w' ⟨he, hb⟩ => .inl ⟨hc, he, hb⟩
  · by_cases ht : totalOf l + v.bal ≤ 18446744073709551615
    · refine (addv_ok b cap m _ l v w h1 h2 (by omega) h4 h7 hv ht).mono fun e w' ⟨he, s', r1, r2, r3, r4⟩ => .inr (.inr ⟨by omega, ht, he, fun i => i = b ∨ i = m ∨ s'.ownBlock = some i, ⟨m, s', r1, by simpa using r2, h3, h4, by simp; omega, ?_, ?_, fun i => Iff.rfl⟩, ?_, ?_⟩)
      · rw [total_append]; simp [totalOf]; omega
      · intro x hx
        rcases List.mem_append.1 hx with hx | hx
        · exact h7 x hx
        · obtain rfl := List.mem_singleton.1 hx
          exact hv
      · rintro i (rfl | rfl | hi)
        · exact .inl ((hS _).2 (.inl rfl))
        · exact .inl ((hS _).2 (.inr (.inl rfl)))
        · rcases r3 with r3 | ⟨q, r3, hq⟩
          · exact .inl ((hS i).2 (.inr (.inr (by rw [← r3]; exact hi))))
          · rw [r3] at hi
            injection hi with hi
            exact .inr (by omega)
      · exact r4.more (fun i _ hi => (hS i).2 hi)
    · exact (addv_over b cap cp l.length a (totalOf l) v w x0 x1 x4 (by omega) h4 hv (total_nonneg h7) h6 (by omega)).mono fun e w' ⟨he, hb⟩ => .inr (.inl ⟨by omega, by omega, he, hb⟩)
end Go.Proofs.Ytcmlkcmoailhjaa
