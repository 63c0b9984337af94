/- Set, past the comparison. (mkset.py writes this text.) -/
import Derived.Test.YtcmlkcmoailhjaaSetO
namespace Go.Proofs.Ytcmlkcmoailhjaa
open Go Go.RowKit Go.Deep
set_option linter.unusedVariables false
set_option linter.unusedSimpArgs false

theorem count_upd {l : List Val} {i : Nat} {old : Val} (h : l[i]? = some old) (v : Val) (q : Int) :
    upd (upd (countOf l) old.st (countOf l old.st - 1)) v.st (upd (countOf l) old.st (countOf l old.st - 1) v.st + 1) q = countOf (l.set i v) q := by
  rw [count_set h]
  simp only [upd]
  by_cases e1 : old.st = q
  · subst e1
    by_cases e2 : old.st = v.st
    · rw [← e2]; simp
    · have e3 : ¬ v.st = old.st := fun e => e2 e.symm
      simp [e2, e3]
  · have e4 : ¬ q = old.st := fun e => e1 e.symm
    by_cases e2 : v.st = q
    · subst e2
      simp [e1, e4]
    · have e3 : ¬ q = v.st := fun e => e2 e.symm
      simp [e1, e2, e3, e4]

set_option maxHeartbeats 3200000 in
theorem setv_over (b cap m cp g i : Nat) (l : List Val) (old v : Val) (w : World) (h : RegB w b m (.slice (some ⟨g, 0, none⟩) l.length cp) cap (countOf l) (activeOf l) (totalOf l)) (ho : w.ownsRow 0 29 7 (.slice (some ⟨g, 0, none⟩) l.length cp) l.length (flat l)) (hi : l[i]? = some old)
    (hne : v ≠ old) (hl : l.length ≤ 4096) (hf : ∀ x ∈ l, FitsV x) (hv : FitsV v) (hT1 : totalOf l ≤ 18446744073709551615) (hT : 18446744073709551615 < totalOf l - old.bal + v.bal) :
    Calls Try.prog 24 #[.pointer (some ⟨b, 0, none⟩), .int .i64 i, .agg (cellsV v)] w fun e w' => e = .returned (.int .i64 10) ∧ Kept (fun i => i = b ∨ i = m ∨ i = g) w w' ∧ RegB w' b m (.slice (some ⟨g, 0, none⟩) l.length cp) cap (countOf l) (activeOf l) (totalOf l) ∧ w'.ownsRow 0 29 7 (.slice (some ⟨g, 0, none⟩) l.length cp) l.length (flat l) := by
  obtain ⟨hil, hr, hgb, hgm⟩ := set_start b cap m l.length cp g i l old v w h ho hi
  have ⟨v0, v1⟩ := hv.bal
  have hfo := hf old (List.mem_of_getElem? hi)
  have ⟨o0, o1⟩ := hfo.bal
  have hTo : old.bal ≤ totalOf l ∧ liveBal old ≤ activeOf l ∧ 1 ≤ countOf l old.st ∧ activeOf l - liveBal old ≤ totalOf l - old.bal := by
    have e1 := total_set hi val0
    have e2 := active_set hi val0
    have e3 := count_set hi ⟨0, old.st + 1, false, 0, 0, 0, 0⟩ old.st
    have hset : ∀ x ∈ l.set i val0, FitsV x := fun x hx => by
      rcases List.mem_or_eq_of_mem_set hx with hx | rfl
      · exact hf x hx
      · exact ⟨by decide, by decide⟩
    have a1 := total_nonneg hset
    have a2 := active_le hset
    have a3 := count_bounds (l.set i ⟨0, old.st + 1, false, 0, 0, 0, 0⟩) old.st
    have z1 : val0.bal = 0 := rfl
    have z2 : liveBal val0 = 0 := rfl
    simp only [if_true] at e3
    rw [if_neg (by omega)] at e3
    refine ⟨by omega, by omega, by omega, by omega⟩
  obtain ⟨hA0, hA⟩ := active_le hf
  have hc1 := count_bounds l old.st
  have hc2 := count_bounds l v.st
  have x1 := cell_alloc_some (.cells (cellsV v) 29) (cell_alloc_some (.cells #[.pointer (some ⟨b, 0, none⟩)] 23) h.cells.2.1)
  have HR : Hid (((w.alloc (.cells #[.pointer (some ⟨b, 0, none⟩)] 23)).alloc (.cells (cellsV v) 29)).rangeAt g (i * 7) old.row) := Lib.hid (fun j u hu => cell_alloc_some _ (cell_alloc_some _ (hr j u hu)))
  have H := Lib.hid (has_in b l.length cp i _ ((w.alloc (.cells #[.pointer (some ⟨b, 0, none⟩)] 23)).alloc (.cells (cellsV v) 29)) x1 hil)
  have HE : Hid (Blk ((w.alloc (.cells #[.pointer (some ⟨b, 0, none⟩)] 23)).alloc (.cells (cellsV v) 29)) (w.heap.size + 1) 29 (cellsV v)) := Lib.hid (by have := Blk.new (w.alloc (.cells #[.pointer (some ⟨b, 0, none⟩)] 23)) 29 (cellsV v); simpa using this)
  have HP : Hid (Blk ((w.alloc (.cells #[.pointer (some ⟨b, 0, none⟩)] 23)).alloc (.cells (cellsV v) 29)) w.heap.size 23 #[.pointer (some ⟨b, 0, none⟩)]) := Lib.hid (Blk.alloc (Blk.new w _ _) _)
  have cR := HP.out.cell 0
  have HG := Lib.hid ((h.alloc (.cells #[.pointer (some ⟨b, 0, none⟩)] 23)).alloc (.cells (cellsV v) 29))
  have HO := Lib.hid ((ho.alloc (.cells #[.pointer (some ⟨b, 0, none⟩)] 23)).alloc (.cells (cellsV v) 29))
  have HK : Hid (Kept (fun i => i = b ∨ i = m ∨ i = g) w ((w.alloc (.cells #[.pointer (some ⟨b, 0, none⟩)] 23)).alloc (.cells (cellsV v) 29))) := Lib.hid (((Kept.refl _ w).alloc _).alloc _)
  have hgl : g < w.heap.size := (ho.lt g rfl).2
  have hbl := h.1.lt
  have hml := h.2.lt
  have hsz : ((w.alloc (.cells #[.pointer (some ⟨b, 0, none⟩)] 23)).alloc (.cells (cellsV v) 29)).heap.size = w.heap.size + 2 := by simp
  have hi1 : ¬ (i : Int) < 0 := by omega
  have hi2 : ¬ (l.length : Int) ≤ (i : Int) := by omega
  have hi3 : (i : Int) < (l.length : Int) := by omega
  have HI := Lib.hid hi
  have HNE := Lib.hid hne
  have HFO := Lib.hid hfo
  have HV := Lib.hid hv
  obtain ⟨T, hTe⟩ : ∃ T, totalOf l = T := ⟨_, rfl⟩
  obtain ⟨A, hAe⟩ : ∃ A, activeOf l = A := ⟨_, rfl⟩
  rw [hTe, hAe] at hTo
  rw [hTe] at hT hT1 hA HG
  rw [hAe] at hA0 hA HG
  have hT0 : 0 ≤ T := by omega
  have HTE := Lib.hid hTe
  have HAE := Lib.hid hAe
  obtain ⟨n0, hn0⟩ : ∃ n, w.heap.size = n := ⟨_, rfl⟩
  have HN0 := Lib.hid hn0
  rw [hn0] at HE HP cR hgl hbl hml hsz
  have hob := hTo.1
  have HSZ := Lib.hid hsz
  clear hsz
  clear h ho hi hr hf hne hfo hv hTe hAe
  go_enter_defers Try.func24, Try.ntmps24
  go_wp2_with fail
  generalize ((w.alloc (.cells #[.pointer (some ⟨b, 0, none⟩)] 23)).alloc (.cells (cellsV v) 29)) = W at *
  refine H.out.mono ?_
  rintro e w1 ⟨rfl, rfl⟩
  have HE2 : Hid (Blk (W.alloc (.cells (cellsV old) 29)) (n0 + 1) 29 (cellsV v)) := Lib.hid (HE.out.alloc _)
  have HN2 : Hid (Blk (W.alloc (.cells (cellsV old) 29)) W.heap.size 29 (cellsV old)) := Lib.hid (Blk.new _ _ _)
  go_wp2_with (first | (refine wpList_valG (.bool false) rfl (exec_eqv rfl rfl (by simp [HNE.out])) ?_) | (refine wpList_load_val rfl 29 _ rfl g (i * 7) rfl old _ HR.out Try.underlying29 rfl infoV ?_) | (refine wpList_store_row rfl _ _ _ rfl W.heap.size (cellsV old) rfl rfl 29 _ (heap_alloc_new W _) infoV rfl (cellsV_one old) ?_; rw [World.setRow_alloc_new]) | (refine wpList_load_val rfl 29 _ rfl (n0 + 1) 0 rfl v _ HE2.out.range Try.underlying29 rfl infoV ?_) | (refine wpList_load_val rfl 29 _ rfl W.heap.size 0 rfl old _ HN2.out.range Try.underlying29 rfl infoV ?_))
  have HP2 : Hid (Blk (W.alloc (.cells (cellsV old) 29)) n0 23 #[.pointer (some ⟨b, 0, none⟩)]) := Lib.hid (HP.out.alloc _)
  have HG2 := Lib.hid (HG.out.alloc (.cells (cellsV old) 29))
  have HO2 := Lib.hid (HO.out.alloc (.cells (cellsV old) 29))
  have HK2 := Lib.hid (HK.out.alloc (.cells (cellsV old) 29))
  have hsz2 : (W.alloc (.cells (cellsV old) 29)).heap.size = n0 + 3 := by have := HSZ.out; simp; omega
  have S1 : (W.alloc (.cells (cellsV old) 29)).cell? ⟨n0, 0, none⟩ = some (.pointer (some ⟨b, 0, none⟩)) ∧ (W.alloc (.cells (cellsV old) 29)).cell? ⟨b, 4, none⟩ = some (.int .u64 T) ∧ (W.alloc (.cells (cellsV old) 29)).cell? ⟨n0 + 2, 0, none⟩ = some (.int .u64 old.bal) ∧ (W.alloc (.cells (cellsV old) 29)).cell? ⟨n0 + 1, 0, none⟩ = some (.int .u64 v.bal) :=
    ⟨HP2.out.cell 0, HG2.out.cells.2.2.2.2, by rw [← HSZ.out]; exact HN2.out.cell 0, HE2.out.cell 0⟩
  have HS1 := Lib.hid S1
  rw [HSZ.out] at HN2
  simp only [HSZ.out]
  clear HE HP HG HO HK cR x1 H HR S1
  generalize W.alloc (.cells (cellsV old) 29) = W2 at *
  refine wp_region_first (fun _ => True) 15 15 [] (by kernel_rfl) (by kernel_rfl) trivial ?_
  refine wpQuiet_nil ?_
  refine headF_takes (fun w' => w'.cell? ⟨n0, 0, none⟩ = some (.pointer (some ⟨b, 0, none⟩)) ∧ w'.cell? ⟨b, 4, none⟩ = some (.int .u64 T) ∧ w'.cell? ⟨n0 + 2, 0, none⟩ = some (.int .u64 old.bal) ∧ w'.cell? ⟨n0 + 1, 0, none⟩ = some (.int .u64 v.bal)) (m := 15) (f := 6) [0, 1, 2, 3, 4, 5, 6, 7, 8] (fun _ _ => trivial) (by kernel_rfl) HS1.out ?_
  simp only [List.filterMap_cons, List.filterMap_nil, List.getElem?_toArray, List.getElem?_cons_zero, List.getElem?_cons_succ]
  show wpQuiet _ _ _ _ [_, _, _, _, _, _, _, _, _] _
  refine q_cell 23 _ _ (.pointer (some ⟨b, 0, none⟩)) rfl rfl rfl (fun w h => by simp [go_sem, h]) (fun w h => h.1) ?_
  simp only [Act.put, List.setIfInBounds_toArray, List.set_cons_zero, List.set_cons_succ]
  iterate 2 (go_big_quiet_step ((intros; rfl)))
  refine q_cell 27 _ _ (.int .u64 T) rfl rfl rfl (fun w h => by simp [go_sem, h]) (fun w h => h.2.1) ?_
  simp only [Act.put, List.setIfInBounds_toArray, List.set_cons_zero, List.set_cons_succ]
  iterate 1 (go_big_quiet_step ((intros; rfl)))
  refine q_cell 27 _ _ (.int .u64 old.bal) rfl rfl rfl (fun w h => by simp [go_sem, h]) (fun w h => h.2.2.1) ?_
  simp only [Act.put, List.setIfInBounds_toArray, List.set_cons_zero, List.set_cons_succ]
  iterate 2 (go_big_quiet_step ((intros; rfl)))
  refine q_cell 27 _ _ (.int .u64 v.bal) rfl rfl rfl (fun w h => by simp [go_sem, h]) (fun w h => h.2.2.2) ?_
  simp only [Act.put, List.setIfInBounds_toArray, List.set_cons_zero, List.set_cons_succ]
  refine wpQuiet_nil ?_
  refine headF_one (i := 9) (by kernel_rfl) (by omega) ?_
  refine wpOp_at rfl rfl (wp_buildSlice_two 60 27 (.tmp 33) (.tmp 35) _ _ (.int .u64 (T - old.bal)) (.int .u64 v.bal) rfl rfl rfl Try.underlying60 u64_info rfl rfl rfl ⟨⟨cell_alloc_some _ HS1.out.1, cell_alloc_some _ HS1.out.2.1, cell_alloc_some _ HS1.out.2.2.1, cell_alloc_some _ HS1.out.2.2.2⟩, ?_⟩)
  refine headF_one (i := 10) (by kernel_rfl) (by omega) ?_
  simp only [Act.put, List.getElem_toArray, List.getElem_cons_zero, List.getElem_cons_succ, List.setIfInBounds_toArray, List.set_cons_zero, List.set_cons_succ]
  refine wpOp_at rfl rfl (wp_call_at rfl #[.slice (some ⟨W2.drew.heap.size, 0, none⟩) 2 2] (by kernel_rfl) Try.call31 ((add2_not W2.drew.heap.size (T - old.bal) v.bal _ (Blk.new W2.drew _ _) (by omega) (by omega) v0 v1 (by omega)).mono ?_))
  rintro e w3 ⟨rfl, hw3⟩
  have S3 : w3.cell? ⟨n0, 0, none⟩ = some (.pointer (some ⟨b, 0, none⟩)) ∧ w3.cell? ⟨b, 4, none⟩ = some (.int .u64 T) ∧ w3.cell? ⟨n0 + 2, 0, none⟩ = some (.int .u64 old.bal) ∧ w3.cell? ⟨n0 + 1, 0, none⟩ = some (.int .u64 v.bal) := by rw [← hw3]; exact ⟨cell_alloc_some _ HS1.out.1, cell_alloc_some _ HS1.out.2.1, cell_alloc_some _ HS1.out.2.2.1, cell_alloc_some _ HS1.out.2.2.2⟩
  refine ⟨_, rfl, S3, ?_⟩
  have HZ : Hid (Kept (fun i => i = b ∨ i = m ∨ i = g) w w3 ∧ RegB w3 b m (.slice (some ⟨g, 0, none⟩) l.length cp) cap (countOf l) A T ∧ w3.ownsRow 0 29 7 (.slice (some ⟨g, 0, none⟩) l.length cp) l.length (flat l)) := Lib.hid (hw3 ▸ ⟨HK2.out.drew.alloc _, (HG2.out.drewN 1).alloc _, World.ownsRow.alloc (w := W2.drew) HO2.out _⟩)
  clear hw3
  simp only [Act.put, List.getElem_toArray, List.getElem_cons_zero, List.getElem_cons_succ, List.setIfInBounds_toArray, List.set_cons_zero, List.set_cons_succ]
  refine headF_takes (fun w' => w'.cell? ⟨n0, 0, none⟩ = some (.pointer (some ⟨b, 0, none⟩)) ∧ w'.cell? ⟨b, 4, none⟩ = some (.int .u64 T) ∧ w'.cell? ⟨n0 + 2, 0, none⟩ = some (.int .u64 old.bal) ∧ w'.cell? ⟨n0 + 1, 0, none⟩ = some (.int .u64 v.bal)) (m := 4) (f := 0) [11, 12, 13, 14] (fun _ h => h) (by kernel_rfl) S3 ?_
  simp only [List.filterMap_cons, List.filterMap_nil, List.getElem?_toArray, List.getElem?_cons_zero, List.getElem?_cons_succ]
  show wpQuiet _ _ _ _ [_, _, _, _] _
  iterate 4 (go_big_quiet_step ((intros; rfl)))
  refine wpQuiet_nil ?_
  show Region.seqB _ _ _ _ _ = true ∧ _
  refine ⟨by kernel_rfl, ?_⟩
  simp only [Act.put, List.getElem_toArray, List.getElem_cons_zero, List.getElem_cons_succ, List.setIfInBounds_toArray, List.set_cons_zero, List.set_cons_succ, List.drop_succ_cons, List.drop_zero]
  clear S3 HS1
  go_wp2
  refine NoPanic.normal ?_
  go_wp2
  refine ⟨_, results_tmp rfl _ _ _, rfl, ?_⟩
  rw [HTE.out, HAE.out]
  exact HZ.out
set_option maxHeartbeats 3200000 in
theorem setv_ok (b cap m cp g i : Nat) (l : List Val) (old v : Val) (w : World) (h : RegB w b m (.slice (some ⟨g, 0, none⟩) l.length cp) cap (countOf l) (activeOf l) (totalOf l)) (ho : w.ownsRow 0 29 7 (.slice (some ⟨g, 0, none⟩) l.length cp) l.length (flat l)) (hi : l[i]? = some old)
    (hne : v ≠ old) (hl : l.length ≤ 4096) (hf : ∀ x ∈ l, FitsV x) (hv : FitsV v) (hT1 : totalOf l ≤ 18446744073709551615) (hT : totalOf l - old.bal + v.bal ≤ 18446744073709551615) :
    Calls Try.prog 24 #[.pointer (some ⟨b, 0, none⟩), .int .i64 i, .agg (cellsV v)] w fun e w' => e = .returned (.int .i64 0) ∧ Kept (fun i => i = b ∨ i = m ∨ i = g) w w' ∧ RegB w' b m (.slice (some ⟨g, 0, none⟩) l.length cp) cap (countOf (l.set i v)) (activeOf (l.set i v)) (totalOf (l.set i v)) ∧ w'.ownsRow 0 29 7 (.slice (some ⟨g, 0, none⟩) l.length cp) l.length (flat (l.set i v)) := by
  obtain ⟨hil, hr, hgb, hgm⟩ := set_start b cap m l.length cp g i l old v w h ho hi
  have ⟨v0, v1⟩ := hv.bal
  have hfo := hf old (List.mem_of_getElem? hi)
  have ⟨o0, o1⟩ := hfo.bal
  have hTo : old.bal ≤ totalOf l ∧ liveBal old ≤ activeOf l ∧ 1 ≤ countOf l old.st ∧ activeOf l - liveBal old ≤ totalOf l - old.bal := by
    have e1 := total_set hi val0
    have e2 := active_set hi val0
    have e3 := count_set hi ⟨0, old.st + 1, false, 0, 0, 0, 0⟩ old.st
    have hset : ∀ x ∈ l.set i val0, FitsV x := fun x hx => by
      rcases List.mem_or_eq_of_mem_set hx with hx | rfl
      · exact hf x hx
      · exact ⟨by decide, by decide⟩
    have a1 := total_nonneg hset
    have a2 := active_le hset
    have a3 := count_bounds (l.set i ⟨0, old.st + 1, false, 0, 0, 0, 0⟩) old.st
    have z1 : val0.bal = 0 := rfl
    have z2 : liveBal val0 = 0 := rfl
    simp only [if_true] at e3
    rw [if_neg (by omega)] at e3
    refine ⟨by omega, by omega, by omega, by omega⟩
  obtain ⟨hA0, hA⟩ := active_le hf
  have hc1 := count_bounds l old.st
  have hc2 := count_bounds l v.st
  have x1 := cell_alloc_some (.cells (cellsV v) 29) (cell_alloc_some (.cells #[.pointer (some ⟨b, 0, none⟩)] 23) h.cells.2.1)
  have HR : Hid (((w.alloc (.cells #[.pointer (some ⟨b, 0, none⟩)] 23)).alloc (.cells (cellsV v) 29)).rangeAt g (i * 7) old.row) := Lib.hid (fun j u hu => cell_alloc_some _ (cell_alloc_some _ (hr j u hu)))
  have H := Lib.hid (has_in b l.length cp i _ ((w.alloc (.cells #[.pointer (some ⟨b, 0, none⟩)] 23)).alloc (.cells (cellsV v) 29)) x1 hil)
  have HE : Hid (Blk ((w.alloc (.cells #[.pointer (some ⟨b, 0, none⟩)] 23)).alloc (.cells (cellsV v) 29)) (w.heap.size + 1) 29 (cellsV v)) := Lib.hid (by have := Blk.new (w.alloc (.cells #[.pointer (some ⟨b, 0, none⟩)] 23)) 29 (cellsV v); simpa using this)
  have HP : Hid (Blk ((w.alloc (.cells #[.pointer (some ⟨b, 0, none⟩)] 23)).alloc (.cells (cellsV v) 29)) w.heap.size 23 #[.pointer (some ⟨b, 0, none⟩)]) := Lib.hid (Blk.alloc (Blk.new w _ _) _)
  have cR := HP.out.cell 0
  have HG := Lib.hid ((h.alloc (.cells #[.pointer (some ⟨b, 0, none⟩)] 23)).alloc (.cells (cellsV v) 29))
  have HO := Lib.hid ((ho.alloc (.cells #[.pointer (some ⟨b, 0, none⟩)] 23)).alloc (.cells (cellsV v) 29))
  have HK : Hid (Kept (fun i => i = b ∨ i = m ∨ i = g) w ((w.alloc (.cells #[.pointer (some ⟨b, 0, none⟩)] 23)).alloc (.cells (cellsV v) 29))) := Lib.hid (((Kept.refl _ w).alloc _).alloc _)
  have hgl : g < w.heap.size := (ho.lt g rfl).2
  have hbl := h.1.lt
  have hml := h.2.lt
  have hsz : ((w.alloc (.cells #[.pointer (some ⟨b, 0, none⟩)] 23)).alloc (.cells (cellsV v) 29)).heap.size = w.heap.size + 2 := by simp
  have hi1 : ¬ (i : Int) < 0 := by omega
  have hi2 : ¬ (l.length : Int) ≤ (i : Int) := by omega
  have hi3 : (i : Int) < (l.length : Int) := by omega
  have HI := Lib.hid hi
  have HNE := Lib.hid hne
  have HFO := Lib.hid hfo
  have HV := Lib.hid hv
  obtain ⟨T, hTe⟩ : ∃ T, totalOf l = T := ⟨_, rfl⟩
  obtain ⟨A, hAe⟩ : ∃ A, activeOf l = A := ⟨_, rfl⟩
  rw [hTe, hAe] at hTo
  rw [hTe] at hT hT1 hA HG
  rw [hAe] at hA0 hA HG
  have hT0 : 0 ≤ T := by omega
  have HTE := Lib.hid hTe
  have HAE := Lib.hid hAe
  obtain ⟨n0, hn0⟩ : ∃ n, w.heap.size = n := ⟨_, rfl⟩
  have HN0 := Lib.hid hn0
  rw [hn0] at HE HP cR hgl hbl hml hsz
  have hob := hTo.1
  have HSZ := Lib.hid hsz
  clear hsz
  clear h ho hi hr hf hne hfo hv hTe hAe
  go_enter_defers Try.func24, Try.ntmps24
  go_wp2_with fail
  generalize ((w.alloc (.cells #[.pointer (some ⟨b, 0, none⟩)] 23)).alloc (.cells (cellsV v) 29)) = W at *
  refine H.out.mono ?_
  rintro e w1 ⟨rfl, rfl⟩
  have HE2 : Hid (Blk (W.alloc (.cells (cellsV old) 29)) (n0 + 1) 29 (cellsV v)) := Lib.hid (HE.out.alloc _)
  have HN2 : Hid (Blk (W.alloc (.cells (cellsV old) 29)) W.heap.size 29 (cellsV old)) := Lib.hid (Blk.new _ _ _)
  go_wp2_with (first | (refine wpList_valG (.bool false) rfl (exec_eqv rfl rfl (by simp [HNE.out])) ?_) | (refine wpList_load_val rfl 29 _ rfl g (i * 7) rfl old _ HR.out Try.underlying29 rfl infoV ?_) | (refine wpList_store_row rfl _ _ _ rfl W.heap.size (cellsV old) rfl rfl 29 _ (heap_alloc_new W _) infoV rfl (cellsV_one old) ?_; rw [World.setRow_alloc_new]) | (refine wpList_load_val rfl 29 _ rfl (n0 + 1) 0 rfl v _ HE2.out.range Try.underlying29 rfl infoV ?_) | (refine wpList_load_val rfl 29 _ rfl W.heap.size 0 rfl old _ HN2.out.range Try.underlying29 rfl infoV ?_))
  have HP2 : Hid (Blk (W.alloc (.cells (cellsV old) 29)) n0 23 #[.pointer (some ⟨b, 0, none⟩)]) := Lib.hid (HP.out.alloc _)
  have HG2 := Lib.hid (HG.out.alloc (.cells (cellsV old) 29))
  have HO2 := Lib.hid (HO.out.alloc (.cells (cellsV old) 29))
  have HK2 := Lib.hid (HK.out.alloc (.cells (cellsV old) 29))
  have hsz2 : (W.alloc (.cells (cellsV old) 29)).heap.size = n0 + 3 := by have := HSZ.out; simp; omega
  have S1 : (W.alloc (.cells (cellsV old) 29)).cell? ⟨n0, 0, none⟩ = some (.pointer (some ⟨b, 0, none⟩)) ∧ (W.alloc (.cells (cellsV old) 29)).cell? ⟨b, 4, none⟩ = some (.int .u64 T) ∧ (W.alloc (.cells (cellsV old) 29)).cell? ⟨n0 + 2, 0, none⟩ = some (.int .u64 old.bal) ∧ (W.alloc (.cells (cellsV old) 29)).cell? ⟨n0 + 1, 0, none⟩ = some (.int .u64 v.bal) :=
    ⟨HP2.out.cell 0, HG2.out.cells.2.2.2.2, by rw [← HSZ.out]; exact HN2.out.cell 0, HE2.out.cell 0⟩
  have HS1 := Lib.hid S1
  rw [HSZ.out] at HN2
  simp only [HSZ.out]
  clear HE HP HG HO HK cR x1 H HR S1
  generalize W.alloc (.cells (cellsV old) 29) = W2 at *
  refine wp_region_first (fun _ => True) 15 15 [] (by kernel_rfl) (by kernel_rfl) trivial ?_
  refine wpQuiet_nil ?_
  refine headF_takes (fun w' => w'.cell? ⟨n0, 0, none⟩ = some (.pointer (some ⟨b, 0, none⟩)) ∧ w'.cell? ⟨b, 4, none⟩ = some (.int .u64 T) ∧ w'.cell? ⟨n0 + 2, 0, none⟩ = some (.int .u64 old.bal) ∧ w'.cell? ⟨n0 + 1, 0, none⟩ = some (.int .u64 v.bal)) (m := 15) (f := 6) [0, 1, 2, 3, 4, 5, 6, 7, 8] (fun _ _ => trivial) (by kernel_rfl) HS1.out ?_
  simp only [List.filterMap_cons, List.filterMap_nil, List.getElem?_toArray, List.getElem?_cons_zero, List.getElem?_cons_succ]
  show wpQuiet _ _ _ _ [_, _, _, _, _, _, _, _, _] _
  refine q_cell 23 _ _ (.pointer (some ⟨b, 0, none⟩)) rfl rfl rfl (fun w h => by simp [go_sem, h]) (fun w h => h.1) ?_
  simp only [Act.put, List.setIfInBounds_toArray, List.set_cons_zero, List.set_cons_succ]
  iterate 2 (go_big_quiet_step ((intros; rfl)))
  refine q_cell 27 _ _ (.int .u64 T) rfl rfl rfl (fun w h => by simp [go_sem, h]) (fun w h => h.2.1) ?_
  simp only [Act.put, List.setIfInBounds_toArray, List.set_cons_zero, List.set_cons_succ]
  iterate 1 (go_big_quiet_step ((intros; rfl)))
  refine q_cell 27 _ _ (.int .u64 old.bal) rfl rfl rfl (fun w h => by simp [go_sem, h]) (fun w h => h.2.2.1) ?_
  simp only [Act.put, List.setIfInBounds_toArray, List.set_cons_zero, List.set_cons_succ]
  iterate 2 (go_big_quiet_step ((intros; rfl)))
  refine q_cell 27 _ _ (.int .u64 v.bal) rfl rfl rfl (fun w h => by simp [go_sem, h]) (fun w h => h.2.2.2) ?_
  simp only [Act.put, List.setIfInBounds_toArray, List.set_cons_zero, List.set_cons_succ]
  refine wpQuiet_nil ?_
  refine headF_one (i := 9) (by kernel_rfl) (by omega) ?_
  refine wpOp_at rfl rfl (wp_buildSlice_two 60 27 (.tmp 33) (.tmp 35) _ _ (.int .u64 (T - old.bal)) (.int .u64 v.bal) rfl rfl rfl Try.underlying60 u64_info rfl rfl rfl ⟨⟨cell_alloc_some _ HS1.out.1, cell_alloc_some _ HS1.out.2.1, cell_alloc_some _ HS1.out.2.2.1, cell_alloc_some _ HS1.out.2.2.2⟩, ?_⟩)
  refine headF_one (i := 10) (by kernel_rfl) (by omega) ?_
  simp only [Act.put, List.getElem_toArray, List.getElem_cons_zero, List.getElem_cons_succ, List.setIfInBounds_toArray, List.set_cons_zero, List.set_cons_succ]
  refine wpOp_at rfl rfl (wp_call_at rfl #[.slice (some ⟨W2.drew.heap.size, 0, none⟩) 2 2] (by kernel_rfl) Try.call31 ((add2_yes W2.drew.heap.size (T - old.bal) v.bal _ (Blk.new W2.drew _ _) (by omega) v0 hT).mono ?_))
  rintro e w3 ⟨rfl, hw3⟩
  have S3 : w3.cell? ⟨n0, 0, none⟩ = some (.pointer (some ⟨b, 0, none⟩)) ∧ w3.cell? ⟨b, 4, none⟩ = some (.int .u64 T) ∧ w3.cell? ⟨n0 + 2, 0, none⟩ = some (.int .u64 old.bal) ∧ w3.cell? ⟨n0 + 1, 0, none⟩ = some (.int .u64 v.bal) := by rw [← hw3]; exact ⟨cell_alloc_some _ HS1.out.1, cell_alloc_some _ HS1.out.2.1, cell_alloc_some _ HS1.out.2.2.1, cell_alloc_some _ HS1.out.2.2.2⟩
  refine ⟨_, rfl, S3, ?_⟩
  have HZ : Hid (Kept (fun i => i = b ∨ i = m ∨ i = g) w w3 ∧ RegB w3 b m (.slice (some ⟨g, 0, none⟩) l.length cp) cap (countOf l) A T ∧ w3.ownsRow 0 29 7 (.slice (some ⟨g, 0, none⟩) l.length cp) l.length (flat l) ∧ Blk w3 n0 23 #[.pointer (some ⟨b, 0, none⟩)] ∧ Blk w3 (n0 + 1) 29 (cellsV v) ∧ Blk w3 (n0 + 2) 29 (cellsV old)) :=
    Lib.hid (hw3 ▸ ⟨HK2.out.drew.alloc _, (HG2.out.drewN 1).alloc _, World.ownsRow.alloc (w := W2.drew) HO2.out _, Blk.alloc (Blk.drew HP2.out) _, Blk.alloc (Blk.drew HE2.out) _, Blk.alloc (Blk.drew HN2.out) _⟩)
  clear HK2 HG2 HO2 HP2 HE2 HN2
  clear hw3
  simp only [Act.put, List.getElem_toArray, List.getElem_cons_zero, List.getElem_cons_succ, List.setIfInBounds_toArray, List.set_cons_zero, List.set_cons_succ]
  refine headF_takes (fun w' => w'.cell? ⟨n0, 0, none⟩ = some (.pointer (some ⟨b, 0, none⟩)) ∧ w'.cell? ⟨b, 4, none⟩ = some (.int .u64 T) ∧ w'.cell? ⟨n0 + 2, 0, none⟩ = some (.int .u64 old.bal) ∧ w'.cell? ⟨n0 + 1, 0, none⟩ = some (.int .u64 v.bal)) (m := 4) (f := 0) [11, 12, 13, 14] (fun _ h => h) (by kernel_rfl) S3 ?_
  simp only [List.filterMap_cons, List.filterMap_nil, List.getElem?_toArray, List.getElem?_cons_zero, List.getElem?_cons_succ]
  show wpQuiet _ _ _ _ [_, _, _, _] _
  iterate 4 (go_big_quiet_step ((intros; rfl)))
  refine wpQuiet_nil ?_
  show Region.seqB _ _ _ _ _ = true ∧ _
  refine ⟨by kernel_rfl, ?_⟩
  simp only [Act.put, List.getElem_toArray, List.getElem_cons_zero, List.getElem_cons_succ, List.setIfInBounds_toArray, List.set_cons_zero, List.set_cons_succ, List.drop_succ_cons, List.drop_zero]
  clear S3 HS1
  have hmf : ∀ (fn : Fn) (first cap : Array Value) (w : World), (Instr.makeFunc fn first cap).run Try.prog w = .ok (.func fn first cap) w := fun _ _ _ _ => rfl
  go_wp2
  refine NoPanic.normal ?_
  go_wp2
  clear hmf
  have d0 := HZ.out.2.2.2.1.cell 0
  have d1 := HZ.out.2.1.cells.2.1
  refine wp_region_quiet_tail 7 (by kernel_rfl) (by kernel_rfl) ?_
  simp only [List.take_succ_cons, List.take_zero, List.drop_succ_cons, List.drop_zero]
  iterate 5 (go_big_quiet_step (fail))
  refine q_load_val 29 (.tmp 5) (n0 + 1) 0 v _ rfl rfl rfl (fun w h => by obtain ⟨n, rfl⟩ := h; exact (Blk.drewN HZ.out.2.2.2.2.1 n).range) Try.underlying29 rfl infoV ?_
  simp only [Act.put, List.setIfInBounds_toArray, List.set_cons_zero, List.set_cons_succ]
  repeat (go_big_quiet_step (fail))
  refine wpQuiet_nil ?_
  intro _ hw'
  obtain ⟨n1, hw''⟩ := hw'
  subst hw''
  obtain ⟨hos, hth⟩ := owns_set (w := w3.drewN n1) HZ.out.2.2.1 HI.out v
  have hos := Lib.hid hos
  refine wpList_store_mid rfl 29 _ _ rfl g (i * 7) (cellsV v) rfl rfl hth infoV (cellsV_one v) ?_
  have hk5 : Kept (fun i => i = g) (w3.drewN n1) ((w3.drewN n1).setCells g (i * 7) (cellsV v).toList) := Kept.setCells _ _ _ (Kept.refl _ _) (.inl rfl)
  have H5 : Hid (RegB ((w3.drewN n1).setCells g (i * 7) (cellsV v).toList) b m (.slice (some ⟨g, 0, none⟩) l.length cp) cap (countOf l) A T ∧ ((w3.drewN n1).setCells g (i * 7) (cellsV v).toList).ownsRow 0 29 7 (.slice (some ⟨g, 0, none⟩) l.length cp) l.length (flat (l.set i v)) ∧ Kept (fun i => i = b ∨ i = m ∨ i = g) w ((w3.drewN n1).setCells g (i * 7) (cellsV v).toList) ∧
      Blk ((w3.drewN n1).setCells g (i * 7) (cellsV v).toList) n0 23 #[.pointer (some ⟨b, 0, none⟩)] ∧ Blk ((w3.drewN n1).setCells g (i * 7) (cellsV v).toList) (n0 + 1) 29 (cellsV v) ∧ Blk ((w3.drewN n1).setCells g (i * 7) (cellsV v).toList) (n0 + 2) 29 (cellsV old)) :=
    Lib.hid ⟨(HZ.out.2.1.drewN n1).same (hk5.block b (HZ.out.2.1.1.lt) (fun e => hgb e.symm)) (hk5.block m (HZ.out.2.1.2.lt) (fun e => hgm e.symm)), hos.out, (HZ.out.1.drewN n1).trans hk5 (fun _ _ e => .inr (.inr e)),
      (Blk.drewN HZ.out.2.2.2.1 n1).kept hk5 (by omega), (Blk.drewN HZ.out.2.2.2.2.1 n1).kept hk5 (by omega), (Blk.drewN HZ.out.2.2.2.2.2 n1).kept hk5 (by omega)⟩
  clear hk5 hth d0 d1
  generalize (w3.drewN n1).setCells g (i * 7) (cellsV v).toList = W5 at *
  have HC := Lib.hid (closure_any b m cap n0 (n0 + 2) (n0 + 1) _ (countOf l) A T old v W5 H5.out.1 H5.out.2.2.2.1 H5.out.2.2.2.2.2 H5.out.2.2.2.2.1 HFO.out HV.out hTo.2.1 hA hTo.2.2.2 hob hT1 hT hTo.2.2.1 (by omega) hc2.1 (by omega))
  have HOS := Lib.hid H5.out.2.1
  go_wp2
  refine leaves_cons (f := 33) (args := #[.pointer (some ⟨n0, 0, none⟩), .pointer (some ⟨n0 + 2, 0, none⟩), .pointer (some ⟨n0 + 1, 0, none⟩)]) (by simp) (by simp [go_sem]) ?_
  refine (HC.out.2 _).mono ?_
  rintro e u' w6 ⟨rfl, rfl, hr6, hk6⟩
  refine ⟨_, results_tmp rfl _ _ _, rfl, H5.out.2.2.1.trans hk6 (fun _ _ h => h.elim .inl (fun h => .inr (.inl h))), ?_, ?_⟩
  · have e1 : activeOf (l.set i v) = A - liveBal old + liveBal v := by rw [active_set HI.out, HAE.out]
    have e2 : totalOf (l.set i v) = T - old.bal + v.bal := by rw [total_set HI.out, HTE.out]
    rw [e1, e2]
    exact ⟨hr6.1, hr6.2.congr (fun q => count_upd HI.out v q)⟩
  · exact owns_same H5.out.2.1 (fun j hj => by
      injection hj with hj
      subst hj
      exact hk6.block _ ((H5.out.2.1.lt _ rfl).2) (by rintro (h | h); exact hgb h; exact hgm h))
/-- Set, whatever comes. -/
theorem setv_any (b cap : Nat) (S : Nat → Prop) (i : Int) (l : List Val) (v : Val) (w : World) (h : Reg w b S cap l) (hv : FitsV v) :
    Calls Try.prog 24 #[.pointer (some ⟨b, 0, none⟩), .int .i64 i, .agg (cellsV v)] w fun e w' =>
      ((i < 0 ∨ l.length ≤ i) ∧ e = .returned (.int .i64 7) ∧ Reg w' b S cap l ∧ Kept S w w') ∨
      ∃ (k : Nat) (old : Val), i = k ∧ l[k]? = some old ∧ ((totalOf l - old.bal + v.bal ≤ 18446744073709551615 ∧ e = .returned (.int .i64 0) ∧ Reg w' b S cap (l.set k v) ∧ Kept S w w') ∨ (18446744073709551615 < totalOf l - old.bal + v.bal ∧ e = .returned (.int .i64 10) ∧ Reg w' b S cap l ∧ Kept S w w')) := by
  have hreg := h
  obtain ⟨m, s, h1, h2, h3, h4, h5, h6, h7, hS⟩ := h
  obtain ⟨a, cp, rfl, _, _⟩ := owns_slice h2
  by_cases ho : i < 0 ∨ (l.length : Int) ≤ i
  · exact (setv_index b l.length cp a i v w h1.cells.2.1 ho).mono fun e w' ⟨he, hb⟩ => .inl ⟨ho, he, hreg.below hb, Kept.of_below hb⟩
  · obtain ⟨k, rfl⟩ : ∃ k : Nat, i = k := ⟨i.toNat, by omega⟩
    have hk : k < l.length := by omega
    obtain ⟨old, hold⟩ : ∃ old, l[k]? = some old := ⟨_, List.getElem?_eq_getElem hk⟩
    obtain ⟨g, rfl⟩ : ∃ g, a = some ⟨g, 0, none⟩ := by
      rcases h2.2 with ⟨_, h9⟩ | ⟨g, _, _, h9, _⟩
      · omega
      · injection h9 with h9; exact ⟨g, h9⟩
    have hown : ∀ i, (Value.slice (some ⟨g, 0, none⟩) l.length cp).ownBlock = some i ↔ i = g := fun i => by simp [Value.ownBlock, eq_comm]
    have hmore : ∀ w', Kept (fun i => i = b ∨ i = m ∨ i = g) w w' → Kept S w w' := fun w' hk => hk.more (fun i _ hi => (hS i).2 (hi.imp id (Or.imp id (fun e => (hown i).2 e))))
    by_cases he : v = old
    · subst he
      have hset : l.set k v = l := by
        refine List.ext_getElem? fun j => ?_
        rw [List.getElem?_set]
        split
        · rename_i hj; subst hj; rw [hold]; try simp [hk]
        · rfl
      exact (setv_same b cap m cp g k l v w h1 h2 hold).mono fun e w' ⟨he, hb⟩ => .inr ⟨k, v, rfl, hold, .inl ⟨by omega, he, by rw [hset]; exact hreg.below hb, Kept.of_below hb⟩⟩
    · by_cases ht : totalOf l - old.bal + v.bal ≤ 18446744073709551615
      · refine (setv_ok b cap m cp g k l old v w h1 h2 hold he (by omega) h7 hv h6 ht).mono fun e w' ⟨he, hk', r1, r2⟩ => .inr ⟨k, old, rfl, hold, .inl ⟨ht, he, ⟨m, _, r1, by simpa using r2, h3, h4, by simpa using h5, ?_, ?_, hS⟩, hmore w' hk'⟩⟩
        · rw [total_set hold]; exact ht
        · intro x hx
          rcases List.mem_or_eq_of_mem_set hx with hx | rfl
          · exact h7 x hx
          · exact hv
      · exact (setv_over b cap m cp g k l old v w h1 h2 hold he (by omega) h7 hv h6 (by omega)).mono fun e w' ⟨he, hk', r1, r2⟩ => .inr ⟨k, old, rfl, hold, .inr ⟨by omega, he, ⟨m, _, r1, r2, h3, h4, h5, h6, h7, hS⟩, hmore w' hk'⟩⟩
end Go.Proofs.Ytcmlkcmoailhjaa
