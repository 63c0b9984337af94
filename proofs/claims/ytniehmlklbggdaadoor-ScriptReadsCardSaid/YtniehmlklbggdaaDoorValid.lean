/- Valid. -/
import Derived.Test.YtniehmlklbggdaaDoorFits
import Derived.Test.YtniehmlklbggdaaDoorWhole
namespace Go.Proofs.YtniehmlklbggdaaDoor
open Go Go.RowKit
set_option linter.unusedVariables false
set_option linter.unusedSimpArgs false
set_option maxRecDepth 100000

theorem wp_lookup_at {o : Oper} {a : Act} {w : World} {K : Act → World → Prop} {Q : Exit → Act → World → Prop} {t : TypeId} {m x : Operand} {ok : Bool} (ho : o.op = .lookup t m x ok) (mv xv v : Value) (hm : a.eval m = mv) (hx : a.eval x = xv) (hr : (Instr.lookup t mv xv ok).run Tryd.prog w = .ok v w)
    (h : K (a.put o.dst v) w) : o.wp Tryd.prog a w K Q := by
  unfold Oper.wp execOp
  simp only [ho, hm, hx, Sem.run_bind, hr, Result.andThen_ok, Sem.run_pure]
  exact h
theorem all_snoc {α : Type} {p : α → Bool} {l : List α} {k : Nat} {d : α} (h : l[k]? = some d) : (l.take (k + 1)).all p = ((l.take k).all p && p d) := by
  rw [List.take_add_one, h]
  simp
theorem zer_snoc {o : Oq} {l : List Od} {k : Nat} {d : Od} (h : l[k]? = some d) : zerF o (l.take (k + 1)) = d.set (zerF o (l.take k)) 0 := by
  rw [List.take_add_one, h]
  simp [zerF]
theorem all_no {α : Type} {p : α → Bool} {l : List α} {k : Nat} {d : α} (h : l[k]? = some d) (hp : p d = false) : l.all p = false := by
  rw [List.all_eq_false]
  exact ⟨d, List.mem_of_getElem? h, by simp [hp]⟩
set_option maxHeartbeats 1600000 in
theorem valid_yes (o : Oq) (l : List Od) (n : Nat) (hn : l.length = n) (ho : ods o.kd = some l) (hf : FitsOq o) (w : World) : Calls Tryd.prog 30 #[.agg (cellsOq o)] w fun e w' => e = .returned (.bool (validP o l)) ∧ Below w.heap.size w w' := by
  have HN := Lib.hid hn
  have HO := Lib.hid ho
  have K0 : Hid (Blk (w.alloc (.cells (cellsOq o) 35)) w.heap.size 35 (cellsOq o)) := Lib.hid (Blk.new w _ _)
  have B0 : Hid (Below w.heap.size w (w.alloc (.cells (cellsOq o) 35))) := Lib.hid ((Below.refl _ _).alloc (Nat.le_refl _) _)
  have HL2 : n ≤ 2 := by rw [← hn]; exact (ods_some ho).2.2.2
  have HF := Lib.hid hf
  clear hn ho hf
  go_enter Tryd.func30, Tryd.ntmps30
  go_upto_region 1 with (fail)
  generalize w.alloc (.cells (cellsOq o) 35) = W at *
  refine wp_region_first (fun w' => Blk w' w.heap.size 35 (cellsOq o)) 8 6 [1, 2] (by kernel_rfl) (by kernel_rfl) K0.out ?_
  simp only [List.filterMap_cons, List.filterMap_nil, List.getElem?_toArray, List.getElem?_cons_zero, List.getElem?_cons_succ]
  show wpQuiet _ _ _ _ [_, _] _
  iterate 1 (go_big_quiet_step ((intros; rfl)))
  refine q_cell 3 _ _ (.int .i64 o.kd) rfl rfl rfl (fun w h => by simp [go_sem, h]) (fun w h => Blk.cell h 0) ?_
  simp only [Act.put, List.setIfInBounds_toArray, List.set_cons_zero, List.set_cons_succ]
  refine wpQuiet_nil ?_
  refine headF_one (i := 0) (by kernel_rfl) (by omega) ?_
  refine wpOp_at rfl rfl (wp_call_at rfl #[] (by kernel_rfl) Tryd.call55 ((operands_any W.drew).mono ?_))
  rintro e w1 ⟨b, rfl, hT, _, hb⟩
  have D1 : Hid (Below W.heap.size W w1) := Lib.hid ((Below.refl _ W).drew.trans hb)
  have HT := Lib.hid hT
  have K1 := Lib.hid (K0.out.below D1.out K0.out.lt)
  clear hb hT
  refine ⟨_, rfl, K1.out, ?_⟩
  obtain ⟨⟨a, hl, hr⟩, _⟩ := HT.out.yes HO.out
  rw [HN.out] at hr
  have HL := Lib.hid hl
  clear hl
  refine headF_one (i := 3) (by kernel_rfl) (by omega) ?_
  simp only [Act.put, List.getElem_toArray, List.getElem_cons_zero, List.getElem_cons_succ, List.setIfInBounds_toArray, List.set_cons_zero, List.set_cons_succ]
  refine wpOp_at rfl rfl (wp_lookup_at rfl _ _ _ rfl rfl hr ⟨K1.out, ?_⟩)
  simp only [Act.put, List.getElem_toArray, List.getElem_cons_zero, List.getElem_cons_succ, List.setIfInBounds_toArray, List.set_cons_zero, List.set_cons_succ]
  refine headF_takes (fun w' => Blk w' w.heap.size 35 (cellsOq o)) (m := 4) (f := 0) [4, 5, 6, 7] (fun _ h => h) (by kernel_rfl) K1.out ?_
  simp only [List.filterMap_cons, List.filterMap_nil, List.getElem?_toArray, List.getElem?_cons_zero, List.getElem?_cons_succ]
  show wpQuiet _ _ _ _ [_, _, _, _] _
  iterate 4 (go_big_quiet_step ((intros; rfl)))
  refine wpQuiet_nil ?_
  show Region.seqB _ _ _ _ _ = true ∧ _
  refine ⟨by kernel_rfl, ?_⟩
  simp only [Act.put, List.getElem_toArray, List.getElem_cons_zero, List.getElem_cons_succ, List.setIfInBounds_toArray, List.set_cons_zero, List.set_cons_succ, List.drop_succ_cons, List.drop_zero]
  have HD1 := Lib.hid (B0.out.trans (D1.out.mono B0.out.size))
  clear hr D1 HT K0 B0
  go_wp2_with (fail)
  refine NoPanic.normal ?_
  go_wp2_with (first | (refine wpList_load_row rfl 35 _ rfl w.heap.size rfl 35 (cellsOq o) (0, 0) _ K1.out Tryd.underlying35 rfl infoOq ?_) | (refine wpList_store_row rfl _ _ _ rfl w1.heap.size (cellsOq o) rfl rfl 35 _ (heap_alloc_new w1 _) infoOq rfl (cellsOq_one o) ?_; rw [World.setRow_alloc_new]))
  have R0 : Hid (Blk (w1.alloc (.cells (cellsOq o) 35)) w1.heap.size 35 (cellsOq (zerF o (l.take 0)))) := Lib.hid (Blk.new w1 _ _)
  have K2 := Lib.hid (K1.out.alloc (.cells (cellsOq o) 35))
  have L2 : Hid (LstR Od.row 3 (w1.alloc (.cells (cellsOq o) 35)) (fun i => i = w1.heap.size) a l) := Lib.hid fun h0 => by
    obtain ⟨b', off, e1, _, e3, e4⟩ := LstR.alloc HL.out (.cells (cellsOq o) 35) h0
    obtain ⟨b2, off2, f1, _, f3, _⟩ := HL.out h0
    rw [e1] at f1
    injection f1 with f1
    injection f1 with f1 _
    subst f1
    exact ⟨b', off, e1, by omega, e3, e4⟩
  have HD2 := Lib.hid (HD1.out.alloc HD1.out.size (.cells (cellsOq o) 35))
  have HR : Hid (w.heap.size < w1.heap.size) := Lib.hid K1.out.lt
  clear K1 HD1 HL
  generalize w1.heap.size = R at *
  generalize w1.alloc (.cells (cellsOq o) 35) = w2 at *
  go_loopw [7, 20] (fun p i wr => ∃ k : Nat, k ≤ n ∧ i = .int .i64 k ∧ Hid (Blk wr w.heap.size 35 (cellsOq o)) ∧ Hid (Blk wr R 35 (cellsOq (zerF o (l.take k)))) ∧ Hid ((l.take k).all (fun d => fitB d o) = true) ∧ Hid (LstR Od.row 3 wr (fun i => i = R) a l) ∧ Hid (Below w.heap.size w wr)) (fun _ i _ => n - (intOf i).toNat)
  case atStart => exact ⟨0, by omega, rfl, K2, R0, Lib.hid rfl, L2, HD2⟩
  case round =>
    clear K2 R0 L2 HD2
    obtain ⟨k, hk, rfl, K3, R3, A3, L3, D3⟩ := hrel
    by_cases hlt : k < n
    · obtain ⟨d, hd⟩ : ∃ d, l[k]? = some d := ⟨_, List.getElem?_eq_getElem (by rw [HN.out]; exact hlt)⟩
      obtain ⟨b', off, rfl, _, hbl, hr⟩ := L3.out.at hd
      have HE := Lib.hid hr
      have HD := Lib.hid hd
      have N4 := Lib.hid (Blk.new wr 86 (cellsOd d))
      have D4 := Lib.hid (D3.out.alloc D3.out.size (.cells (cellsOd d) 86))
      have K4 := Lib.hid (K3.out.alloc (.cells (cellsOd d) 86))
      have R4 := Lib.hid (R3.out.alloc (.cells (cellsOd d) 86))
      have L4 := Lib.hid (LstR.alloc L3.out (.cells (cellsOd d) 86))
      clear hr hbl hd K3 R3 L3 D3
      go_upto_region 8 with (first | (refine arm_od (l := l) HE.out rfl _ rfl rfl ?_) | (refine wpList_store_row rfl _ _ _ rfl wr.heap.size (cellsOd d) rfl rfl 86 _ (heap_alloc_new wr _) infoOd rfl (cellsOd_one d) ?_; rw [World.setRow_alloc_new]))
      generalize wr.alloc (.cells (cellsOd d) 86) = w4 at *
      generalize wr.heap.size = E at *
      go_wp2_with (first | (refine wpList_load_row rfl 86 _ rfl E rfl 86 (cellsOd d) (0, 0) _ N4.out Tryd.underlying86 rfl infoOd ?_) | (refine wpList_load_row rfl 35 _ rfl w.heap.size rfl 35 (cellsOq o) (0, 0) _ K4.out Tryd.underlying35 rfl infoOq ?_))
      refine (fits_any d o w4).mono ?_
      rintro e w5 ⟨rfl, b5⟩
      have N5 := Lib.hid (N4.out.below b5 N4.out.lt)
      have D5 := Lib.hid (D4.out.trans (b5.mono D4.out.size))
      have K5 := Lib.hid (K4.out.below b5 K4.out.lt)
      have R5 := Lib.hid (R4.out.below b5 R4.out.lt)
      have L5 := Lib.hid (LstR.below L4.out b5)
      clear b5 N4 D4 K4 R4 L4 HE
      rcases hfit : fitB d o with _ | _
      · have HV : Hid (validP o l = false) := Lib.hid (by unfold validP; rw [all_no HD.out hfit]; rfl)
        clear hfit
        go_wp2_with (fail)
        go_ret
        exact ⟨by rw [HV.out]; rfl, D5.out⟩
      · have A5 : Hid ((l.take (k + 1)).all (fun d => fitB d o) = true) := Lib.hid (by rw [all_snoc HD.out, A3.out, hfit]; rfl)
        have Z5 := Lib.hid (zer_snoc (o := o) HD.out)
        have hc2 : w5.cell? ⟨E, 2, none⟩ = some (.func (.func d.setF) #[] #[]) := N5.out.cell 2
        have hcall := call_set d
        have HS := Lib.hid (set_any d (zerF o (l.take k)) 0 w5)
        clear hfit A3
        go_wp2_with (refine wpList_load_row rfl 35 _ rfl R rfl 35 (cellsOq (zerF o (l.take k))) (0, 0) _ R5.out Tryd.underlying35 rfl infoOq ?_)
        refine HS.out.mono ?_
        rintro e w6 ⟨rfl, b6⟩
        rw [← Z5.out]
        have D6 := Lib.hid (D5.out.trans (b6.mono D5.out.size))
        have K6 := Lib.hid (K5.out.below b6 K5.out.lt)
        have R6 := Lib.hid (R5.out.below b6 R5.out.lt)
        have L6 := Lib.hid (LstR.below L5.out b6)
        clear b6 D5 K5 R5 L5 N5 hc2 hcall HS Z5
        go_wp2_with (refine wpList_store_row rfl _ _ _ rfl R (cellsOq (zerF o (l.take (k + 1)))) rfl rfl 35 _ R6.out infoOq rfl (cellsOq_one _) ?_)
        refine ⟨⟨k + 1, by omega, by go_num, Lib.hid (K6.out.setRow_far (by have := HR.out; omega) _), Lib.hid (R6.out.setRow _), A5, Lib.hid (LstR.kept L6.out (Kept.setRow (S := fun i => i = R) (Kept.refl _ _) (.inl rfl) _)), Lib.hid (below_setRow D6.out (by have := HR.out; omega) _)⟩, ?_⟩
        simp [intOf]; omega
    · obtain rfl : k = n := by omega
      clear hlt
      have hlt : ¬ k < k := by omega
      have HV : Hid (decide (zerF o (l.take k) = ⟨o.kd, 0, 0, 0⟩) = validP o l) := Lib.hid (by
        have hall : l.take k = l := List.take_of_length_le (by rw [HN.out]; exact Nat.le_refl _)
        unfold validP
        have := A3.out
        rw [hall] at this ⊢
        rw [this]; rfl)
      have hc0 : wr.cell? ⟨w.heap.size, 0, none⟩ = some (.int .i64 o.kd) := K3.out.cell 0
      obtain ⟨vd, hvd⟩ : ∃ vd, validP o l = vd := ⟨_, rfl⟩
      have HVD := Lib.hid hvd
      rw [hvd] at HV
      clear hvd
      go_wp2_with (first
        | (refine wpList_load_row rfl 35 _ rfl R rfl 35 (cellsOq (zerF o (l.take k))) (0, 0) _ R3.out Tryd.underlying35 rfl infoOq ?_)
        | (refine wpList_build_Oq rfl 35 _ rfl ⟨o.kd, 0, 0, 0⟩ (by kernel_rfl) ?_)
        | (refine wpList_valG (.bool vd) rfl (exec_eqOq rfl rfl HV.out) ?_))
      go_ret
      exact ⟨by rw [HVD.out]; rfl, D3.out⟩
set_option maxHeartbeats 800000 in
theorem valid_no (o : Oq) (ho : ods o.kd = none) (hf : FitsOq o) (w : World) : Calls Tryd.prog 30 #[.agg (cellsOq o)] w fun e w' => e = .returned (.bool false) ∧ Below w.heap.size w w' := by
  have HO := Lib.hid ho
  have K0 : Hid (Blk (w.alloc (.cells (cellsOq o) 35)) w.heap.size 35 (cellsOq o)) := Lib.hid (Blk.new w _ _)
  have B0 : Hid (Below w.heap.size w (w.alloc (.cells (cellsOq o) 35))) := Lib.hid ((Below.refl _ _).alloc (Nat.le_refl _) _)
  have HF := Lib.hid hf
  clear ho hf
  go_enter Tryd.func30, Tryd.ntmps30
  go_upto_region 1 with (fail)
  generalize w.alloc (.cells (cellsOq o) 35) = W at *
  refine wp_region_first (fun w' => Blk w' w.heap.size 35 (cellsOq o)) 8 6 [1, 2] (by kernel_rfl) (by kernel_rfl) K0.out ?_
  simp only [List.filterMap_cons, List.filterMap_nil, List.getElem?_toArray, List.getElem?_cons_zero, List.getElem?_cons_succ]
  show wpQuiet _ _ _ _ [_, _] _
  iterate 1 (go_big_quiet_step ((intros; rfl)))
  refine q_cell 3 _ _ (.int .i64 o.kd) rfl rfl rfl (fun w h => by simp [go_sem, h]) (fun w h => Blk.cell h 0) ?_
  simp only [Act.put, List.setIfInBounds_toArray, List.set_cons_zero, List.set_cons_succ]
  refine wpQuiet_nil ?_
  refine headF_one (i := 0) (by kernel_rfl) (by omega) ?_
  refine wpOp_at rfl rfl (wp_call_at rfl #[] (by kernel_rfl) Tryd.call55 ((operands_any W.drew).mono ?_))
  rintro e w1 ⟨b, rfl, hT, _, hb⟩
  have D1 : Hid (Below W.heap.size W w1) := Lib.hid ((Below.refl _ W).drew.trans hb)
  have K1 := Lib.hid (K0.out.below D1.out K0.out.lt)
  have hr := hT.no HF.out.1 HO.out
  clear hb hT
  refine ⟨_, rfl, K1.out, ?_⟩
  refine headF_one (i := 3) (by kernel_rfl) (by omega) ?_
  simp only [Act.put, List.getElem_toArray, List.getElem_cons_zero, List.getElem_cons_succ, List.setIfInBounds_toArray, List.set_cons_zero, List.set_cons_succ]
  refine wpOp_at rfl rfl (wp_lookup_at rfl _ _ _ rfl rfl hr ⟨K1.out, ?_⟩)
  simp only [Act.put, List.getElem_toArray, List.getElem_cons_zero, List.getElem_cons_succ, List.setIfInBounds_toArray, List.set_cons_zero, List.set_cons_succ]
  refine headF_takes (fun w' => Blk w' w.heap.size 35 (cellsOq o)) (m := 4) (f := 0) [4, 5, 6, 7] (fun _ h => h) (by kernel_rfl) K1.out ?_
  simp only [List.filterMap_cons, List.filterMap_nil, List.getElem?_toArray, List.getElem?_cons_zero, List.getElem?_cons_succ]
  show wpQuiet _ _ _ _ [_, _, _, _] _
  iterate 4 (go_big_quiet_step ((intros; rfl)))
  refine wpQuiet_nil ?_
  show Region.seqB _ _ _ _ _ = true ∧ _
  refine ⟨by kernel_rfl, ?_⟩
  simp only [Act.put, List.getElem_toArray, List.getElem_cons_zero, List.getElem_cons_succ, List.setIfInBounds_toArray, List.set_cons_zero, List.set_cons_succ, List.drop_succ_cons, List.drop_zero]
  have HD1 := Lib.hid (B0.out.trans (D1.out.mono B0.out.size))
  clear hr D1 K0 B0
  go_wp2_with (fail)
  refine NoPanic.normal ?_
  go_wp2_with (fail)
  go_ret
  exact ⟨rfl, HD1.out⟩
theorem valid_any (o : Oq) (hf : FitsOq o) (w : World) : Calls Tryd.prog 30 #[.agg (cellsOq o)] w fun e w' => e = .returned (.bool (validB o)) ∧ Below w.heap.size w w' := by
  rcases ho : ods o.kd with _ | l
  · have : validB o = false := by simp [validB, ho]
    rw [this]
    exact valid_no o ho hf w
  · rw [← validP_eq ho hf]
    exact valid_yes o l _ rfl ho hf w
end Go.Proofs.YtniehmlklbggdaaDoor
