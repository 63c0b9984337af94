/- Encode. -/
import Derived.Test.YtniehmlklbggdaaDoorValid
namespace Go.Proofs.YtniehmlklbggdaaDoor
open Go Go.RowKit
set_option linter.unusedVariables false
set_option linter.unusedSimpArgs false
set_option maxRecDepth 100000

theorem encF_snoc {o : Oq} : ∀ {l : List Od} {k : Nat} {d : Od}, l[k]? = some d → encF o (l.take (k + 1)) = encF o (l.take k) ++ bigL (d.get o) d.sz
  | [], _, _, h => by simp at h
  | x :: l, 0, d, h => by simp at h; subst h; simp [encF]
  | x :: l, k + 1, d, h => by
    simp only [List.getElem?_cons_succ] at h
    simp only [List.take_succ_cons, encF, encF_snoc h, List.append_assoc]
theorem szs_take : ∀ (l : List Od) (k : Nat), szs (l.take k) ≤ szs l
  | [], _ => by simp
  | x :: l, 0 => by simp [szs]
  | x :: l, k + 1 => by simp only [List.take_succ_cons, szs]; have := szs_take l k; omega
theorem encode_no (o : Oq) (hv : validB o = false) (hf : FitsOq o) (w : World) : Calls Tryd.prog 28 #[.agg (cellsOq o)] w fun e w' => e = .returned (.tuple #[.slice none 0 0, .bool false]) ∧ Below w.heap.size w w' := by
  have K0 : Hid (Blk (w.alloc (.cells (cellsOq o) 35)) w.heap.size 35 (cellsOq o)) := Lib.hid (Blk.new w _ _)
  have B0 : Hid (Below w.heap.size w (w.alloc (.cells (cellsOq o) 35))) := Lib.hid ((Below.refl _ _).alloc (Nat.le_refl _) _)
  have HVA := Lib.hid (fun w => valid_any o hf w)
  rw [hv] at HVA
  clear hv hf
  go_enter Tryd.func28, Tryd.ntmps28
  go_upto_region 1 with (fail)
  generalize w.alloc (.cells (cellsOq o) 35) = W at *
  go_wp2_with (refine wpList_load_row rfl 35 _ rfl w.heap.size rfl 35 (cellsOq o) (0, 0) _ K0.out Tryd.underlying35 rfl infoOq ?_)
  refine (HVA.out W).mono ?_
  rintro e w1 ⟨rfl, b1⟩
  have B1 := Lib.hid (B0.out.trans (b1.mono B0.out.size))
  clear b1
  go_wp2_with (fail)
  go_ret2
  exact ⟨rfl, B1.out⟩
set_option maxHeartbeats 1600000 in
theorem encode_yes (o : Oq) (hv : validB o = true) (hf : FitsOq o) (w : World) : Calls Tryd.prog 28 #[.agg (cellsOq o)] w fun e w' => ∃ v, e = .returned (.tuple #[v, .bool true]) ∧ OwnB w' w.heap.size v (encL o).length (encL o) ∧ Below w.heap.size w w' := by
  obtain ⟨l, ho, hs⟩ := shape_of hv hf
  have HI := Lib.hid (ods_some ho)
  have HO := Lib.hid ho
  obtain ⟨n, hn⟩ : ∃ n, l.length = n := ⟨_, rfl⟩
  have HN := Lib.hid hn
  have HF := Lib.hid hf
  have HE : Hid (encL o = o.kd :: encF o l) := Lib.hid (by simp [encL, ho])
  have K0 : Hid (Blk (w.alloc (.cells (cellsOq o) 35)) w.heap.size 35 (cellsOq o)) := Lib.hid (Blk.new w _ _)
  have B0 : Hid (Below w.heap.size w (w.alloc (.cells (cellsOq o) 35))) := Lib.hid ((Below.refl _ _).alloc (Nat.le_refl _) _)
  have HVA := Lib.hid (fun w => valid_any o hf w)
  rw [hv] at HVA
  have hw8 : IntKind.u8.wrap o.kd = o.kd := by
    have := ods_some ho
    simp [IntKind.wrap, IntKind.bits, IntKind.signed]; omega
  have HW8 := Lib.hid hw8
  clear hv hf ho hs hn hw8
  go_enter Tryd.func28, Tryd.ntmps28
  go_upto_region 1 with (fail)
  generalize w.alloc (.cells (cellsOq o) 35) = W at *
  go_wp2_with (refine wpList_load_row rfl 35 _ rfl w.heap.size rfl 35 (cellsOq o) (0, 0) _ K0.out Tryd.underlying35 rfl infoOq ?_)
  refine (HVA.out W).mono ?_
  rintro e w1 ⟨rfl, b1⟩
  have B1 := Lib.hid (B0.out.trans (b1.mono B0.out.size))
  have K1 := Lib.hid (K0.out.below b1 K0.out.lt)
  clear b1 HVA B0 K0
  have hc0 : w1.cell? ⟨w.heap.size, 0, none⟩ = some (.int .i64 o.kd) := K1.out.cell 0
  have hw8 := HW8.out
  go_upto_region 4 with (fail)
  have O2 : Hid (OwnB (w1.alloc (.cells #[.int .u8 o.kd] 5)) w1.heap.size (.slice (some ⟨w1.heap.size, 0, none⟩) 1 1) 1 [o.kd]) := Lib.hid ⟨rfl, .inr ⟨w1.heap.size, 1, #[.int .u8 o.kd], rfl, Nat.le_refl _, heap_alloc_new w1 _, by omega, by unfold maxLen; omega, by simp, by simp⟩⟩
  have N2 : Hid (Blk (w1.alloc (.cells #[.int .u8 o.kd] 5)) w1.heap.size 5 #[.int .u8 o.kd]) := Lib.hid (Blk.new w1 _ _)
  have B2 := Lib.hid (B1.out.alloc B1.out.size (.cells #[.int .u8 o.kd] 5))
  have K2 := Lib.hid (K1.out.alloc (.cells #[.int .u8 o.kd] 5))
  have Z2 : Hid (w1.heap.size < (w1.alloc (.cells #[.int .u8 o.kd] 5)).heap.size) := Lib.hid (by simp)
  have ZH : Hid (w.heap.size < w1.heap.size) := Lib.hid K1.out.lt
  clear hc0 hw8 K1 B1
  generalize w1.alloc (.cells #[.int .u8 o.kd] 5) = w2 at *
  generalize w1.heap.size = B at *
  refine wp_region_whole (fun w' => Blk w' w.heap.size 35 (cellsOq o)) 3 [1, 2, 5] (by kernel_rfl) (by kernel_rfl) K2.out ?_
  simp only [List.filterMap_cons, List.filterMap_nil, List.getElem?_toArray, List.getElem?_cons_zero, List.getElem?_cons_succ]
  show wpQuiet _ _ _ _ [_, _, _] _
  iterate 1 (go_big_quiet_step ((intros; rfl)))
  refine q_cell 3 _ _ (.int .i64 o.kd) rfl rfl rfl (fun w h => by simp [go_sem, h]) (fun w h => Blk.cell h 0) ?_
  simp only [Act.put, List.setIfInBounds_toArray, List.set_cons_zero, List.set_cons_succ]
  iterate 1 (go_big_quiet_step ((intros; rfl)))
  refine wpQuiet_nil ?_
  refine headF_one (i := 0) (by kernel_rfl) (by simp) ?_
  refine wpOp_at rfl rfl (wp_call_at rfl #[] (by kernel_rfl) Tryd.call55 ((operands_any w2.drew).mono ?_))
  rintro e w3 ⟨b, rfl, hT, _, hb⟩
  have D3 : Hid (Below w2.heap.size w2 w3) := Lib.hid ((Below.refl _ w2).drew.trans hb)
  have HT := Lib.hid hT
  have K3 := Lib.hid (K2.out.below D3.out K2.out.lt)
  clear hb hT
  refine ⟨_, rfl, K3.out, ?_⟩
  obtain ⟨_, a, hl, hr⟩ := HT.out.yes HO.out
  rw [HN.out] at hr
  have HL := Lib.hid hl
  clear hl
  refine headF_one (i := 3) (by kernel_rfl) (by simp) ?_
  simp only [Act.put, List.getElem_toArray, List.getElem_cons_zero, List.getElem_cons_succ, List.setIfInBounds_toArray, List.set_cons_zero, List.set_cons_succ]
  refine wpOp_at rfl rfl (wp_lookup_at rfl _ _ _ rfl rfl hr ⟨K3.out, ?_⟩)
  simp only [Act.put, List.getElem_toArray, List.getElem_cons_zero, List.getElem_cons_succ, List.setIfInBounds_toArray, List.set_cons_zero, List.set_cons_succ]
  refine headF_takesW (fun w' => Blk w' w.heap.size 35 (cellsOq o)) (m := 1) (f := 0) [4] (fun _ h => h) (by kernel_rfl) K3.out ?_
  simp only [List.filterMap_cons, List.filterMap_nil, List.getElem?_toArray, List.getElem?_cons_zero, List.getElem?_cons_succ]
  show wpQuiet _ _ _ _ [_] _
  iterate 1 (go_big_quiet_step ((intros; rfl)))
  refine wpQuiet_nil ?_
  show Region.ready _ _ _ = [] ∧ _
  refine ⟨by kernel_rfl, NoPanic.normal ?_⟩
  have O3 : Hid (OwnB w3 B (.slice (some ⟨B, 0, none⟩) 1 1) (o.kd :: encF o (l.take 0)).length (o.kd :: encF o (l.take 0))) := Lib.hid (ownsR_below O2.out D3.out)
  have B3 := Lib.hid (B2.out.trans (D3.out.mono B2.out.size))
  have Z3 : Hid (B < w3.heap.size) := Lib.hid (by have := D3.out.size; have := Z2.out; omega)
  have L3 : Hid (LstR Od.row 3 w3 (fun i => (Value.slice (some ⟨B, 0, none⟩) 1 1).ownBlock = some i) a l) := Lib.hid fun h0 => by
    obtain ⟨b', off, e1, _, e3, e4⟩ := HL.out h0
    refine ⟨b', off, e1, fun hown => ?_, e3, e4⟩
    injection hown with hown
    subst hown
    have h1 := e4 0 _ (List.getElem?_eq_getElem h0) 1 _ rfl
    rw [(N2.out.below D3.out N2.out.lt).cell] at h1
    simp at h1
  clear hr O2 K2 B2 D3 HT N2 HL
  go_wp2_with (fail)
  go_loopw [4, 6, 19] (fun v p i wr => ∃ k : Nat, k ≤ n ∧ i = .int .i64 k ∧ Hid (Blk wr w.heap.size 35 (cellsOq o)) ∧ Hid (OwnB wr B v (o.kd :: encF o (l.take k)).length (o.kd :: encF o (l.take k))) ∧ Hid (LstR Od.row 3 wr (fun i => v.ownBlock = some i) a l) ∧ Hid (Below w.heap.size w wr) ∧ Hid (B < wr.heap.size)) (fun _ _ i _ => n - (intOf i).toNat)
  case atStart => exact ⟨0, by omega, rfl, K3, O3, L3, B3, Z3⟩
  case round =>
    clear K3 O3 L3 B3 Z3
    obtain ⟨k, hk, rfl, K4, O4, L4, B4, Z4⟩ := hrel
    by_cases hlt : k < n
    · obtain ⟨d, hd⟩ : ∃ d, l[k]? = some d := ⟨_, List.getElem?_eq_getElem (by rw [HN.out]; exact hlt)⟩
      obtain ⟨b', off, rfl, _, hbl, hr⟩ := L4.out.at hd
      have HEE := Lib.hid hr
      have HD := Lib.hid hd
      have N5 := Lib.hid (Blk.new wr 86 (cellsOd d))
      have B5 := Lib.hid (B4.out.alloc B4.out.size (.cells (cellsOd d) 86))
      have K5 := Lib.hid (K4.out.alloc (.cells (cellsOd d) 86))
      have O5 := Lib.hid (O4.out.alloc (.cells (cellsOd d) 86))
      have L5 := Lib.hid (LstR.alloc L4.out (.cells (cellsOd d) 86))
      have Z5 : Hid (B < (wr.alloc (.cells (cellsOd d) 86)).heap.size) := Lib.hid (by have := Z4.out; simp; omega)
      have HS : Hid ((o.kd :: encF o (l.take k)).length ≤ 1000) := Lib.hid (by
        have h1 := HI.out.2.2.1
        have := szs_take l k
        simp [encF_len]; omega)
      clear hr hbl hd K4 O4 L4 B4 Z4
      go_upto_region 7 with (first | (refine arm_od (l := l) HEE.out rfl _ rfl rfl ?_) | (refine wpList_store_row rfl _ _ _ rfl wr.heap.size (cellsOd d) rfl rfl 86 _ (heap_alloc_new wr _) infoOd rfl (cellsOd_one d) ?_; rw [World.setRow_alloc_new]))
      generalize wr.alloc (.cells (cellsOd d) 86) = w5 at *
      generalize wr.heap.size = E at *
      go_wp2_with (first | (refine wpList_load_row rfl 86 _ rfl E rfl 86 (cellsOd d) (0, 0) _ N5.out Tryd.underlying86 rfl infoOd ?_) | (refine wpList_load_row rfl 35 _ rfl w.heap.size rfl 35 (cellsOq o) (0, 0) _ K5.out Tryd.underlying35 rfl infoOq ?_))
      refine (write_any d o HF.out u4 _ B _ w5 O5.out (Nat.le_of_lt Z5.out) HS.out).mono ?_
      rintro e w6 ⟨v', rfl, h1, h2, h3⟩
      have HO6 : Hid (OwnB w6 B v' (o.kd :: encF o (l.take (k + 1))).length (o.kd :: encF o (l.take (k + 1)))) := Lib.hid (by
        rw [encF_snoc HD.out]
        have e : (o.kd :: (encF o (l.take k) ++ bigL (d.get o) d.sz)) = (o.kd :: encF o (l.take k)) ++ bigL (d.get o) d.sz := rfl
        rw [e, List.length_append, bigL_len]
        exact h1)
      have HK6 := Lib.hid h2
      have HN6 := Lib.hid h3
      clear h1 h2 h3
      have hn2 : n ≤ 2 := by rw [← HN.out]; exact HI.out.2.2.2
      go_wp2_with (fail)
      have hown : ∀ i, u4.ownBlock = some i → w.heap.size < i := fun i hi => by have := O5.out.ge hi; have := ZH.out; omega
      refine ⟨⟨k + 1, by omega, by go_num, Lib.hid (K5.out.kept HK6.out fun h => by have := hown _ h; omega), HO6, Lib.hid (LstR.more (LstR.kept (LstR.more (T := fun i => u4.ownBlock = some i ∨ v'.ownBlock = some i) L5.out fun i hi h => ?_) (HK6.out.more fun i _ h => .inl h)) fun i _ h => .inr h), Lib.hid (Kept.below B5.out HK6.out (fun i h => by have := hown _ h; omega) B5.out.size), Lib.hid (Nat.lt_of_lt_of_le Z5.out HK6.out.size)⟩, ?_⟩
      · rcases h with h | h
        · exact h
        · rcases HN6.out i h with h2 | h2
          · exact h2
          · omega
      · simp [intOf]; omega
    · obtain rfl : k = n := by omega
      clear hlt
      have hlt : ¬ k < k := by omega
      have HEN : Hid (encL o = o.kd :: encF o (l.take k)) := Lib.hid (by rw [HE.out, List.take_of_length_le (by rw [HN.out]; exact Nat.le_refl _)])
      go_wp2_with (fail)
      go_ret2
      exact ⟨_, rfl, by rw [HEN.out]; exact ownsR_base O4.out (by have := ZH.out; omega), B4.out⟩
end Go.Proofs.YtniehmlklbggdaaDoor
