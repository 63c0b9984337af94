/- The statement OpEncodes, walked: it returns true for every operation. -/
import Derived.Test.YtfepfcalfhegfaaDoorLive
namespace Go.Proofs.YtfepfcalfhegfaaDoor
open Go Go.RowKit
set_option linter.unusedVariables false
set_option linter.unusedSimpArgs false
set_option maxRecDepth 100000

set_option maxHeartbeats 1600000 in
theorem encodes_no (o : Oq) (w : World) (hf : FitsOq o) (h : NamesAt w) (hv : validB o = false) :
    Calls Tryd.prog 3 #[.agg (cellsOq o)] w fun e w' => e = .returned (.bool true) ∧ Below w.heap.size w w' := by
  have HN := Lib.hid h
  have K0 : Hid (Blk (w.alloc (.cells (cellsOq o) 24)) w.heap.size 24 (cellsOq o)) := Lib.hid (Blk.new w _ _)
  have B0 : Hid (Below w.heap.size w (w.alloc (.cells (cellsOq o) 24))) := Lib.hid ((Below.refl _ _).alloc (Nat.le_refl _) _)
  have HV := Lib.hid (fun w => valid_any o hf w)
  have HR := Lib.hid (fun w => refvalid_any o w)
  have HE := Lib.hid (fun w => encode_no o hv hf w)
  rw [hv] at HV HR
  clear h hf hv
  go_enter Tryd.func3, Tryd.ntmps3
  go_upto_region 1 with (fail)
  generalize w.alloc (.cells (cellsOq o) 24) = W at *
  go_wp2_with (refine wpList_load_row rfl 24 _ rfl w.heap.size rfl 24 (cellsOq o) (0, 0) _ K0.out Tryd.underlying24 rfl infoOq ?_)
  refine (HE.out W).mono ?_
  rintro e w1 ⟨rfl, b1⟩
  have K1 := Lib.hid (K0.out.below b1 K0.out.lt)
  have B1 := Lib.hid (B0.out.trans (b1.mono B0.out.size))
  clear b1 K0 B0 HE
  go_upto_region 2 with (fail)
  refine wp_region_class (fun w' => Below w1.heap.size w1 w') (by kernel_rfl) (by kernel_rfl) (Below.refl _ _).drew ?_
  refine q_load_Oq 24 _ w.heap.size 0 o _ rfl rfl rfl (fun w' h => (K1.out.below h K1.out.lt).rangeOq) Tryd.underlying24 rfl infoOq ?_
  simp only [Act.put, List.setIfInBounds_toArray, List.set_cons_zero, List.set_cons_succ]
  refine q_call (.bool false) #[.agg (cellsOq o)] (by kernel_rfl) (by kernel_rfl) Tryd.call10 (fun w' h => (HV.out w').mono fun e w'' ⟨he, hb⟩ => ⟨he, h.trans (hb.mono h.size)⟩) ?_
  simp only [Act.put, List.setIfInBounds_toArray, List.set_cons_zero, List.set_cons_succ]
  refine q_load_Oq 24 _ w.heap.size 0 o _ rfl rfl rfl (fun w' h => (K1.out.below h K1.out.lt).rangeOq) Tryd.underlying24 rfl infoOq ?_
  simp only [Act.put, List.setIfInBounds_toArray, List.set_cons_zero, List.set_cons_succ]
  refine q_call (.bool false) #[.agg (cellsOq o)] (by kernel_rfl) (by kernel_rfl) Tryd.call11 (fun w' h => (HR.out w').mono fun e w'' ⟨he, hb⟩ => ⟨he, h.trans (hb.mono h.size)⟩) ?_
  simp only [Act.put, List.setIfInBounds_toArray, List.set_cons_zero, List.set_cons_succ]
  iterate 3 (go_big_quiet_step ((intros; rfl)))
  refine q_load_Oq 24 _ w.heap.size 0 o _ (by kernel_rfl) rfl rfl (fun w' h => (K1.out.below h K1.out.lt).rangeOq) Tryd.underlying24 rfl infoOq ?_
  simp only [Act.put, List.setIfInBounds_toArray, List.set_cons_zero, List.set_cons_succ]
  refine q_call (.bool false) #[.agg (cellsOq o)] (by kernel_rfl) (by kernel_rfl) Tryd.call11 (fun w' h => (HR.out w').mono fun e w'' ⟨he, hb⟩ => ⟨he, h.trans (hb.mono h.size)⟩) ?_
  simp only [Act.put, List.setIfInBounds_toArray, List.set_cons_zero, List.set_cons_succ]
  iterate 2 (go_big_quiet_step ((intros; rfl)))
  refine wpQuiet_nil ?_
  intro w2 b2
  have B2 := Lib.hid (B1.out.trans (b2.mono B1.out.size))
  have HA := Lib.hid (alive_any w2 (HN.out.below B2.out))
  clear b2
  go_wp2_with (fail)
  refine HA.out.mono ?_
  rintro e w3 ⟨rfl, b3⟩
  have B3 := Lib.hid (B2.out.trans (b3.mono B2.out.size))
  clear b3
  go_wp2
  go_ret
  exact ⟨rfl, B3.out⟩
set_option maxHeartbeats 1600000 in
theorem encodes_yes (o : Oq) (w : World) (hf : FitsOq o) (h : NamesAt w) (hv : validB o = true) :
    Calls Tryd.prog 3 #[.agg (cellsOq o)] w fun e w' => e = .returned (.bool true) ∧ Below w.heap.size w w' := by
  have HN := Lib.hid h
  have K0 : Hid (Blk (w.alloc (.cells (cellsOq o) 24)) w.heap.size 24 (cellsOq o)) := Lib.hid (Blk.new w _ _)
  have B0 : Hid (Below w.heap.size w (w.alloc (.cells (cellsOq o) 24))) := Lib.hid ((Below.refl _ _).alloc (Nat.le_refl _) _)
  have HV := Lib.hid (fun w => valid_any o hf w)
  have HR := Lib.hid (fun w => refvalid_any o w)
  have HE := Lib.hid (fun w => encode_yes o hv hf w)
  rw [hv] at HV HR
  obtain ⟨l, ho, _⟩ := shape_of hv hf
  have HRE := Lib.hid (fun w => refencode_any o l l.length rfl ho hf w)
  have HS := Lib.hid (fun w => size_any o.kd hf.1 w)
  have HSZ : Hid (sizeK o.kd = (encL o).length) := Lib.hid (by rw [encL_len ho]; simp [sizeK, ho])
  rw [HSZ.out] at HS
  have HAL := Lib.hid (encL_all ho)
  have hn11 : (encL o).length ≤ 11 := by rw [encL_len ho]; have := (ods_some ho).2.2.1; omega
  generalize encL o = L at *
  obtain ⟨n, hn⟩ : ∃ n, L.length = n := ⟨_, rfl⟩
  rw [hn] at HE HRE HS hn11
  have HLN := Lib.hid hn
  clear h hf hv ho hn HSZ
  go_enter Tryd.func3, Tryd.ntmps3
  go_upto_region 1 with (fail)
  generalize w.alloc (.cells (cellsOq o) 24) = W at *
  go_wp2_with (refine wpList_load_row rfl 24 _ rfl w.heap.size rfl 24 (cellsOq o) (0, 0) _ K0.out Tryd.underlying24 rfl infoOq ?_)
  refine (HE.out W).mono ?_
  rintro e w1 ⟨v, rfl, o1, b1⟩
  obtain ⟨a, cp, rfl, _, _, _, hb⟩ := o1.bys (S := fun _ => False) HAL.out (fun _ _ h => h)
  have Y1 := Lib.hid hb
  have K1 := Lib.hid (K0.out.below b1 K0.out.lt)
  have B1 := Lib.hid (B0.out.trans (b1.mono B0.out.size))
  clear b1 K0 B0 HE o1 hb
  go_upto_region 2 with (fail)
  refine wp_region_class (fun w' => Below w1.heap.size w1 w') (by kernel_rfl) (by kernel_rfl) (Below.refl _ _).drew ?_
  refine q_load_Oq 24 _ w.heap.size 0 o _ rfl rfl rfl (fun w' h => (K1.out.below h K1.out.lt).rangeOq) Tryd.underlying24 rfl infoOq ?_
  simp only [Act.put, List.setIfInBounds_toArray, List.set_cons_zero, List.set_cons_succ]
  refine q_call (.bool true) #[.agg (cellsOq o)] (by kernel_rfl) (by kernel_rfl) Tryd.call10 (fun w' h => (HV.out w').mono fun e w'' ⟨he, hb⟩ => ⟨he, h.trans (hb.mono h.size)⟩) ?_
  simp only [Act.put, List.setIfInBounds_toArray, List.set_cons_zero, List.set_cons_succ]
  refine q_load_Oq 24 _ w.heap.size 0 o _ rfl rfl rfl (fun w' h => (K1.out.below h K1.out.lt).rangeOq) Tryd.underlying24 rfl infoOq ?_
  simp only [Act.put, List.setIfInBounds_toArray, List.set_cons_zero, List.set_cons_succ]
  refine q_call (.bool true) #[.agg (cellsOq o)] (by kernel_rfl) (by kernel_rfl) Tryd.call11 (fun w' h => (HR.out w').mono fun e w'' ⟨he, hb⟩ => ⟨he, h.trans (hb.mono h.size)⟩) ?_
  simp only [Act.put, List.setIfInBounds_toArray, List.set_cons_zero, List.set_cons_succ]
  iterate 3 (go_big_quiet_step ((intros; rfl)))
  refine q_load_Oq 24 _ w.heap.size 0 o _ (by kernel_rfl) rfl rfl (fun w' h => (K1.out.below h K1.out.lt).rangeOq) Tryd.underlying24 rfl infoOq ?_
  simp only [Act.put, List.setIfInBounds_toArray, List.set_cons_zero, List.set_cons_succ]
  refine q_call (.bool true) #[.agg (cellsOq o)] (by kernel_rfl) (by kernel_rfl) Tryd.call11 (fun w' h => (HR.out w').mono fun e w'' ⟨he, hb⟩ => ⟨he, h.trans (hb.mono h.size)⟩) ?_
  simp only [Act.put, List.setIfInBounds_toArray, List.set_cons_zero, List.set_cons_succ]
  iterate 2 (go_big_quiet_step ((intros; rfl)))
  refine wpQuiet_nil ?_
  intro w2 b2
  have B2 := Lib.hid (B1.out.trans (b2.mono B1.out.size))
  have K2 := Lib.hid (K1.out.below b2 K1.out.lt)
  have Y2 := Lib.hid (Y1.out.below b2)
  have HA := Lib.hid (alive_any w2 (HN.out.below B2.out))
  clear b2 B1 K1 Y1 HV HR
  go_wp2_with (fail)
  refine HA.out.mono ?_
  rintro e w3 ⟨rfl, b3⟩
  have B3 := Lib.hid (B2.out.trans (b3.mono B2.out.size))
  have K3 := Lib.hid (K2.out.below b3 K2.out.lt)
  have Y3 := Lib.hid (Y2.out.below b3)
  clear b3 HA B2 K2 Y2
  go_wp2_with (refine wpList_load_rowG rfl 24 _ rfl w.heap.size rfl 24 (cellsOq o) (0, 0) _ K3.out Tryd.underlying24 rfl infoOq ?_)
  refine (HRE.out w3).mono ?_
  rintro e w4 ⟨v4, rfl, o4, b4⟩
  obtain ⟨a4, cp4, rfl, _, _, _, hb4⟩ := o4.bys (S := fun _ => False) HAL.out (fun _ _ h => h)
  have Z4 := Lib.hid hb4
  have B4 := Lib.hid (B3.out.trans (b4.mono B3.out.size))
  have K4 := Lib.hid (K3.out.below b4 K3.out.lt)
  have Y4 := Lib.hid (Y3.out.below b4)
  clear b4 o4 hb4 B3 K3 Y3
  go_wp2_with (fail)
  refine (equal_bytes _ _ _ _ n _ _ _ _ Y4.out Z4.out HLN.out (by omega)).mono ?_
  rintro e w5 ⟨rfl, q, hq⟩
  have B5 : Hid (Below w.heap.size w w5) := Lib.hid (by rw [hq]; exact below_drewN B4.out q)
  have K5 : Hid (Blk w5 w.heap.size 24 (cellsOq o)) := Lib.hid (by rw [hq]; exact K4.out.drewN q)
  have hc5 : w5.cell? ⟨w.heap.size, 0, none⟩ = some (.int .i64 o.kd) := K5.out.cell 0
  clear hq B4 K4 Y4 Z4
  go_wp2_with (fail)
  refine (HS.out w5).mono ?_
  rintro e w6 ⟨rfl, b6⟩
  have B6 := Lib.hid (B5.out.trans (b6.mono B5.out.size))
  clear b6 hc5
  go_wp2
  go_ret
  exact ⟨rfl, B6.out⟩
theorem walk_OpEncodes (a0 : Oq) (w : World) (w0 : FitsOq a0) (hL : laidMetH Tryd.prog Rows.opEncodesRow.laid w) :
    Calls Tryd.prog 3 #[.agg (cellsOq a0)] w fun e w' => e = .returned (.bool true) ∧ Below w.heap.size w w' := by
  rcases hv : validB a0 with _ | _
  · exact encodes_no a0 w w0 (names_of_laid hL) hv
  · exact encodes_yes a0 w w0 (names_of_laid hL) hv
end Go.Proofs.YtfepfcalfhegfaaDoor
