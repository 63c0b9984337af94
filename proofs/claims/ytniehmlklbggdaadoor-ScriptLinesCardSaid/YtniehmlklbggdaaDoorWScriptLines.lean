/- The statement ScriptLines, walked: it returns true for every operation. -/
import Derived.Test.YtniehmlklbggdaaDoorLive
import Derived.Test.YtniehmlklbggdaaDoorRForm
namespace Go.Proofs.YtniehmlklbggdaaDoor
open Go Go.RowKit
set_option linter.unusedVariables false
set_option linter.unusedSimpArgs false
set_option maxRecDepth 100000

theorem par_mal : parL malL = none := by decide +kernel
/-- What Parse answers to a line that Format wrote. -/
theorem par_format {o : Oq} (hf : FitsOq o) : (parL (lineL o)).isSome = validB o ∧ parD (lineL o) = if validB o = true then o else oqZ := by
  cases hv : validB o with
  | true =>
    obtain ⟨ds, _, hs⟩ := shape_of hv hf
    rw [parD, par_line hs]
    exact ⟨rfl, by simp⟩
  | false =>
    rw [parD, line_no hv, par_mal]
    exact ⟨rfl, by simp⟩
theorem line_len (o : Oq) (hf : FitsOq o) : (bs (lineL o)).size ≤ 90000 := by
  cases hv : validB o with
  | false => rw [line_no hv]; decide
  | true =>
    obtain ⟨ds, ho, hs⟩ := shape_of hv hf
    obtain ⟨k, hk, hkd⟩ := shape_k hs
    rw [line_yes hv ho, ← bs_append, show (o.kd - 1).toNat = k by omega, bs_nm, ByteArray.size_append]
    have h1 := nm_len k hk
    have h2 : (bs (opdT o ds)).size ≤ ds.length * 21 := by
      show (opdT o ds).length ≤ _
      unfold opdT
      clear ho hs
      induction ds with
      | nil => simp
      | cons d ds ih =>
        obtain ⟨u, hu, hu64⟩ := get_nat hf d
        have h3 := dec_len hu64
        rw [← hu] at h3
        have h4 : (decI (d.get o)).length ≤ 20 := h3
        simp only [List.flatMap_cons, List.length_append, List.length_cons]
        omega
    have h3 := (ods_some ho).2.2.2
    omega
set_option maxHeartbeats 1600000 in
theorem walk_ScriptLines (a0 : Oq) (w : World) (w0 : FitsOq a0) (hL : laidMetH Tryd.prog Rows.scriptDecodesRow.laid w) :
    Calls Tryd.prog 5 #[.agg (cellsOq a0)] w fun e w' => e = .returned (.bool true) ∧ Below w.heap.size w w' := by
  have HV := Lib.hid (vars_of_laid hL)
  have K0 : Hid (Blk (w.alloc (.cells (cellsOq a0) 35)) w.heap.size 35 (cellsOq a0)) := Lib.hid (Blk.new w _ _)
  have B0 : Hid (Below w.heap.size w (w.alloc (.cells (cellsOq a0) 35))) := Lib.hid ((Below.refl _ _).alloc (Nat.le_refl _) _)
  have HF := Lib.hid (fun w h => format_any a0 w0 w h)
  have HRF := Lib.hid (fun w => refformat_line a0 w0 w)
  have HRV := Lib.hid (fun w => refvalid_any a0 w)
  have HA := Lib.hid (fun w h => alive_any w h)
  obtain ⟨p1, p2⟩ := par_format w0
  have HP := Lib.hid (fun w h => parse_any (bs (lineL a0)) w (line_len a0 w0) h)
  rw [show (bs (lineL a0)).data.toList = lineL a0 from rfl, p1, p2] at HP
  have heq := str_eq (bs (lineL a0))
  have hne : ((bs (lineL a0)).toList != (bs (lineL a0)).toList) = false := by simp
  generalize bs (lineL a0) = S at *
  clear hL w0 p1 p2
  rcases hv : validB a0 with _ | _
  all_goals
    rw [hv] at HP HRV
    clear hv
    simp only [if_pos, if_neg, Bool.false_eq_true, not_false_eq_true] at HP
  · go_enter Tryd.func5, Tryd.ntmps5
    go_upto_region 1 with (fail)
    generalize w.alloc (.cells (cellsOq a0) 35) = W at *
    go_wp2_with (refine wpList_load_row rfl 35 _ rfl w.heap.size rfl 35 (cellsOq a0) (0, 0) _ K0.out Tryd.underlying35 rfl infoOq ?_)
    refine (HF.out W (HV.out.below B0.out)).mono ?_
    rintro e w1 ⟨rfl, b1⟩
    have B1 := Lib.hid (B0.out.trans (b1.mono B0.out.size))
    have K1 := Lib.hid (K0.out.below b1 K0.out.lt)
    clear b1 B0 K0
    go_wp2_with (fail)
    refine (HP.out w1 (HV.out.below B1.out)).mono ?_
    rintro e w2 ⟨rfl, b2⟩
    have ba : Below w2.heap.size w2 (w2.alloc (.cells (cellsOq oqZ) 35)) := (Below.refl _ _).alloc (Nat.le_refl _) _
    have B2 := Lib.hid ((B1.out.trans (b2.mono B1.out.size)).trans (ba.mono (Nat.le_trans B1.out.size b2.size)))
    have K2 := Lib.hid ((K1.out.below b2 K1.out.lt).below ba (Nat.lt_of_lt_of_le K1.out.lt b2.size))
    have P2 : Hid (Blk (w2.alloc (.cells (cellsOq oqZ) 35)) w2.heap.size 35 (cellsOq oqZ)) := Lib.hid (Blk.new w2 _ _)
    clear b2 ba B1 K1
    go_upto_region 3 with (refine wpList_store_row rfl _ _ _ rfl w2.heap.size (cellsOq oqZ) rfl rfl 35 _ (heap_alloc_new w2 _) infoOq rfl (cellsOq_one _) ?_; rw [World.setRow_alloc_new])
    generalize w2.alloc (.cells (cellsOq oqZ) 35) = w3 at *
    generalize w2.heap.size = g at *
    go_wp2_with (refine wpList_load_row rfl 35 _ rfl w.heap.size rfl 35 (cellsOq a0) (0, 0) _ K2.out Tryd.underlying35 rfl infoOq ?_)
    refine (HRF.out w3).mono ?_
    rintro e w4 ⟨rfl, b4⟩
    have B4 := Lib.hid (B2.out.trans (b4.mono B2.out.size))
    have K4 := Lib.hid (K2.out.below b4 K2.out.lt)
    have P4 := Lib.hid (P2.out.below b4 P2.out.lt)
    clear b4 B2 K2 P2
    go_wp2_with (refine wpList_load_rowG rfl 35 _ rfl w.heap.size rfl 35 (cellsOq a0) (0, 0) _ K4.out Tryd.underlying35 rfl infoOq ?_)
    refine (HRV.out w4).mono ?_
    rintro e w5 ⟨rfl, b5⟩
    have B5 := Lib.hid (B4.out.trans (b5.mono B4.out.size))
    have K5 := Lib.hid (K4.out.below b5 K4.out.lt)
    have P5 := Lib.hid (P4.out.below b5 P4.out.lt)
    clear b5 B4 K4 P4
    go_wp2_with (fail)
    refine (HA.out w5 (HV.out.below B5.out)).mono ?_
    rintro e w6 ⟨rfl, b6⟩
    have B6 := Lib.hid (B5.out.trans (b6.mono B5.out.size))
    have P6 := Lib.hid (P5.out.below b6 P5.out.lt)
    clear b6 B5 K5 P5
    go_wp2_with (first | (refine wpList_load_rowG rfl 35 _ rfl g rfl 35 (cellsOq oqZ) (0, 0) _ P6.out Tryd.underlying35 rfl infoOq ?_) | (refine wpList_build_OqG 35 _ rfl rfl oqZ (by kernel_rfl) ?_) | (refine wpList_valG (.bool true) rfl (exec_eqOq (p := oqZ) (q := oqZ) rfl rfl (by decide)) ?_))
    go_ret
    exact ⟨rfl, B6.out⟩
  · go_enter Tryd.func5, Tryd.ntmps5
    go_upto_region 1 with (fail)
    generalize w.alloc (.cells (cellsOq a0) 35) = W at *
    go_wp2_with (refine wpList_load_row rfl 35 _ rfl w.heap.size rfl 35 (cellsOq a0) (0, 0) _ K0.out Tryd.underlying35 rfl infoOq ?_)
    refine (HF.out W (HV.out.below B0.out)).mono ?_
    rintro e w1 ⟨rfl, b1⟩
    have B1 := Lib.hid (B0.out.trans (b1.mono B0.out.size))
    have K1 := Lib.hid (K0.out.below b1 K0.out.lt)
    clear b1 B0 K0
    go_wp2_with (fail)
    refine (HP.out w1 (HV.out.below B1.out)).mono ?_
    rintro e w2 ⟨rfl, b2⟩
    have ba : Below w2.heap.size w2 (w2.alloc (.cells (cellsOq a0) 35)) := (Below.refl _ _).alloc (Nat.le_refl _) _
    have B2 := Lib.hid ((B1.out.trans (b2.mono B1.out.size)).trans (ba.mono (Nat.le_trans B1.out.size b2.size)))
    have K2 := Lib.hid ((K1.out.below b2 K1.out.lt).below ba (Nat.lt_of_lt_of_le K1.out.lt b2.size))
    have P2 : Hid (Blk (w2.alloc (.cells (cellsOq a0) 35)) w2.heap.size 35 (cellsOq a0)) := Lib.hid (Blk.new w2 _ _)
    clear b2 ba B1 K1
    go_upto_region 3 with (refine wpList_store_row rfl _ _ _ rfl w2.heap.size (cellsOq a0) rfl rfl 35 _ (heap_alloc_new w2 _) infoOq rfl (cellsOq_one _) ?_; rw [World.setRow_alloc_new])
    generalize w2.alloc (.cells (cellsOq a0) 35) = w3 at *
    generalize w2.heap.size = g at *
    go_wp2_with (refine wpList_load_row rfl 35 _ rfl w.heap.size rfl 35 (cellsOq a0) (0, 0) _ K2.out Tryd.underlying35 rfl infoOq ?_)
    refine (HRF.out w3).mono ?_
    rintro e w4 ⟨rfl, b4⟩
    have B4 := Lib.hid (B2.out.trans (b4.mono B2.out.size))
    have K4 := Lib.hid (K2.out.below b4 K2.out.lt)
    have P4 := Lib.hid (P2.out.below b4 P2.out.lt)
    clear b4 B2 K2 P2
    go_wp2_with (refine wpList_load_rowG rfl 35 _ rfl w.heap.size rfl 35 (cellsOq a0) (0, 0) _ K4.out Tryd.underlying35 rfl infoOq ?_)
    refine (HRV.out w4).mono ?_
    rintro e w5 ⟨rfl, b5⟩
    have B5 := Lib.hid (B4.out.trans (b5.mono B4.out.size))
    have K5 := Lib.hid (K4.out.below b5 K4.out.lt)
    have P5 := Lib.hid (P4.out.below b5 P4.out.lt)
    clear b5 B4 K4 P4
    go_wp2_with (fail)
    refine (HA.out w5 (HV.out.below B5.out)).mono ?_
    rintro e w6 ⟨rfl, b6⟩
    have B6 := Lib.hid (B5.out.trans (b6.mono B5.out.size))
    have P6 := Lib.hid (P5.out.below b6 P5.out.lt)
    have K6 := Lib.hid (K5.out.below b6 K5.out.lt)
    clear b6 B5 K5 P5
    go_wp2_with (first | (refine wpList_load_rowG rfl 35 _ rfl g rfl 35 (cellsOq a0) (0, 0) _ P6.out Tryd.underlying35 rfl infoOq ?_) | (refine wpList_load_rowG rfl 35 _ rfl w.heap.size rfl 35 (cellsOq a0) (0, 0) _ K6.out Tryd.underlying35 rfl infoOq ?_) | (refine wpList_valG (.bool true) rfl (exec_eqOq (p := a0) (q := a0) rfl rfl (by simp)) ?_))
    go_ret
    exact ⟨rfl, B6.out⟩
end Go.Proofs.YtniehmlklbggdaaDoor
