/- The statement ReceiptLines, walked: it returns true for every receipt. -/
import Derived.Test.YtjbbcnepeffiaaaDoorLaw
namespace Go.Proofs.YtjbbcnepeffiaaaDoor
open Go Go.RowKit Go.Deep
set_option linter.unusedVariables false
set_option linter.unusedSimpArgs false
set_option maxRecDepth 100000

set_option maxHeartbeats 3200000 in
theorem walk_ReceiptLines (a0 : Rc) (w : World) (w0 : FitsRc w a0) (hL : laidMetH Tryd.prog Rows.receiptSameRow.laid w) :
    Calls Tryd.prog 7 #[.agg (cellsRc a0)] w fun e w' => e = .returned (.bool true) ∧ Below w.heap.size w w' := by
  obtain ⟨la, lp, hr⟩ := w0
  have HV := Lib.hid (vars_of_laid hL)
  have HR := Lib.hid hr
  have F0 : Hid (RF w (w.alloc (.cells (cellsRc a0) 26)) w.heap.size a0) := Lib.hid ⟨Blk.new w _ _, (Below.refl _ _).alloc (Nat.le_refl _) _⟩
  have HFW := Lib.hid (fun w => few_any a0 w hr.lens.1 hr.lens.2)
  have HA := Lib.hid (fun w h => alive_any w h)
  clear hL hr
  cases hf : fewB a0 with
  | false =>
    rw [hf] at HFW
    clear hf
    go_enter Tryd.func7, Tryd.ntmps7
    go_upto_region 1 with (fail)
    generalize w.alloc (.cells (cellsRc a0) 26) = W at *
    go_wp2_with (refine wpList_load_row rfl 26 _ rfl w.heap.size rfl 26 (cellsRc a0) (0, 0) _ F0.out.box Tryd.underlying26 rfl infoRc ?_)
    refine (HFW.out W).mono ?_
    rintro e w1 ⟨rfl, b1⟩
    have F1 := Lib.hid (F0.out.below b1)
    clear b1 F0
    go_wp2_with (fail)
    refine (HA.out w1 (HV.out.below F1.out.bel)).mono ?_
    rintro e w2 ⟨rfl, b2⟩
    have F2 := Lib.hid (F1.out.below b2)
    clear b2 F1
    go_wp2_with (fail)
    go_ret
    exact ⟨rfl, F2.out.bel⟩
  | true =>
    have HS := Lib.hid (HR.out.some hf)
    rw [hf] at HFW
    clear hf
    go_enter Tryd.func7, Tryd.ntmps7
    go_upto_region 1 with (fail)
    generalize w.alloc (.cells (cellsRc a0) 26) = W at *
    go_wp2_with (refine wpList_load_row rfl 26 _ rfl w.heap.size rfl 26 (cellsRc a0) (0, 0) _ F0.out.box Tryd.underlying26 rfl infoRc ?_)
    refine (HFW.out W).mono ?_
    rintro e w1 ⟨rfl, b1⟩
    have F1 := Lib.hid (F0.out.below b1)
    clear b1 F0
    go_wp2_with (fail)
    try simp only [Act.put]
    refine wp_region_class (fun w' => RF w w' w.heap.size a0) (by kernel_rfl) (by kernel_rfl) F1.out.drew ?_
    refine q_call (.bool true) #[] rfl (by kernel_rfl) Tryd.call10 (fun w' h => h.call (HA.out w' (HV.out.below h.bel))) ?_
    simp only [Act.put, List.setIfInBounds_toArray, List.set_cons_zero, List.set_cons_succ]
    iterate 1 (go_big_quiet_step ((intros; rfl)))
    refine q_load 26 _ w.heap.size 26 (cellsRc a0) _ rfl rfl rfl (fun w' h => h.box) Tryd.underlying26 rfl infoRc ?_
    simp only [Act.put, List.setIfInBounds_toArray, List.set_cons_zero, List.set_cons_succ]
    refine q_call (.string (bs (lineL a0 la lp))) #[.agg (cellsRc a0)] rfl (by kernel_rfl) Tryd.call18 (fun w' h => h.call (format_any a0 la lp w' (HR.out.below h.bel) (HV.out.below h.bel) HS.out.1 HS.out.2)) ?_
    simp only [Act.put, List.setIfInBounds_toArray, List.set_cons_zero, List.set_cons_succ]
    refine q_load 26 _ w.heap.size 26 (cellsRc a0) _ rfl rfl rfl (fun w' h => h.box) Tryd.underlying26 rfl infoRc ?_
    simp only [Act.put, List.setIfInBounds_toArray, List.set_cons_zero, List.set_cons_succ]
    refine q_call (.string (bs (lineL a0 la lp))) #[.agg (cellsRc a0)] rfl (by kernel_rfl) Tryd.call19 (fun w' h => h.call (refline_any a0 la lp w' (HR.out.below h.bel) HS.out.1 HS.out.2)) ?_
    simp only [Act.put, List.setIfInBounds_toArray, List.set_cons_zero, List.set_cons_succ]
    refine q_eqS (lineL a0 la lp) (lineL a0 la lp) true (by simp) rfl rfl rfl ?_
    simp only [Act.put, List.setIfInBounds_toArray, List.set_cons_zero, List.set_cons_succ]
    iterate 2 (go_big_quiet_step ((intros; rfl)))
    refine wpQuiet_nil ?_
    intro w9 f9
    go_wp2_with (fail)
    go_ret
    exact ⟨rfl, f9.bel⟩
end Go.Proofs.YtjbbcnepeffiaaaDoor
