/- The statement ReceiptSame, walked: it returns true for every pair of receipts. -/
import Derived.Test.YtjbbcnepeffiaaaDoorLaw
namespace Go.Proofs.YtjbbcnepeffiaaaDoor
open Go Go.RowKit Go.Deep
set_option linter.unusedVariables false
set_option linter.unusedSimpArgs false
set_option maxRecDepth 100000

set_option maxHeartbeats 3200000 in
theorem walk_ReceiptSame (a0 : Rc) (a1 : Rc) (w : World) (w0 : FitsRc w a0) (w1 : FitsRc w a1) (hL : laidMetH Tryd.prog Rows.receiptSameRow.laid w) :
    Calls Tryd.prog 3 #[.agg (cellsRc a0), .agg (cellsRc a1)] w fun e w' => e = .returned (.bool true) ∧ Below w.heap.size w w' := by
  obtain ⟨la, lp, hr⟩ := w0
  obtain ⟨lb, lq, hs⟩ := w1
  have HV := Lib.hid (vars_of_laid hL)
  have HR := Lib.hid hr
  have HS := Lib.hid hs
  have F0 : Hid (RF2 w ((w.alloc (.cells (cellsRc a0) 26)).alloc (.cells (cellsRc a1) 26)) w.heap.size (w.heap.size + 1) a0 a1) := Lib.hid ⟨(Blk.new w _ _).alloc _, by
    have h := Blk.new (w.alloc (.cells (cellsRc a0) 26)) 26 (cellsRc a1)
    rwa [show (w.alloc (.cells (cellsRc a0) 26)).heap.size = w.heap.size + 1 by simp] at h, ((Below.refl _ _).alloc (Nat.le_refl _) _).alloc (by simp) _⟩
  have HF0 := Lib.hid (fun w => few_any a0 w hr.lens.1 hr.lens.2)
  have HF1 := Lib.hid (fun w => few_any a1 w hs.lens.1 hs.lens.2)
  have HA := Lib.hid (fun w h => alive_any w h)
  obtain ⟨B, hB⟩ : ∃ B, sameB a0 a1 la lb lp lq = B := ⟨_, rfl⟩
  have HP : Hid (∀ w', Below w.heap.size w w' → Calls Tryd.prog 11 #[.agg (cellsRc a0), .agg (cellsRc a1)] w' fun e w'' => e = .returned (.bool B) ∧ Below w'.heap.size w' w'') := Lib.hid (fun w' h => by rw [← hB]; exact same_any a0 a1 la lb lp lq w' (HR.out.below h) (HS.out.below h))
  have HQ : Hid (∀ w', Below w.heap.size w w' → Calls Tryd.prog 12 #[.agg (cellsRc a0), .agg (cellsRc a1)] w' fun e w'' => e = .returned (.bool B) ∧ Below w'.heap.size w' w'') := Lib.hid (fun w' h => by rw [← hB]; exact refsame_any a0 a1 la lb lp lq w' (HR.out.below h) (HS.out.below h))
  have HX : Hid (∀ w', Below w.heap.size w w' → Calls Tryd.prog 11 #[.agg (cellsRc a0), .agg (cellsRc a0)] w' fun e w'' => e = .returned (.bool true) ∧ Below w'.heap.size w' w'') := Lib.hid (fun w' h => by
    have k := same_any a0 a0 la la lp lp w' (HR.out.below h) (HR.out.below h)
    rwa [sameB_self] at k)
  have HY : Hid (∀ w', Below w.heap.size w w' → Calls Tryd.prog 11 #[.agg (cellsRc a1), .agg (cellsRc a1)] w' fun e w'' => e = .returned (.bool true) ∧ Below w'.heap.size w' w'') := Lib.hid (fun w' h => by
    have k := same_any a1 a1 lb lb lq lq w' (HS.out.below h) (HS.out.below h)
    rwa [sameB_self] at k)
  clear hL hr hs hB
  cases hf : fewB a0 with
  | false =>
    rw [hf] at HF0
    clear hf
    go_enter Tryd.func3, Tryd.ntmps3
    go_upto_region 1 with (fail)
    generalize (w.alloc (.cells (cellsRc a0) 26)).alloc (.cells (cellsRc a1) 26) = W at *
    go_wp2_with (refine wpList_load_row rfl 26 _ rfl w.heap.size rfl 26 (cellsRc a0) (0, 0) _ F0.out.one Tryd.underlying26 rfl infoRc ?_)
    refine (HF0.out W).mono ?_
    rintro e w1 ⟨rfl, b1⟩
    have F1 := Lib.hid (F0.out.below b1)
    clear b1 F0
    go_wp2_with (fail)
    refine (HA.out w1 (HV.out.below F1.out.bel)).mono ?_
    rintro e wl ⟨rfl, bl⟩
    have FL := Lib.hid (F1.out.below bl)
    clear bl
    go_wp2_with (fail)
    go_ret
    exact ⟨rfl, FL.out.bel⟩
  | true =>
    rw [hf] at HF0
    clear hf
    cases hg : fewB a1 with
    | false =>
      rw [hg] at HF1
      clear hg
      go_enter Tryd.func3, Tryd.ntmps3
      go_upto_region 1 with (fail)
      generalize (w.alloc (.cells (cellsRc a0) 26)).alloc (.cells (cellsRc a1) 26) = W at *
      go_wp2_with (refine wpList_load_row rfl 26 _ rfl w.heap.size rfl 26 (cellsRc a0) (0, 0) _ F0.out.one Tryd.underlying26 rfl infoRc ?_)
      refine (HF0.out W).mono ?_
      rintro e w1 ⟨rfl, b1⟩
      have F1 := Lib.hid (F0.out.below b1)
      clear b1 F0
      go_wp2_with (refine wpList_load_rowG rfl 26 _ rfl (w.heap.size + 1) rfl 26 (cellsRc a1) (0, 0) _ F1.out.two Tryd.underlying26 rfl infoRc ?_)
      refine (HF1.out w1).mono ?_
      rintro e w2 ⟨rfl, b1⟩
      have F2 := Lib.hid (F1.out.below b1)
      clear b1 F1
      go_wp2_with (fail)
      refine (HA.out w2 (HV.out.below F2.out.bel)).mono ?_
      rintro e wl ⟨rfl, bl⟩
      have FL := Lib.hid (F2.out.below bl)
      clear bl
      go_wp2_with (fail)
      go_ret
      exact ⟨rfl, FL.out.bel⟩
    | true =>
      rw [hg] at HF1
      clear hg
      go_enter Tryd.func3, Tryd.ntmps3
      go_upto_region 1 with (fail)
      generalize (w.alloc (.cells (cellsRc a0) 26)).alloc (.cells (cellsRc a1) 26) = W at *
      go_wp2_with (refine wpList_load_row rfl 26 _ rfl w.heap.size rfl 26 (cellsRc a0) (0, 0) _ F0.out.one Tryd.underlying26 rfl infoRc ?_)
      refine (HF0.out W).mono ?_
      rintro e w1 ⟨rfl, b1⟩
      have F1 := Lib.hid (F0.out.below b1)
      clear b1 F0
      go_wp2_with (refine wpList_load_rowG rfl 26 _ rfl (w.heap.size + 1) rfl 26 (cellsRc a1) (0, 0) _ F1.out.two Tryd.underlying26 rfl infoRc ?_)
      refine (HF1.out w1).mono ?_
      rintro e w2 ⟨rfl, b1⟩
      have F2 := Lib.hid (F1.out.below b1)
      clear b1 F1
      go_wp2_with (fail)
      try simp only [Act.put]
      refine wp_region_class (fun w' => RF2 w w' w.heap.size (w.heap.size + 1) a0 a1) (by kernel_rfl) (by kernel_rfl) F2.out.drew ?_
      refine q_call (.bool true) #[] rfl (by kernel_rfl) Tryd.call10 (fun w' h => h.call (HA.out w' (HV.out.below h.bel))) ?_
      simp only [Act.put, List.setIfInBounds_toArray, List.set_cons_zero, List.set_cons_succ]
      iterate 1 (go_big_quiet_step ((intros; rfl)))
      refine q_load 26 _ w.heap.size 26 (cellsRc a0) _ rfl rfl rfl (fun w' h => h.one) Tryd.underlying26 rfl infoRc ?_
      simp only [Act.put, List.setIfInBounds_toArray, List.set_cons_zero, List.set_cons_succ]
      refine q_load 26 _ (w.heap.size + 1) 26 (cellsRc a1) _ rfl rfl rfl (fun w' h => h.two) Tryd.underlying26 rfl infoRc ?_
      simp only [Act.put, List.setIfInBounds_toArray, List.set_cons_zero, List.set_cons_succ]
      refine q_call (.bool B) #[.agg (cellsRc a0), .agg (cellsRc a1)] rfl (by kernel_rfl) Tryd.call11 (fun w' h => h.call (HP.out w' h.bel)) ?_
      simp only [Act.put, List.setIfInBounds_toArray, List.set_cons_zero, List.set_cons_succ]
      refine q_load 26 _ w.heap.size 26 (cellsRc a0) _ rfl rfl rfl (fun w' h => h.one) Tryd.underlying26 rfl infoRc ?_
      simp only [Act.put, List.setIfInBounds_toArray, List.set_cons_zero, List.set_cons_succ]
      refine q_load 26 _ (w.heap.size + 1) 26 (cellsRc a1) _ rfl rfl rfl (fun w' h => h.two) Tryd.underlying26 rfl infoRc ?_
      simp only [Act.put, List.setIfInBounds_toArray, List.set_cons_zero, List.set_cons_succ]
      refine q_call (.bool B) #[.agg (cellsRc a0), .agg (cellsRc a1)] rfl (by kernel_rfl) Tryd.call12 (fun w' h => h.call (HQ.out w' h.bel)) ?_
      simp only [Act.put, List.setIfInBounds_toArray, List.set_cons_zero, List.set_cons_succ]
      refine q_eqB 4 B B true (by simp) Tryd.underlying4 rfl rfl rfl ?_
      simp only [Act.put, List.setIfInBounds_toArray, List.set_cons_zero, List.set_cons_succ]
      iterate 2 (go_big_quiet_step ((intros; rfl)))
      refine q_load 26 _ w.heap.size 26 (cellsRc a0) _ rfl rfl rfl (fun w' h => h.one) Tryd.underlying26 rfl infoRc ?_
      simp only [Act.put, List.setIfInBounds_toArray, List.set_cons_zero, List.set_cons_succ]
      refine q_load 26 _ w.heap.size 26 (cellsRc a0) _ rfl rfl rfl (fun w' h => h.one) Tryd.underlying26 rfl infoRc ?_
      simp only [Act.put, List.setIfInBounds_toArray, List.set_cons_zero, List.set_cons_succ]
      refine q_call (.bool true) #[.agg (cellsRc a0), .agg (cellsRc a0)] rfl (by kernel_rfl) Tryd.call11 (fun w' h => h.call (HX.out w' h.bel)) ?_
      simp only [Act.put, List.setIfInBounds_toArray, List.set_cons_zero, List.set_cons_succ]
      iterate 2 (go_big_quiet_step ((intros; rfl)))
      refine q_load 26 _ (w.heap.size + 1) 26 (cellsRc a1) _ rfl rfl rfl (fun w' h => h.two) Tryd.underlying26 rfl infoRc ?_
      simp only [Act.put, List.setIfInBounds_toArray, List.set_cons_zero, List.set_cons_succ]
      refine q_load 26 _ (w.heap.size + 1) 26 (cellsRc a1) _ rfl rfl rfl (fun w' h => h.two) Tryd.underlying26 rfl infoRc ?_
      simp only [Act.put, List.setIfInBounds_toArray, List.set_cons_zero, List.set_cons_succ]
      refine q_call (.bool true) #[.agg (cellsRc a1), .agg (cellsRc a1)] rfl (by kernel_rfl) Tryd.call11 (fun w' h => h.call (HY.out w' h.bel)) ?_
      simp only [Act.put, List.setIfInBounds_toArray, List.set_cons_zero, List.set_cons_succ]
      iterate 2 (go_big_quiet_step ((intros; rfl)))
      refine wpQuiet_nil ?_
      intro w9 f9
      go_wp2_with (fail)
      go_ret
      exact ⟨rfl, f9.bel⟩
end Go.Proofs.YtjbbcnepeffiaaaDoor
