/- The statement ReceiptClones, walked: it returns true for every receipt (written by mkclones.py). -/
import Derived.Test.YtjbbcnepeffiaaaDoorCl
import Derived.Deep.CutRange
namespace Go.Proofs.YtjbbcnepeffiaaaDoor
open Go Go.RowKit Go.Deep
set_option linter.unusedVariables false
set_option linter.unusedSimpArgs false
set_option maxRecDepth 100000

set_option maxHeartbeats 6400000 in
theorem walk_ReceiptClones (a0 : Rc) (w : World) (w0 : FitsRc w a0) (hL : laidMetH Tryd.prog Rows.receiptSameRow.laid w) :
    Calls Tryd.prog 4 #[.agg (cellsRc a0)] w fun e w' => e = .returned (.bool true) ∧ Below w.heap.size w w' := by
  obtain ⟨la, lp, hr⟩ := w0
  have HV := Lib.hid (vars_of_laid hL)
  have HR := Lib.hid hr
  have F0 : Hid (RF w (w.alloc (.cells (cellsRc a0) 26)) w.heap.size a0) := Lib.hid ⟨Blk.new w _ _, (Below.refl _ _).alloc (Nat.le_refl _) _⟩
  have HFW := Lib.hid (fun w => few_any a0 w hr.lens.1 hr.lens.2)
  have HA := Lib.hid (fun w h => alive_any w h)
  clear hL hr
  cases hf : fewB a0 with
  | false =>
    rw [hf] at HFW
    clear hf
    go_enter Tryd.func4, Tryd.ntmps4
    go_upto_region 1 with (fail)
    generalize w.alloc (.cells (cellsRc a0) 26) = W at *
    go_wp2_with (refine wpList_load_row rfl 26 _ rfl w.heap.size rfl 26 (cellsRc a0) (0, 0) _ F0.out.box Tryd.underlying26 rfl infoRc ?_)
    refine (HFW.out W).mono ?_
    rintro e w1 ⟨rfl, b1⟩
    have F1 := Lib.hid (F0.out.below b1)
    clear b1 F0
    go_wp2_with (fail)
    refine (HA.out w1 (HV.out.below F1.out.bel)).mono ?_
    rintro e w2 ⟨rfl, b2⟩
    have F2 := Lib.hid (F1.out.below b2)
    clear b2 F1
    go_wp2_with (fail)
    go_ret
    exact ⟨rfl, F2.out.bel⟩
  | true =>
    have HN : Hid (a0.an ≤ 1000000 ∧ a0.pn ≤ 1000000) := Lib.hid (by have := few_yes hf; omega)
    have HFY := Lib.hid (few_yes hf)
    rw [hf] at HFW
    clear hf
    go_enter Tryd.func4, Tryd.ntmps4
    go_upto_region 1 with (fail)
    generalize w.alloc (.cells (cellsRc a0) 26) = W at *
    go_wp2_with (refine wpList_load_row rfl 26 _ rfl w.heap.size rfl 26 (cellsRc a0) (0, 0) _ F0.out.box Tryd.underlying26 rfl infoRc ?_)
    refine (HFW.out W).mono ?_
    rintro e w1 ⟨rfl, b1⟩
    have F1 := Lib.hid (F0.out.below b1)
    clear b1 F0
    go_upto_region 3 with (fail)
    go_cut [3, 4] from 11 to 14 (fun s3 s4 wx => ∃ (p q : Nat) (r1 r2 : Rc) (C : Nat), s3 = .pointer (some ⟨p, 0, none⟩) ∧ s4 = .pointer (some ⟨q, 0, none⟩) ∧ Hid (CPost w wx w.heap.size p q a0 r1 r2 la lp C))
    case first =>
      refine wp_region_first (fun w' => RF w w' w.heap.size a0) 6 4 [0, 2] (by kernel_rfl) (by kernel_rfl) F1.out.drew ?_
      simp only [List.filterMap_cons, List.filterMap_nil, List.getElem?_toArray, List.getElem?_cons_zero, List.getElem?_cons_succ]
      show wpQuiet _ _ _ _ [_, _] _
      refine q_load 26 _ w.heap.size 26 (cellsRc a0) _ rfl rfl rfl (fun w' h => h.box) Tryd.underlying26 rfl infoRc ?_
      simp only [Act.put, List.setIfInBounds_toArray, List.set_cons_zero, List.set_cons_succ]
      refine q_load 26 _ w.heap.size 26 (cellsRc a0) _ rfl rfl rfl (fun w' h => h.box) Tryd.underlying26 rfl infoRc ?_
      simp only [Act.put, List.setIfInBounds_toArray, List.set_cons_zero, List.set_cons_succ]
      refine wpQuiet_nil ?_
      have F9 := Lib.hid F1.out.drew
      generalize w1.drew = w9 at *
      refine headF_three (i := 1) (j := 4) (k := 5) (by kernel_rfl) (by omega) (by omega) (by omega) ?_ ?_ ?_
      · refine wpOp_at rfl rfl (wp_call_at rfl #[.agg (cellsRc a0)] (by kernel_rfl) Tryd.call13 ((clone_at a0 la lp w9 (HR.out.below F9.out.bel) HN.out).mono ?_))
        rintro e w10 ⟨r1, rfl, cn, bb⟩
        have F_w10 := Lib.hid (F9.out.below bb)
        have N1_w10 := Lib.hid (cn.base F9.out.bel.size)
        clear cn bb
        refine ⟨_, rfl, F_w10.out, ?_⟩
        simp only [Act.put, List.getElem_toArray, List.getElem_cons_zero, List.getElem_cons_succ, List.setIfInBounds_toArray, List.set_cons_zero, List.set_cons_succ, List.drop_succ_cons, List.drop_zero]
        refine headF_three (i := 3) (j := 4) (k := 5) (by kernel_rfl) (by omega) (by omega) (by omega) ?_ ?_ ?_
        · have RS_w11 := Lib.hid (rests_of N1_w10.out)
          refine wpOp_at rfl rfl (wp_call_at rfl #[.agg (cellsRc a0)] (by kernel_rfl) Tryd.call13 ((clone_at a0 la lp w10 (HR.out.below F_w10.out.bel) HN.out).mono ?_))
          rintro e w11 ⟨r2, rfl, cn, bb⟩
          have F_w11 := Lib.hid (F_w10.out.below bb)
          have N1_w11 := Lib.hid (N1_w10.out.below bb)
          have N2_w11 := Lib.hid cn
          have RA_w11 := Lib.hid (RS_w11.out.1.below bb)
          have RP_w11 := Lib.hid (RS_w11.out.2.below bb)
          clear cn bb
          refine ⟨_, rfl, F_w11.out, ?_⟩
          simp only [Act.put, List.getElem_toArray, List.getElem_cons_zero, List.getElem_cons_succ, List.setIfInBounds_toArray, List.set_cons_zero, List.set_cons_succ, List.drop_succ_cons, List.drop_zero]
          refine headF_two (i := 4) (k := 5) (by kernel_rfl) (by omega) (by omega) ?_ ?_
          · refine wpOp_at rfl rfl (wp_alloc_rc rfl ?_)
            have bb : Below w11.heap.size w11 (w11.alloc (.cells (cellsRc rcZ) 26)) := (Below.refl _ _).alloc (Nat.le_refl _) _
            have F_w12 := Lib.hid (F_w11.out.below bb)
            have N1_w12 := Lib.hid (N1_w11.out.below bb)
            have N2_w12 := Lib.hid (N2_w11.out.below bb)
            have RA_w12 := Lib.hid (RA_w11.out.below bb)
            have RP_w12 := Lib.hid (RP_w11.out.below bb)
            have P_w12 : Hid (Blk (w11.alloc (.cells (cellsRc rcZ) 26)) w11.heap.size 26 (cellsRc rcZ)) := Lib.hid (Blk.new _ _ _)
            have GP_w12 : Hid (w.heap.size < w11.heap.size) := Lib.hid F_w11.out.box.lt
            clear bb
            refine ⟨F_w12.out, ?_⟩
            generalize w11.alloc (.cells (cellsRc rcZ) 26) = w12 at *
            simp only [Act.put, List.getElem_toArray, List.getElem_cons_zero, List.getElem_cons_succ, List.setIfInBounds_toArray, List.set_cons_zero, List.set_cons_succ, List.drop_succ_cons, List.drop_zero]
            refine headF_one (i := 5) (by kernel_rfl) (by omega) ?_
            refine wpOp_at rfl rfl (wp_alloc_rc rfl ?_)
            have bb : Below w12.heap.size w12 (w12.alloc (.cells (cellsRc rcZ) 26)) := (Below.refl _ _).alloc (Nat.le_refl _) _
            have F_w13 := Lib.hid (F_w12.out.below bb)
            have N1_w13 := Lib.hid (N1_w12.out.below bb)
            have N2_w13 := Lib.hid (N2_w12.out.below bb)
            have RA_w13 := Lib.hid (RA_w12.out.below bb)
            have RP_w13 := Lib.hid (RP_w12.out.below bb)
            have P_w13 := Lib.hid (P_w12.out.below bb P_w12.out.lt)
            have Q_w13 : Hid (Blk (w12.alloc (.cells (cellsRc rcZ) 26)) w12.heap.size 26 (cellsRc rcZ)) := Lib.hid (Blk.new _ _ _)
            have GQ_w13 : Hid (w.heap.size < w12.heap.size) := Lib.hid F_w12.out.box.lt
            have NE_w13 : Hid (w11.heap.size ≠ w12.heap.size) := Lib.hid (by have := P_w12.out.lt; omega)
            clear bb
            refine ⟨F_w13.out, ?_⟩
            generalize w12.alloc (.cells (cellsRc rcZ) 26) = w13 at *
            simp only [Act.put, List.getElem_toArray, List.getElem_cons_zero, List.getElem_cons_succ, List.setIfInBounds_toArray, List.set_cons_zero, List.set_cons_succ, List.drop_succ_cons, List.drop_zero]
            have Z : Hid (CPost w ((w13.setRow (w11.heap.size) (cellsRc r1)).setRow (w12.heap.size) (cellsRc r2)) w.heap.size (w11.heap.size) (w12.heap.size) a0 r1 r2 la lp (w10.heap.size)) := Lib.hid (cl_leaf HR.out F_w13.out P_w13.out Q_w13.out NE_w13.out GP_w12.out GQ_w13.out (Nat.le_refl _) N1_w13.out N2_w13.out RA_w13.out RP_w13.out)
            have Q1 : Hid (Blk (w13.setRow (w11.heap.size) (cellsRc r1)) (w12.heap.size) 26 (cellsRc rcZ)) := Lib.hid (Q_w13.out.setRow_far (Ne.symm NE_w13.out) _)
            show Region.seqB _ _ _ _ _ = true ∧ _
            refine ⟨by kernel_rfl, ?_⟩
            try simp only [Act.put, List.getElem_toArray, List.getElem_cons_zero, List.getElem_cons_succ, List.setIfInBounds_toArray, List.set_cons_zero, List.set_cons_succ, List.drop_succ_cons, List.drop_zero]
            go_wp2_with (first | (refine wpList_store_row rfl _ _ _ rfl (w11.heap.size) (cellsRc r1) rfl rfl 26 _ P_w13.out infoRc rfl (cellsRc_one _) ?_) | (refine wpList_store_row rfl _ _ _ rfl (w12.heap.size) (cellsRc r2) rfl rfl 26 _ Q1.out infoRc rfl (cellsRc_one _) ?_))
            refine NoPanic.normal ?_
            go_wp2_with (fail)
            go_meet
            exact ⟨w11.heap.size, w12.heap.size, r1, r2, w10.heap.size, rfl, rfl, Z⟩
          · refine wpOp_at rfl rfl (wp_alloc_rc rfl ?_)
            have bb : Below w11.heap.size w11 (w11.alloc (.cells (cellsRc rcZ) 26)) := (Below.refl _ _).alloc (Nat.le_refl _) _
            have F_w14 := Lib.hid (F_w11.out.below bb)
            have N1_w14 := Lib.hid (N1_w11.out.below bb)
            have N2_w14 := Lib.hid (N2_w11.out.below bb)
            have RA_w14 := Lib.hid (RA_w11.out.below bb)
            have RP_w14 := Lib.hid (RP_w11.out.below bb)
            have Q_w14 : Hid (Blk (w11.alloc (.cells (cellsRc rcZ) 26)) w11.heap.size 26 (cellsRc rcZ)) := Lib.hid (Blk.new _ _ _)
            have GQ_w14 : Hid (w.heap.size < w11.heap.size) := Lib.hid F_w11.out.box.lt
            clear bb
            refine ⟨F_w14.out, ?_⟩
            generalize w11.alloc (.cells (cellsRc rcZ) 26) = w14 at *
            simp only [Act.put, List.getElem_toArray, List.getElem_cons_zero, List.getElem_cons_succ, List.setIfInBounds_toArray, List.set_cons_zero, List.set_cons_succ, List.drop_succ_cons, List.drop_zero]
            refine headF_one (i := 4) (by kernel_rfl) (by omega) ?_
            refine wpOp_at rfl rfl (wp_alloc_rc rfl ?_)
            have bb : Below w14.heap.size w14 (w14.alloc (.cells (cellsRc rcZ) 26)) := (Below.refl _ _).alloc (Nat.le_refl _) _
            have F_w15 := Lib.hid (F_w14.out.below bb)
            have N1_w15 := Lib.hid (N1_w14.out.below bb)
            have N2_w15 := Lib.hid (N2_w14.out.below bb)
            have RA_w15 := Lib.hid (RA_w14.out.below bb)
            have RP_w15 := Lib.hid (RP_w14.out.below bb)
            have Q_w15 := Lib.hid (Q_w14.out.below bb Q_w14.out.lt)
            have P_w15 : Hid (Blk (w14.alloc (.cells (cellsRc rcZ) 26)) w14.heap.size 26 (cellsRc rcZ)) := Lib.hid (Blk.new _ _ _)
            have GP_w15 : Hid (w.heap.size < w14.heap.size) := Lib.hid F_w14.out.box.lt
            have NE_w15 : Hid (w14.heap.size ≠ w11.heap.size) := Lib.hid (by have := Q_w14.out.lt; omega)
            clear bb
            refine ⟨F_w15.out, ?_⟩
            generalize w14.alloc (.cells (cellsRc rcZ) 26) = w15 at *
            simp only [Act.put, List.getElem_toArray, List.getElem_cons_zero, List.getElem_cons_succ, List.setIfInBounds_toArray, List.set_cons_zero, List.set_cons_succ, List.drop_succ_cons, List.drop_zero]
            have Z : Hid (CPost w ((w15.setRow (w14.heap.size) (cellsRc r1)).setRow (w11.heap.size) (cellsRc r2)) w.heap.size (w14.heap.size) (w11.heap.size) a0 r1 r2 la lp (w10.heap.size)) := Lib.hid (cl_leaf HR.out F_w15.out P_w15.out Q_w15.out NE_w15.out GP_w15.out GQ_w14.out (Nat.le_refl _) N1_w15.out N2_w15.out RA_w15.out RP_w15.out)
            have Q1 : Hid (Blk (w15.setRow (w14.heap.size) (cellsRc r1)) (w11.heap.size) 26 (cellsRc rcZ)) := Lib.hid (Q_w15.out.setRow_far (Ne.symm NE_w15.out) _)
            show Region.seqB _ _ _ _ _ = true ∧ _
            refine ⟨by kernel_rfl, ?_⟩
            try simp only [Act.put, List.getElem_toArray, List.getElem_cons_zero, List.getElem_cons_succ, List.setIfInBounds_toArray, List.set_cons_zero, List.set_cons_succ, List.drop_succ_cons, List.drop_zero]
            go_wp2_with (first | (refine wpList_store_row rfl _ _ _ rfl (w14.heap.size) (cellsRc r1) rfl rfl 26 _ P_w15.out infoRc rfl (cellsRc_one _) ?_) | (refine wpList_store_row rfl _ _ _ rfl (w11.heap.size) (cellsRc r2) rfl rfl 26 _ Q1.out infoRc rfl (cellsRc_one _) ?_))
            refine NoPanic.normal ?_
            go_wp2_with (fail)
            go_meet
            exact ⟨w14.heap.size, w11.heap.size, r1, r2, w10.heap.size, rfl, rfl, Z⟩
        · refine wpOp_at rfl rfl (wp_alloc_rc rfl ?_)
          have bb : Below w10.heap.size w10 (w10.alloc (.cells (cellsRc rcZ) 26)) := (Below.refl _ _).alloc (Nat.le_refl _) _
          have F_w16 := Lib.hid (F_w10.out.below bb)
          have N1_w16 := Lib.hid (N1_w10.out.below bb)
          have P_w16 : Hid (Blk (w10.alloc (.cells (cellsRc rcZ) 26)) w10.heap.size 26 (cellsRc rcZ)) := Lib.hid (Blk.new _ _ _)
          have GP_w16 : Hid (w.heap.size < w10.heap.size) := Lib.hid F_w10.out.box.lt
          clear bb
          refine ⟨F_w16.out, ?_⟩
          generalize w10.alloc (.cells (cellsRc rcZ) 26) = w16 at *
          simp only [Act.put, List.getElem_toArray, List.getElem_cons_zero, List.getElem_cons_succ, List.setIfInBounds_toArray, List.set_cons_zero, List.set_cons_succ, List.drop_succ_cons, List.drop_zero]
          refine headF_two (i := 3) (k := 5) (by kernel_rfl) (by omega) (by omega) ?_ ?_
          · have RS_w17 := Lib.hid (rests_of N1_w16.out)
            refine wpOp_at rfl rfl (wp_call_at rfl #[.agg (cellsRc a0)] (by kernel_rfl) Tryd.call13 ((clone_at a0 la lp w16 (HR.out.below F_w16.out.bel) HN.out).mono ?_))
            rintro e w17 ⟨r2, rfl, cn, bb⟩
            have F_w17 := Lib.hid (F_w16.out.below bb)
            have N1_w17 := Lib.hid (N1_w16.out.below bb)
            have P_w17 := Lib.hid (P_w16.out.below bb P_w16.out.lt)
            have N2_w17 := Lib.hid cn
            have RA_w17 := Lib.hid (RS_w17.out.1.below bb)
            have RP_w17 := Lib.hid (RS_w17.out.2.below bb)
            clear cn bb
            refine ⟨_, rfl, F_w17.out, ?_⟩
            simp only [Act.put, List.getElem_toArray, List.getElem_cons_zero, List.getElem_cons_succ, List.setIfInBounds_toArray, List.set_cons_zero, List.set_cons_succ, List.drop_succ_cons, List.drop_zero]
            refine headF_one (i := 5) (by kernel_rfl) (by omega) ?_
            refine wpOp_at rfl rfl (wp_alloc_rc rfl ?_)
            have bb : Below w17.heap.size w17 (w17.alloc (.cells (cellsRc rcZ) 26)) := (Below.refl _ _).alloc (Nat.le_refl _) _
            have F_w18 := Lib.hid (F_w17.out.below bb)
            have N1_w18 := Lib.hid (N1_w17.out.below bb)
            have N2_w18 := Lib.hid (N2_w17.out.below bb)
            have RA_w18 := Lib.hid (RA_w17.out.below bb)
            have RP_w18 := Lib.hid (RP_w17.out.below bb)
            have P_w18 := Lib.hid (P_w17.out.below bb P_w17.out.lt)
            have Q_w18 : Hid (Blk (w17.alloc (.cells (cellsRc rcZ) 26)) w17.heap.size 26 (cellsRc rcZ)) := Lib.hid (Blk.new _ _ _)
            have GQ_w18 : Hid (w.heap.size < w17.heap.size) := Lib.hid F_w17.out.box.lt
            have NE_w18 : Hid (w10.heap.size ≠ w17.heap.size) := Lib.hid (by have := P_w17.out.lt; omega)
            clear bb
            refine ⟨F_w18.out, ?_⟩
            generalize w17.alloc (.cells (cellsRc rcZ) 26) = w18 at *
            simp only [Act.put, List.getElem_toArray, List.getElem_cons_zero, List.getElem_cons_succ, List.setIfInBounds_toArray, List.set_cons_zero, List.set_cons_succ, List.drop_succ_cons, List.drop_zero]
            have Z : Hid (CPost w ((w18.setRow (w10.heap.size) (cellsRc r1)).setRow (w17.heap.size) (cellsRc r2)) w.heap.size (w10.heap.size) (w17.heap.size) a0 r1 r2 la lp (w16.heap.size)) := Lib.hid (cl_leaf HR.out F_w18.out P_w18.out Q_w18.out NE_w18.out GP_w16.out GQ_w18.out (Nat.le_refl _) N1_w18.out N2_w18.out RA_w18.out RP_w18.out)
            have Q1 : Hid (Blk (w18.setRow (w10.heap.size) (cellsRc r1)) (w17.heap.size) 26 (cellsRc rcZ)) := Lib.hid (Q_w18.out.setRow_far (Ne.symm NE_w18.out) _)
            show Region.seqB _ _ _ _ _ = true ∧ _
            refine ⟨by kernel_rfl, ?_⟩
            try simp only [Act.put, List.getElem_toArray, List.getElem_cons_zero, List.getElem_cons_succ, List.setIfInBounds_toArray, List.set_cons_zero, List.set_cons_succ, List.drop_succ_cons, List.drop_zero]
            go_wp2_with (first | (refine wpList_store_row rfl _ _ _ rfl (w10.heap.size) (cellsRc r1) rfl rfl 26 _ P_w18.out infoRc rfl (cellsRc_one _) ?_) | (refine wpList_store_row rfl _ _ _ rfl (w17.heap.size) (cellsRc r2) rfl rfl 26 _ Q1.out infoRc rfl (cellsRc_one _) ?_))
            refine NoPanic.normal ?_
            go_wp2_with (fail)
            go_meet
            exact ⟨w10.heap.size, w17.heap.size, r1, r2, w16.heap.size, rfl, rfl, Z⟩
          · refine wpOp_at rfl rfl (wp_alloc_rc rfl ?_)
            have bb : Below w16.heap.size w16 (w16.alloc (.cells (cellsRc rcZ) 26)) := (Below.refl _ _).alloc (Nat.le_refl _) _
            have F_w19 := Lib.hid (F_w16.out.below bb)
            have N1_w19 := Lib.hid (N1_w16.out.below bb)
            have P_w19 := Lib.hid (P_w16.out.below bb P_w16.out.lt)
            have Q_w19 : Hid (Blk (w16.alloc (.cells (cellsRc rcZ) 26)) w16.heap.size 26 (cellsRc rcZ)) := Lib.hid (Blk.new _ _ _)
            have GQ_w19 : Hid (w.heap.size < w16.heap.size) := Lib.hid F_w16.out.box.lt
            have NE_w19 : Hid (w10.heap.size ≠ w16.heap.size) := Lib.hid (by have := P_w16.out.lt; omega)
            clear bb
            refine ⟨F_w19.out, ?_⟩
            generalize w16.alloc (.cells (cellsRc rcZ) 26) = w19 at *
            simp only [Act.put, List.getElem_toArray, List.getElem_cons_zero, List.getElem_cons_succ, List.setIfInBounds_toArray, List.set_cons_zero, List.set_cons_succ, List.drop_succ_cons, List.drop_zero]
            refine headF_one (i := 3) (by kernel_rfl) (by omega) ?_
            have RS_w20 := Lib.hid (rests_of N1_w19.out)
            refine wpOp_at rfl rfl (wp_call_at rfl #[.agg (cellsRc a0)] (by kernel_rfl) Tryd.call13 ((clone_at a0 la lp w19 (HR.out.below F_w19.out.bel) HN.out).mono ?_))
            rintro e w20 ⟨r2, rfl, cn, bb⟩
            have F_w20 := Lib.hid (F_w19.out.below bb)
            have N1_w20 := Lib.hid (N1_w19.out.below bb)
            have P_w20 := Lib.hid (P_w19.out.below bb P_w19.out.lt)
            have Q_w20 := Lib.hid (Q_w19.out.below bb Q_w19.out.lt)
            have N2_w20 := Lib.hid cn
            have RA_w20 := Lib.hid (RS_w20.out.1.below bb)
            have RP_w20 := Lib.hid (RS_w20.out.2.below bb)
            clear cn bb
            refine ⟨_, rfl, F_w20.out, ?_⟩
            simp only [Act.put, List.getElem_toArray, List.getElem_cons_zero, List.getElem_cons_succ, List.setIfInBounds_toArray, List.set_cons_zero, List.set_cons_succ, List.drop_succ_cons, List.drop_zero]
            have Z : Hid (CPost w ((w20.setRow (w10.heap.size) (cellsRc r1)).setRow (w16.heap.size) (cellsRc r2)) w.heap.size (w10.heap.size) (w16.heap.size) a0 r1 r2 la lp (w19.heap.size)) := Lib.hid (cl_leaf HR.out F_w20.out P_w20.out Q_w20.out NE_w19.out GP_w16.out GQ_w19.out (Nat.le_refl _) N1_w20.out N2_w20.out RA_w20.out RP_w20.out)
            have Q1 : Hid (Blk (w20.setRow (w10.heap.size) (cellsRc r1)) (w16.heap.size) 26 (cellsRc rcZ)) := Lib.hid (Q_w20.out.setRow_far (Ne.symm NE_w19.out) _)
            show Region.seqB _ _ _ _ _ = true ∧ _
            refine ⟨by kernel_rfl, ?_⟩
            try simp only [Act.put, List.getElem_toArray, List.getElem_cons_zero, List.getElem_cons_succ, List.setIfInBounds_toArray, List.set_cons_zero, List.set_cons_succ, List.drop_succ_cons, List.drop_zero]
            go_wp2_with (first | (refine wpList_store_row rfl _ _ _ rfl (w10.heap.size) (cellsRc r1) rfl rfl 26 _ P_w20.out infoRc rfl (cellsRc_one _) ?_) | (refine wpList_store_row rfl _ _ _ rfl (w16.heap.size) (cellsRc r2) rfl rfl 26 _ Q1.out infoRc rfl (cellsRc_one _) ?_))
            refine NoPanic.normal ?_
            go_wp2_with (fail)
            go_meet
            exact ⟨w10.heap.size, w16.heap.size, r1, r2, w19.heap.size, rfl, rfl, Z⟩
        · refine wpOp_at rfl rfl (wp_alloc_rc rfl ?_)
          have bb : Below w10.heap.size w10 (w10.alloc (.cells (cellsRc rcZ) 26)) := (Below.refl _ _).alloc (Nat.le_refl _) _
          have F_w21 := Lib.hid (F_w10.out.below bb)
          have N1_w21 := Lib.hid (N1_w10.out.below bb)
          have Q_w21 : Hid (Blk (w10.alloc (.cells (cellsRc rcZ) 26)) w10.heap.size 26 (cellsRc rcZ)) := Lib.hid (Blk.new _ _ _)
          have GQ_w21 : Hid (w.heap.size < w10.heap.size) := Lib.hid F_w10.out.box.lt
          clear bb
          refine ⟨F_w21.out, ?_⟩
          generalize w10.alloc (.cells (cellsRc rcZ) 26) = w21 at *
          simp only [Act.put, List.getElem_toArray, List.getElem_cons_zero, List.getElem_cons_succ, List.setIfInBounds_toArray, List.set_cons_zero, List.set_cons_succ, List.drop_succ_cons, List.drop_zero]
          refine headF_two (i := 3) (k := 4) (by kernel_rfl) (by omega) (by omega) ?_ ?_
          · have RS_w22 := Lib.hid (rests_of N1_w21.out)
            refine wpOp_at rfl rfl (wp_call_at rfl #[.agg (cellsRc a0)] (by kernel_rfl) Tryd.call13 ((clone_at a0 la lp w21 (HR.out.below F_w21.out.bel) HN.out).mono ?_))
            rintro e w22 ⟨r2, rfl, cn, bb⟩
            have F_w22 := Lib.hid (F_w21.out.below bb)
            have N1_w22 := Lib.hid (N1_w21.out.below bb)
            have Q_w22 := Lib.hid (Q_w21.out.below bb Q_w21.out.lt)
            have N2_w22 := Lib.hid cn
            have RA_w22 := Lib.hid (RS_w22.out.1.below bb)
            have RP_w22 := Lib.hid (RS_w22.out.2.below bb)
            clear cn bb
            refine ⟨_, rfl, F_w22.out, ?_⟩
            simp only [Act.put, List.getElem_toArray, List.getElem_cons_zero, List.getElem_cons_succ, List.setIfInBounds_toArray, List.set_cons_zero, List.set_cons_succ, List.drop_succ_cons, List.drop_zero]
            refine headF_one (i := 4) (by kernel_rfl) (by omega) ?_
            refine wpOp_at rfl rfl (wp_alloc_rc rfl ?_)
            have bb : Below w22.heap.size w22 (w22.alloc (.cells (cellsRc rcZ) 26)) := (Below.refl _ _).alloc (Nat.le_refl _) _
            have F_w23 := Lib.hid (F_w22.out.below bb)
            have N1_w23 := Lib.hid (N1_w22.out.below bb)
            have N2_w23 := Lib.hid (N2_w22.out.below bb)
            have RA_w23 := Lib.hid (RA_w22.out.below bb)
            have RP_w23 := Lib.hid (RP_w22.out.below bb)
            have Q_w23 := Lib.hid (Q_w22.out.below bb Q_w22.out.lt)
            have P_w23 : Hid (Blk (w22.alloc (.cells (cellsRc rcZ) 26)) w22.heap.size 26 (cellsRc rcZ)) := Lib.hid (Blk.new _ _ _)
            have GP_w23 : Hid (w.heap.size < w22.heap.size) := Lib.hid F_w22.out.box.lt
            have NE_w23 : Hid (w22.heap.size ≠ w10.heap.size) := Lib.hid (by have := Q_w22.out.lt; omega)
            clear bb
            refine ⟨F_w23.out, ?_⟩
            generalize w22.alloc (.cells (cellsRc rcZ) 26) = w23 at *
            simp only [Act.put, List.getElem_toArray, List.getElem_cons_zero, List.getElem_cons_succ, List.setIfInBounds_toArray, List.set_cons_zero, List.set_cons_succ, List.drop_succ_cons, List.drop_zero]
            have Z : Hid (CPost w ((w23.setRow (w22.heap.size) (cellsRc r1)).setRow (w10.heap.size) (cellsRc r2)) w.heap.size (w22.heap.size) (w10.heap.size) a0 r1 r2 la lp (w21.heap.size)) := Lib.hid (cl_leaf HR.out F_w23.out P_w23.out Q_w23.out NE_w23.out GP_w23.out GQ_w21.out (Nat.le_refl _) N1_w23.out N2_w23.out RA_w23.out RP_w23.out)
            have Q1 : Hid (Blk (w23.setRow (w22.heap.size) (cellsRc r1)) (w10.heap.size) 26 (cellsRc rcZ)) := Lib.hid (Q_w23.out.setRow_far (Ne.symm NE_w23.out) _)
            show Region.seqB _ _ _ _ _ = true ∧ _
            refine ⟨by kernel_rfl, ?_⟩
            try simp only [Act.put, List.getElem_toArray, List.getElem_cons_zero, List.getElem_cons_succ, List.setIfInBounds_toArray, List.set_cons_zero, List.set_cons_succ, List.drop_succ_cons, List.drop_zero]
            go_wp2_with (first | (refine wpList_store_row rfl _ _ _ rfl (w22.heap.size) (cellsRc r1) rfl rfl 26 _ P_w23.out infoRc rfl (cellsRc_one _) ?_) | (refine wpList_store_row rfl _ _ _ rfl (w10.heap.size) (cellsRc r2) rfl rfl 26 _ Q1.out infoRc rfl (cellsRc_one _) ?_))
            refine NoPanic.normal ?_
            go_wp2_with (fail)
            go_meet
            exact ⟨w22.heap.size, w10.heap.size, r1, r2, w21.heap.size, rfl, rfl, Z⟩
          · refine wpOp_at rfl rfl (wp_alloc_rc rfl ?_)
            have bb : Below w21.heap.size w21 (w21.alloc (.cells (cellsRc rcZ) 26)) := (Below.refl _ _).alloc (Nat.le_refl _) _
            have F_w24 := Lib.hid (F_w21.out.below bb)
            have N1_w24 := Lib.hid (N1_w21.out.below bb)
            have Q_w24 := Lib.hid (Q_w21.out.below bb Q_w21.out.lt)
            have P_w24 : Hid (Blk (w21.alloc (.cells (cellsRc rcZ) 26)) w21.heap.size 26 (cellsRc rcZ)) := Lib.hid (Blk.new _ _ _)
            have GP_w24 : Hid (w.heap.size < w21.heap.size) := Lib.hid F_w21.out.box.lt
            have NE_w24 : Hid (w21.heap.size ≠ w10.heap.size) := Lib.hid (by have := Q_w21.out.lt; omega)
            clear bb
            refine ⟨F_w24.out, ?_⟩
            generalize w21.alloc (.cells (cellsRc rcZ) 26) = w24 at *
            simp only [Act.put, List.getElem_toArray, List.getElem_cons_zero, List.getElem_cons_succ, List.setIfInBounds_toArray, List.set_cons_zero, List.set_cons_succ, List.drop_succ_cons, List.drop_zero]
            refine headF_one (i := 3) (by kernel_rfl) (by omega) ?_
            have RS_w25 := Lib.hid (rests_of N1_w24.out)
            refine wpOp_at rfl rfl (wp_call_at rfl #[.agg (cellsRc a0)] (by kernel_rfl) Tryd.call13 ((clone_at a0 la lp w24 (HR.out.below F_w24.out.bel) HN.out).mono ?_))
            rintro e w25 ⟨r2, rfl, cn, bb⟩
            have F_w25 := Lib.hid (F_w24.out.below bb)
            have N1_w25 := Lib.hid (N1_w24.out.below bb)
            have P_w25 := Lib.hid (P_w24.out.below bb P_w24.out.lt)
            have Q_w25 := Lib.hid (Q_w24.out.below bb Q_w24.out.lt)
            have N2_w25 := Lib.hid cn
            have RA_w25 := Lib.hid (RS_w25.out.1.below bb)
            have RP_w25 := Lib.hid (RS_w25.out.2.below bb)
            clear cn bb
            refine ⟨_, rfl, F_w25.out, ?_⟩
            simp only [Act.put, List.getElem_toArray, List.getElem_cons_zero, List.getElem_cons_succ, List.setIfInBounds_toArray, List.set_cons_zero, List.set_cons_succ, List.drop_succ_cons, List.drop_zero]
            have Z : Hid (CPost w ((w25.setRow (w21.heap.size) (cellsRc r1)).setRow (w10.heap.size) (cellsRc r2)) w.heap.size (w21.heap.size) (w10.heap.size) a0 r1 r2 la lp (w24.heap.size)) := Lib.hid (cl_leaf HR.out F_w25.out P_w25.out Q_w25.out NE_w24.out GP_w24.out GQ_w21.out (Nat.le_refl _) N1_w25.out N2_w25.out RA_w25.out RP_w25.out)
            have Q1 : Hid (Blk (w25.setRow (w21.heap.size) (cellsRc r1)) (w10.heap.size) 26 (cellsRc rcZ)) := Lib.hid (Q_w25.out.setRow_far (Ne.symm NE_w24.out) _)
            show Region.seqB _ _ _ _ _ = true ∧ _
            refine ⟨by kernel_rfl, ?_⟩
            try simp only [Act.put, List.getElem_toArray, List.getElem_cons_zero, List.getElem_cons_succ, List.setIfInBounds_toArray, List.set_cons_zero, List.set_cons_succ, List.drop_succ_cons, List.drop_zero]
            go_wp2_with (first | (refine wpList_store_row rfl _ _ _ rfl (w21.heap.size) (cellsRc r1) rfl rfl 26 _ P_w25.out infoRc rfl (cellsRc_one _) ?_) | (refine wpList_store_row rfl _ _ _ rfl (w10.heap.size) (cellsRc r2) rfl rfl 26 _ Q1.out infoRc rfl (cellsRc_one _) ?_))
            refine NoPanic.normal ?_
            go_wp2_with (fail)
            go_meet
            exact ⟨w21.heap.size, w10.heap.size, r1, r2, w24.heap.size, rfl, rfl, Z⟩
      · refine wpOp_at rfl rfl (wp_alloc_rc rfl ?_)
        have bb : Below w9.heap.size w9 (w9.alloc (.cells (cellsRc rcZ) 26)) := (Below.refl _ _).alloc (Nat.le_refl _) _
        have F_w26 := Lib.hid (F9.out.below bb)
        have P_w26 : Hid (Blk (w9.alloc (.cells (cellsRc rcZ) 26)) w9.heap.size 26 (cellsRc rcZ)) := Lib.hid (Blk.new _ _ _)
        have GP_w26 : Hid (w.heap.size < w9.heap.size) := Lib.hid F9.out.box.lt
        clear bb
        refine ⟨F_w26.out, ?_⟩
        generalize w9.alloc (.cells (cellsRc rcZ) 26) = w26 at *
        simp only [Act.put, List.getElem_toArray, List.getElem_cons_zero, List.getElem_cons_succ, List.setIfInBounds_toArray, List.set_cons_zero, List.set_cons_succ, List.drop_succ_cons, List.drop_zero]
        refine headF_two (i := 1) (k := 5) (by kernel_rfl) (by omega) (by omega) ?_ ?_
        · refine wpOp_at rfl rfl (wp_call_at rfl #[.agg (cellsRc a0)] (by kernel_rfl) Tryd.call13 ((clone_at a0 la lp w26 (HR.out.below F_w26.out.bel) HN.out).mono ?_))
          rintro e w27 ⟨r1, rfl, cn, bb⟩
          have F_w27 := Lib.hid (F_w26.out.below bb)
          have P_w27 := Lib.hid (P_w26.out.below bb P_w26.out.lt)
          have N1_w27 := Lib.hid (cn.base F_w26.out.bel.size)
          clear cn bb
          refine ⟨_, rfl, F_w27.out, ?_⟩
          simp only [Act.put, List.getElem_toArray, List.getElem_cons_zero, List.getElem_cons_succ, List.setIfInBounds_toArray, List.set_cons_zero, List.set_cons_succ, List.drop_succ_cons, List.drop_zero]
          refine headF_two (i := 3) (k := 5) (by kernel_rfl) (by omega) (by omega) ?_ ?_
          · have RS_w28 := Lib.hid (rests_of N1_w27.out)
            refine wpOp_at rfl rfl (wp_call_at rfl #[.agg (cellsRc a0)] (by kernel_rfl) Tryd.call13 ((clone_at a0 la lp w27 (HR.out.below F_w27.out.bel) HN.out).mono ?_))
            rintro e w28 ⟨r2, rfl, cn, bb⟩
            have F_w28 := Lib.hid (F_w27.out.below bb)
            have N1_w28 := Lib.hid (N1_w27.out.below bb)
            have P_w28 := Lib.hid (P_w27.out.below bb P_w27.out.lt)
            have N2_w28 := Lib.hid cn
            have RA_w28 := Lib.hid (RS_w28.out.1.below bb)
            have RP_w28 := Lib.hid (RS_w28.out.2.below bb)
            clear cn bb
            refine ⟨_, rfl, F_w28.out, ?_⟩
            simp only [Act.put, List.getElem_toArray, List.getElem_cons_zero, List.getElem_cons_succ, List.setIfInBounds_toArray, List.set_cons_zero, List.set_cons_succ, List.drop_succ_cons, List.drop_zero]
            refine headF_one (i := 5) (by kernel_rfl) (by omega) ?_
            refine wpOp_at rfl rfl (wp_alloc_rc rfl ?_)
            have bb : Below w28.heap.size w28 (w28.alloc (.cells (cellsRc rcZ) 26)) := (Below.refl _ _).alloc (Nat.le_refl _) _
            have F_w29 := Lib.hid (F_w28.out.below bb)
            have N1_w29 := Lib.hid (N1_w28.out.below bb)
            have N2_w29 := Lib.hid (N2_w28.out.below bb)
            have RA_w29 := Lib.hid (RA_w28.out.below bb)
            have RP_w29 := Lib.hid (RP_w28.out.below bb)
            have P_w29 := Lib.hid (P_w28.out.below bb P_w28.out.lt)
            have Q_w29 : Hid (Blk (w28.alloc (.cells (cellsRc rcZ) 26)) w28.heap.size 26 (cellsRc rcZ)) := Lib.hid (Blk.new _ _ _)
            have GQ_w29 : Hid (w.heap.size < w28.heap.size) := Lib.hid F_w28.out.box.lt
            have NE_w29 : Hid (w9.heap.size ≠ w28.heap.size) := Lib.hid (by have := P_w28.out.lt; omega)
            clear bb
            refine ⟨F_w29.out, ?_⟩
            generalize w28.alloc (.cells (cellsRc rcZ) 26) = w29 at *
            simp only [Act.put, List.getElem_toArray, List.getElem_cons_zero, List.getElem_cons_succ, List.setIfInBounds_toArray, List.set_cons_zero, List.set_cons_succ, List.drop_succ_cons, List.drop_zero]
            have Z : Hid (CPost w ((w29.setRow (w9.heap.size) (cellsRc r1)).setRow (w28.heap.size) (cellsRc r2)) w.heap.size (w9.heap.size) (w28.heap.size) a0 r1 r2 la lp (w27.heap.size)) := Lib.hid (cl_leaf HR.out F_w29.out P_w29.out Q_w29.out NE_w29.out GP_w26.out GQ_w29.out (Nat.le_refl _) N1_w29.out N2_w29.out RA_w29.out RP_w29.out)
            have Q1 : Hid (Blk (w29.setRow (w9.heap.size) (cellsRc r1)) (w28.heap.size) 26 (cellsRc rcZ)) := Lib.hid (Q_w29.out.setRow_far (Ne.symm NE_w29.out) _)
            show Region.seqB _ _ _ _ _ = true ∧ _
            refine ⟨by kernel_rfl, ?_⟩
            try simp only [Act.put, List.getElem_toArray, List.getElem_cons_zero, List.getElem_cons_succ, List.setIfInBounds_toArray, List.set_cons_zero, List.set_cons_succ, List.drop_succ_cons, List.drop_zero]
            go_wp2_with (first | (refine wpList_store_row rfl _ _ _ rfl (w9.heap.size) (cellsRc r1) rfl rfl 26 _ P_w29.out infoRc rfl (cellsRc_one _) ?_) | (refine wpList_store_row rfl _ _ _ rfl (w28.heap.size) (cellsRc r2) rfl rfl 26 _ Q1.out infoRc rfl (cellsRc_one _) ?_))
            refine NoPanic.normal ?_
            go_wp2_with (fail)
            go_meet
            exact ⟨w9.heap.size, w28.heap.size, r1, r2, w27.heap.size, rfl, rfl, Z⟩
          · refine wpOp_at rfl rfl (wp_alloc_rc rfl ?_)
            have bb : Below w27.heap.size w27 (w27.alloc (.cells (cellsRc rcZ) 26)) := (Below.refl _ _).alloc (Nat.le_refl _) _
            have F_w30 := Lib.hid (F_w27.out.below bb)
            have N1_w30 := Lib.hid (N1_w27.out.below bb)
            have P_w30 := Lib.hid (P_w27.out.below bb P_w27.out.lt)
            have Q_w30 : Hid (Blk (w27.alloc (.cells (cellsRc rcZ) 26)) w27.heap.size 26 (cellsRc rcZ)) := Lib.hid (Blk.new _ _ _)
            have GQ_w30 : Hid (w.heap.size < w27.heap.size) := Lib.hid F_w27.out.box.lt
            have NE_w30 : Hid (w9.heap.size ≠ w27.heap.size) := Lib.hid (by have := P_w27.out.lt; omega)
            clear bb
            refine ⟨F_w30.out, ?_⟩
            generalize w27.alloc (.cells (cellsRc rcZ) 26) = w30 at *
            simp only [Act.put, List.getElem_toArray, List.getElem_cons_zero, List.getElem_cons_succ, List.setIfInBounds_toArray, List.set_cons_zero, List.set_cons_succ, List.drop_succ_cons, List.drop_zero]
            refine headF_one (i := 3) (by kernel_rfl) (by omega) ?_
            have RS_w31 := Lib.hid (rests_of N1_w30.out)
            refine wpOp_at rfl rfl (wp_call_at rfl #[.agg (cellsRc a0)] (by kernel_rfl) Tryd.call13 ((clone_at a0 la lp w30 (HR.out.below F_w30.out.bel) HN.out).mono ?_))
            rintro e w31 ⟨r2, rfl, cn, bb⟩
            have F_w31 := Lib.hid (F_w30.out.below bb)
            have N1_w31 := Lib.hid (N1_w30.out.below bb)
            have P_w31 := Lib.hid (P_w30.out.below bb P_w30.out.lt)
            have Q_w31 := Lib.hid (Q_w30.out.below bb Q_w30.out.lt)
            have N2_w31 := Lib.hid cn
            have RA_w31 := Lib.hid (RS_w31.out.1.below bb)
            have RP_w31 := Lib.hid (RS_w31.out.2.below bb)
            clear cn bb
            refine ⟨_, rfl, F_w31.out, ?_⟩
            simp only [Act.put, List.getElem_toArray, List.getElem_cons_zero, List.getElem_cons_succ, List.setIfInBounds_toArray, List.set_cons_zero, List.set_cons_succ, List.drop_succ_cons, List.drop_zero]
            have Z : Hid (CPost w ((w31.setRow (w9.heap.size) (cellsRc r1)).setRow (w27.heap.size) (cellsRc r2)) w.heap.size (w9.heap.size) (w27.heap.size) a0 r1 r2 la lp (w30.heap.size)) := Lib.hid (cl_leaf HR.out F_w31.out P_w31.out Q_w31.out NE_w30.out GP_w26.out GQ_w30.out (Nat.le_refl _) N1_w31.out N2_w31.out RA_w31.out RP_w31.out)
            have Q1 : Hid (Blk (w31.setRow (w9.heap.size) (cellsRc r1)) (w27.heap.size) 26 (cellsRc rcZ)) := Lib.hid (Q_w31.out.setRow_far (Ne.symm NE_w30.out) _)
            show Region.seqB _ _ _ _ _ = true ∧ _
            refine ⟨by kernel_rfl, ?_⟩
            try simp only [Act.put, List.getElem_toArray, List.getElem_cons_zero, List.getElem_cons_succ, List.setIfInBounds_toArray, List.set_cons_zero, List.set_cons_succ, List.drop_succ_cons, List.drop_zero]
            go_wp2_with (first | (refine wpList_store_row rfl _ _ _ rfl (w9.heap.size) (cellsRc r1) rfl rfl 26 _ P_w31.out infoRc rfl (cellsRc_one _) ?_) | (refine wpList_store_row rfl _ _ _ rfl (w27.heap.size) (cellsRc r2) rfl rfl 26 _ Q1.out infoRc rfl (cellsRc_one _) ?_))
            refine NoPanic.normal ?_
            go_wp2_with (fail)
            go_meet
            exact ⟨w9.heap.size, w27.heap.size, r1, r2, w30.heap.size, rfl, rfl, Z⟩
        · refine wpOp_at rfl rfl (wp_alloc_rc rfl ?_)
          have bb : Below w26.heap.size w26 (w26.alloc (.cells (cellsRc rcZ) 26)) := (Below.refl _ _).alloc (Nat.le_refl _) _
          have F_w32 := Lib.hid (F_w26.out.below bb)
          have P_w32 := Lib.hid (P_w26.out.below bb P_w26.out.lt)
          have Q_w32 : Hid (Blk (w26.alloc (.cells (cellsRc rcZ) 26)) w26.heap.size 26 (cellsRc rcZ)) := Lib.hid (Blk.new _ _ _)
          have GQ_w32 : Hid (w.heap.size < w26.heap.size) := Lib.hid F_w26.out.box.lt
          have NE_w32 : Hid (w9.heap.size ≠ w26.heap.size) := Lib.hid (by have := P_w26.out.lt; omega)
          clear bb
          refine ⟨F_w32.out, ?_⟩
          generalize w26.alloc (.cells (cellsRc rcZ) 26) = w32 at *
          simp only [Act.put, List.getElem_toArray, List.getElem_cons_zero, List.getElem_cons_succ, List.setIfInBounds_toArray, List.set_cons_zero, List.set_cons_succ, List.drop_succ_cons, List.drop_zero]
          refine headF_one (i := 1) (by kernel_rfl) (by omega) ?_
          refine wpOp_at rfl rfl (wp_call_at rfl #[.agg (cellsRc a0)] (by kernel_rfl) Tryd.call13 ((clone_at a0 la lp w32 (HR.out.below F_w32.out.bel) HN.out).mono ?_))
          rintro e w33 ⟨r1, rfl, cn, bb⟩
          have F_w33 := Lib.hid (F_w32.out.below bb)
          have P_w33 := Lib.hid (P_w32.out.below bb P_w32.out.lt)
          have Q_w33 := Lib.hid (Q_w32.out.below bb Q_w32.out.lt)
          have N1_w33 := Lib.hid (cn.base F_w32.out.bel.size)
          clear cn bb
          refine ⟨_, rfl, F_w33.out, ?_⟩
          simp only [Act.put, List.getElem_toArray, List.getElem_cons_zero, List.getElem_cons_succ, List.setIfInBounds_toArray, List.set_cons_zero, List.set_cons_succ, List.drop_succ_cons, List.drop_zero]
          refine headF_one (i := 3) (by kernel_rfl) (by omega) ?_
          have RS_w34 := Lib.hid (rests_of N1_w33.out)
          refine wpOp_at rfl rfl (wp_call_at rfl #[.agg (cellsRc a0)] (by kernel_rfl) Tryd.call13 ((clone_at a0 la lp w33 (HR.out.below F_w33.out.bel) HN.out).mono ?_))
          rintro e w34 ⟨r2, rfl, cn, bb⟩
          have F_w34 := Lib.hid (F_w33.out.below bb)
          have N1_w34 := Lib.hid (N1_w33.out.below bb)
          have P_w34 := Lib.hid (P_w33.out.below bb P_w33.out.lt)
          have Q_w34 := Lib.hid (Q_w33.out.below bb Q_w33.out.lt)
          have N2_w34 := Lib.hid cn
          have RA_w34 := Lib.hid (RS_w34.out.1.below bb)
          have RP_w34 := Lib.hid (RS_w34.out.2.below bb)
          clear cn bb
          refine ⟨_, rfl, F_w34.out, ?_⟩
          simp only [Act.put, List.getElem_toArray, List.getElem_cons_zero, List.getElem_cons_succ, List.setIfInBounds_toArray, List.set_cons_zero, List.set_cons_succ, List.drop_succ_cons, List.drop_zero]
          have Z : Hid (CPost w ((w34.setRow (w9.heap.size) (cellsRc r1)).setRow (w26.heap.size) (cellsRc r2)) w.heap.size (w9.heap.size) (w26.heap.size) a0 r1 r2 la lp (w33.heap.size)) := Lib.hid (cl_leaf HR.out F_w34.out P_w34.out Q_w34.out NE_w32.out GP_w26.out GQ_w32.out (Nat.le_refl _) N1_w34.out N2_w34.out RA_w34.out RP_w34.out)
          have Q1 : Hid (Blk (w34.setRow (w9.heap.size) (cellsRc r1)) (w26.heap.size) 26 (cellsRc rcZ)) := Lib.hid (Q_w34.out.setRow_far (Ne.symm NE_w32.out) _)
          show Region.seqB _ _ _ _ _ = true ∧ _
          refine ⟨by kernel_rfl, ?_⟩
          try simp only [Act.put, List.getElem_toArray, List.getElem_cons_zero, List.getElem_cons_succ, List.setIfInBounds_toArray, List.set_cons_zero, List.set_cons_succ, List.drop_succ_cons, List.drop_zero]
          go_wp2_with (first | (refine wpList_store_row rfl _ _ _ rfl (w9.heap.size) (cellsRc r1) rfl rfl 26 _ P_w34.out infoRc rfl (cellsRc_one _) ?_) | (refine wpList_store_row rfl _ _ _ rfl (w26.heap.size) (cellsRc r2) rfl rfl 26 _ Q1.out infoRc rfl (cellsRc_one _) ?_))
          refine NoPanic.normal ?_
          go_wp2_with (fail)
          go_meet
          exact ⟨w9.heap.size, w26.heap.size, r1, r2, w33.heap.size, rfl, rfl, Z⟩
      · refine wpOp_at rfl rfl (wp_alloc_rc rfl ?_)
        have bb : Below w9.heap.size w9 (w9.alloc (.cells (cellsRc rcZ) 26)) := (Below.refl _ _).alloc (Nat.le_refl _) _
        have F_w35 := Lib.hid (F9.out.below bb)
        have Q_w35 : Hid (Blk (w9.alloc (.cells (cellsRc rcZ) 26)) w9.heap.size 26 (cellsRc rcZ)) := Lib.hid (Blk.new _ _ _)
        have GQ_w35 : Hid (w.heap.size < w9.heap.size) := Lib.hid F9.out.box.lt
        clear bb
        refine ⟨F_w35.out, ?_⟩
        generalize w9.alloc (.cells (cellsRc rcZ) 26) = w35 at *
        simp only [Act.put, List.getElem_toArray, List.getElem_cons_zero, List.getElem_cons_succ, List.setIfInBounds_toArray, List.set_cons_zero, List.set_cons_succ, List.drop_succ_cons, List.drop_zero]
        refine headF_two (i := 1) (k := 4) (by kernel_rfl) (by omega) (by omega) ?_ ?_
        · refine wpOp_at rfl rfl (wp_call_at rfl #[.agg (cellsRc a0)] (by kernel_rfl) Tryd.call13 ((clone_at a0 la lp w35 (HR.out.below F_w35.out.bel) HN.out).mono ?_))
          rintro e w36 ⟨r1, rfl, cn, bb⟩
          have F_w36 := Lib.hid (F_w35.out.below bb)
          have Q_w36 := Lib.hid (Q_w35.out.below bb Q_w35.out.lt)
          have N1_w36 := Lib.hid (cn.base F_w35.out.bel.size)
          clear cn bb
          refine ⟨_, rfl, F_w36.out, ?_⟩
          simp only [Act.put, List.getElem_toArray, List.getElem_cons_zero, List.getElem_cons_succ, List.setIfInBounds_toArray, List.set_cons_zero, List.set_cons_succ, List.drop_succ_cons, List.drop_zero]
          refine headF_two (i := 3) (k := 4) (by kernel_rfl) (by omega) (by omega) ?_ ?_
          · have RS_w37 := Lib.hid (rests_of N1_w36.out)
            refine wpOp_at rfl rfl (wp_call_at rfl #[.agg (cellsRc a0)] (by kernel_rfl) Tryd.call13 ((clone_at a0 la lp w36 (HR.out.below F_w36.out.bel) HN.out).mono ?_))
            rintro e w37 ⟨r2, rfl, cn, bb⟩
            have F_w37 := Lib.hid (F_w36.out.below bb)
            have N1_w37 := Lib.hid (N1_w36.out.below bb)
            have Q_w37 := Lib.hid (Q_w36.out.below bb Q_w36.out.lt)
            have N2_w37 := Lib.hid cn
            have RA_w37 := Lib.hid (RS_w37.out.1.below bb)
            have RP_w37 := Lib.hid (RS_w37.out.2.below bb)
            clear cn bb
            refine ⟨_, rfl, F_w37.out, ?_⟩
            simp only [Act.put, List.getElem_toArray, List.getElem_cons_zero, List.getElem_cons_succ, List.setIfInBounds_toArray, List.set_cons_zero, List.set_cons_succ, List.drop_succ_cons, List.drop_zero]
            refine headF_one (i := 4) (by kernel_rfl) (by omega) ?_
            refine wpOp_at rfl rfl (wp_alloc_rc rfl ?_)
            have bb : Below w37.heap.size w37 (w37.alloc (.cells (cellsRc rcZ) 26)) := (Below.refl _ _).alloc (Nat.le_refl _) _
            have F_w38 := Lib.hid (F_w37.out.below bb)
            have N1_w38 := Lib.hid (N1_w37.out.below bb)
            have N2_w38 := Lib.hid (N2_w37.out.below bb)
            have RA_w38 := Lib.hid (RA_w37.out.below bb)
            have RP_w38 := Lib.hid (RP_w37.out.below bb)
            have Q_w38 := Lib.hid (Q_w37.out.below bb Q_w37.out.lt)
            have P_w38 : Hid (Blk (w37.alloc (.cells (cellsRc rcZ) 26)) w37.heap.size 26 (cellsRc rcZ)) := Lib.hid (Blk.new _ _ _)
            have GP_w38 : Hid (w.heap.size < w37.heap.size) := Lib.hid F_w37.out.box.lt
            have NE_w38 : Hid (w37.heap.size ≠ w9.heap.size) := Lib.hid (by have := Q_w37.out.lt; omega)
            clear bb
            refine ⟨F_w38.out, ?_⟩
            generalize w37.alloc (.cells (cellsRc rcZ) 26) = w38 at *
            simp only [Act.put, List.getElem_toArray, List.getElem_cons_zero, List.getElem_cons_succ, List.setIfInBounds_toArray, List.set_cons_zero, List.set_cons_succ, List.drop_succ_cons, List.drop_zero]
            have Z : Hid (CPost w ((w38.setRow (w37.heap.size) (cellsRc r1)).setRow (w9.heap.size) (cellsRc r2)) w.heap.size (w37.heap.size) (w9.heap.size) a0 r1 r2 la lp (w36.heap.size)) := Lib.hid (cl_leaf HR.out F_w38.out P_w38.out Q_w38.out NE_w38.out GP_w38.out GQ_w35.out (Nat.le_refl _) N1_w38.out N2_w38.out RA_w38.out RP_w38.out)
            have Q1 : Hid (Blk (w38.setRow (w37.heap.size) (cellsRc r1)) (w9.heap.size) 26 (cellsRc rcZ)) := Lib.hid (Q_w38.out.setRow_far (Ne.symm NE_w38.out) _)
            show Region.seqB _ _ _ _ _ = true ∧ _
            refine ⟨by kernel_rfl, ?_⟩
            try simp only [Act.put, List.getElem_toArray, List.getElem_cons_zero, List.getElem_cons_succ, List.setIfInBounds_toArray, List.set_cons_zero, List.set_cons_succ, List.drop_succ_cons, List.drop_zero]
            go_wp2_with (first | (refine wpList_store_row rfl _ _ _ rfl (w37.heap.size) (cellsRc r1) rfl rfl 26 _ P_w38.out infoRc rfl (cellsRc_one _) ?_) | (refine wpList_store_row rfl _ _ _ rfl (w9.heap.size) (cellsRc r2) rfl rfl 26 _ Q1.out infoRc rfl (cellsRc_one _) ?_))
            refine NoPanic.normal ?_
            go_wp2_with (fail)
            go_meet
            exact ⟨w37.heap.size, w9.heap.size, r1, r2, w36.heap.size, rfl, rfl, Z⟩
          · refine wpOp_at rfl rfl (wp_alloc_rc rfl ?_)
            have bb : Below w36.heap.size w36 (w36.alloc (.cells (cellsRc rcZ) 26)) := (Below.refl _ _).alloc (Nat.le_refl _) _
            have F_w39 := Lib.hid (F_w36.out.below bb)
            have N1_w39 := Lib.hid (N1_w36.out.below bb)
            have Q_w39 := Lib.hid (Q_w36.out.below bb Q_w36.out.lt)
            have P_w39 : Hid (Blk (w36.alloc (.cells (cellsRc rcZ) 26)) w36.heap.size 26 (cellsRc rcZ)) := Lib.hid (Blk.new _ _ _)
            have GP_w39 : Hid (w.heap.size < w36.heap.size) := Lib.hid F_w36.out.box.lt
            have NE_w39 : Hid (w36.heap.size ≠ w9.heap.size) := Lib.hid (by have := Q_w36.out.lt; omega)
            clear bb
            refine ⟨F_w39.out, ?_⟩
            generalize w36.alloc (.cells (cellsRc rcZ) 26) = w39 at *
            simp only [Act.put, List.getElem_toArray, List.getElem_cons_zero, List.getElem_cons_succ, List.setIfInBounds_toArray, List.set_cons_zero, List.set_cons_succ, List.drop_succ_cons, List.drop_zero]
            refine headF_one (i := 3) (by kernel_rfl) (by omega) ?_
            have RS_w40 := Lib.hid (rests_of N1_w39.out)
            refine wpOp_at rfl rfl (wp_call_at rfl #[.agg (cellsRc a0)] (by kernel_rfl) Tryd.call13 ((clone_at a0 la lp w39 (HR.out.below F_w39.out.bel) HN.out).mono ?_))
            rintro e w40 ⟨r2, rfl, cn, bb⟩
            have F_w40 := Lib.hid (F_w39.out.below bb)
            have N1_w40 := Lib.hid (N1_w39.out.below bb)
            have P_w40 := Lib.hid (P_w39.out.below bb P_w39.out.lt)
            have Q_w40 := Lib.hid (Q_w39.out.below bb Q_w39.out.lt)
            have N2_w40 := Lib.hid cn
            have RA_w40 := Lib.hid (RS_w40.out.1.below bb)
            have RP_w40 := Lib.hid (RS_w40.out.2.below bb)
            clear cn bb
            refine ⟨_, rfl, F_w40.out, ?_⟩
            simp only [Act.put, List.getElem_toArray, List.getElem_cons_zero, List.getElem_cons_succ, List.setIfInBounds_toArray, List.set_cons_zero, List.set_cons_succ, List.drop_succ_cons, List.drop_zero]
            have Z : Hid (CPost w ((w40.setRow (w36.heap.size) (cellsRc r1)).setRow (w9.heap.size) (cellsRc r2)) w.heap.size (w36.heap.size) (w9.heap.size) a0 r1 r2 la lp (w39.heap.size)) := Lib.hid (cl_leaf HR.out F_w40.out P_w40.out Q_w40.out NE_w39.out GP_w39.out GQ_w35.out (Nat.le_refl _) N1_w40.out N2_w40.out RA_w40.out RP_w40.out)
            have Q1 : Hid (Blk (w40.setRow (w36.heap.size) (cellsRc r1)) (w9.heap.size) 26 (cellsRc rcZ)) := Lib.hid (Q_w40.out.setRow_far (Ne.symm NE_w39.out) _)
            show Region.seqB _ _ _ _ _ = true ∧ _
            refine ⟨by kernel_rfl, ?_⟩
            try simp only [Act.put, List.getElem_toArray, List.getElem_cons_zero, List.getElem_cons_succ, List.setIfInBounds_toArray, List.set_cons_zero, List.set_cons_succ, List.drop_succ_cons, List.drop_zero]
            go_wp2_with (first | (refine wpList_store_row rfl _ _ _ rfl (w36.heap.size) (cellsRc r1) rfl rfl 26 _ P_w40.out infoRc rfl (cellsRc_one _) ?_) | (refine wpList_store_row rfl _ _ _ rfl (w9.heap.size) (cellsRc r2) rfl rfl 26 _ Q1.out infoRc rfl (cellsRc_one _) ?_))
            refine NoPanic.normal ?_
            go_wp2_with (fail)
            go_meet
            exact ⟨w36.heap.size, w9.heap.size, r1, r2, w39.heap.size, rfl, rfl, Z⟩
        · refine wpOp_at rfl rfl (wp_alloc_rc rfl ?_)
          have bb : Below w35.heap.size w35 (w35.alloc (.cells (cellsRc rcZ) 26)) := (Below.refl _ _).alloc (Nat.le_refl _) _
          have F_w41 := Lib.hid (F_w35.out.below bb)
          have Q_w41 := Lib.hid (Q_w35.out.below bb Q_w35.out.lt)
          have P_w41 : Hid (Blk (w35.alloc (.cells (cellsRc rcZ) 26)) w35.heap.size 26 (cellsRc rcZ)) := Lib.hid (Blk.new _ _ _)
          have GP_w41 : Hid (w.heap.size < w35.heap.size) := Lib.hid F_w35.out.box.lt
          have NE_w41 : Hid (w35.heap.size ≠ w9.heap.size) := Lib.hid (by have := Q_w35.out.lt; omega)
          clear bb
          refine ⟨F_w41.out, ?_⟩
          generalize w35.alloc (.cells (cellsRc rcZ) 26) = w41 at *
          simp only [Act.put, List.getElem_toArray, List.getElem_cons_zero, List.getElem_cons_succ, List.setIfInBounds_toArray, List.set_cons_zero, List.set_cons_succ, List.drop_succ_cons, List.drop_zero]
          refine headF_one (i := 1) (by kernel_rfl) (by omega) ?_
          refine wpOp_at rfl rfl (wp_call_at rfl #[.agg (cellsRc a0)] (by kernel_rfl) Tryd.call13 ((clone_at a0 la lp w41 (HR.out.below F_w41.out.bel) HN.out).mono ?_))
          rintro e w42 ⟨r1, rfl, cn, bb⟩
          have F_w42 := Lib.hid (F_w41.out.below bb)
          have P_w42 := Lib.hid (P_w41.out.below bb P_w41.out.lt)
          have Q_w42 := Lib.hid (Q_w41.out.below bb Q_w41.out.lt)
          have N1_w42 := Lib.hid (cn.base F_w41.out.bel.size)
          clear cn bb
          refine ⟨_, rfl, F_w42.out, ?_⟩
          simp only [Act.put, List.getElem_toArray, List.getElem_cons_zero, List.getElem_cons_succ, List.setIfInBounds_toArray, List.set_cons_zero, List.set_cons_succ, List.drop_succ_cons, List.drop_zero]
          refine headF_one (i := 3) (by kernel_rfl) (by omega) ?_
          have RS_w43 := Lib.hid (rests_of N1_w42.out)
          refine wpOp_at rfl rfl (wp_call_at rfl #[.agg (cellsRc a0)] (by kernel_rfl) Tryd.call13 ((clone_at a0 la lp w42 (HR.out.below F_w42.out.bel) HN.out).mono ?_))
          rintro e w43 ⟨r2, rfl, cn, bb⟩
          have F_w43 := Lib.hid (F_w42.out.below bb)
          have N1_w43 := Lib.hid (N1_w42.out.below bb)
          have P_w43 := Lib.hid (P_w42.out.below bb P_w42.out.lt)
          have Q_w43 := Lib.hid (Q_w42.out.below bb Q_w42.out.lt)
          have N2_w43 := Lib.hid cn
          have RA_w43 := Lib.hid (RS_w43.out.1.below bb)
          have RP_w43 := Lib.hid (RS_w43.out.2.below bb)
          clear cn bb
          refine ⟨_, rfl, F_w43.out, ?_⟩
          simp only [Act.put, List.getElem_toArray, List.getElem_cons_zero, List.getElem_cons_succ, List.setIfInBounds_toArray, List.set_cons_zero, List.set_cons_succ, List.drop_succ_cons, List.drop_zero]
          have Z : Hid (CPost w ((w43.setRow (w35.heap.size) (cellsRc r1)).setRow (w9.heap.size) (cellsRc r2)) w.heap.size (w35.heap.size) (w9.heap.size) a0 r1 r2 la lp (w42.heap.size)) := Lib.hid (cl_leaf HR.out F_w43.out P_w43.out Q_w43.out NE_w41.out GP_w41.out GQ_w35.out (Nat.le_refl _) N1_w43.out N2_w43.out RA_w43.out RP_w43.out)
          have Q1 : Hid (Blk (w43.setRow (w35.heap.size) (cellsRc r1)) (w9.heap.size) 26 (cellsRc rcZ)) := Lib.hid (Q_w43.out.setRow_far (Ne.symm NE_w41.out) _)
          show Region.seqB _ _ _ _ _ = true ∧ _
          refine ⟨by kernel_rfl, ?_⟩
          try simp only [Act.put, List.getElem_toArray, List.getElem_cons_zero, List.getElem_cons_succ, List.setIfInBounds_toArray, List.set_cons_zero, List.set_cons_succ, List.drop_succ_cons, List.drop_zero]
          go_wp2_with (first | (refine wpList_store_row rfl _ _ _ rfl (w35.heap.size) (cellsRc r1) rfl rfl 26 _ P_w43.out infoRc rfl (cellsRc_one _) ?_) | (refine wpList_store_row rfl _ _ _ rfl (w9.heap.size) (cellsRc r2) rfl rfl 26 _ Q1.out infoRc rfl (cellsRc_one _) ?_))
          refine NoPanic.normal ?_
          go_wp2_with (fail)
          go_meet
          exact ⟨w35.heap.size, w9.heap.size, r1, r2, w42.heap.size, rfl, rfl, Z⟩
    case rest =>
      obtain ⟨p, q, r1, r2, C, rfl, rfl, Z⟩ := hcut
      have HS : Hid (∀ w', Below wc.heap.size wc w' → Calls Tryd.prog 12 #[.agg (cellsRc r1), .agg (cellsRc a0)] w' fun e w'' => e = .returned (.bool true) ∧ Below w'.heap.size w' w'') := Lib.hid (fun w' h => by
        have k := refsame_any r1 a0 la la lp lp w' (Z.out.2.2.2.1.below h) ((HR.out.below Z.out.1.bel).below h)
        rwa [Z.out.2.2.2.2.1] at k)
      go_wp2_with (first | (refine wpList_load_row rfl 26 _ rfl p rfl 26 (cellsRc r1) (0, 0) _ Z.out.1.one Tryd.underlying26 rfl infoRc ?_) | (refine wpList_load_row rfl 26 _ rfl w.heap.size rfl 26 (cellsRc a0) (0, 0) _ Z.out.1.box Tryd.underlying26 rfl infoRc ?_))
      refine (HS.out wc (Below.refl _ _)).mono ?_
      rintro e w3 ⟨rfl, b3⟩
      have K3 := Lib.hid (Z.out.1.below b3)
      have RA3 := Lib.hid (Z.out.2.1.below b3)
      have RP3 := Lib.hid (Z.out.2.2.1.below b3)
      have HLN := Lib.hid (And.intro Z.out.2.2.2.2.2 (And.intro Z.out.2.2.2.1.an Z.out.2.2.2.1.pn))
      clear b3 Z HS
      obtain ⟨aa, h1⟩ : ∃ x, r1.aa = x := ⟨_, rfl⟩
      obtain ⟨an, h2⟩ : ∃ x, r1.an = x := ⟨_, rfl⟩
      obtain ⟨ac, h3⟩ : ∃ x, r1.ac = x := ⟨_, rfl⟩
      obtain ⟨pa, h4⟩ : ∃ x, r1.pa = x := ⟨_, rfl⟩
      obtain ⟨pn, h5⟩ : ∃ x, r1.pn = x := ⟨_, rfl⟩
      obtain ⟨pc, h6⟩ : ∃ x, r1.pc = x := ⟨_, rfl⟩
      have HI : Hid ((r1.aa = aa ∧ r1.an = an ∧ r1.ac = ac) ∧ (r1.pa = pa ∧ r1.pn = pn ∧ r1.pc = pc)) := Lib.hid ⟨⟨h1, h2, h3⟩, h4, h5, h6⟩
      rw [h1, h2] at RA3
      rw [h4, h5] at RP3
      have HLA : Hid (la.length = an ∧ lp.length = pn) := Lib.hid ⟨by rw [← h2]; exact HLN.out.2.1, by rw [← h5]; exact HLN.out.2.2⟩
      have hna : an ≤ 60 := by rw [← h2, HLN.out.1.1]; exact HFY.out.1
      have hnp : pn ≤ 60 := by rw [← h5, HLN.out.1.2]; exact HFY.out.2
      clear h1 h2 h3 h4 h5 h6
      have m6 : w3.cell? ⟨p, 6, none⟩ = some (.slice aa an ac) := by rw [← HI.out.1.1, ← HI.out.1.2.1, ← HI.out.1.2.2]; exact K3.out.one.cell 6
      go_wp2_with (fail)
      clear m6
      go_loopw [22] (fun i wr => ∃ k : Nat, k ≤ an ∧ i = .int .i64 k ∧ Hid (CL w wr w.heap.size p q a0 r1 r2 la lp C) ∧ Hid (Rest wr 32 0 (fun x : As => .int .i64 x.ix) aa an k la w.heap.size C) ∧ Hid (Rest wr 35 1 (fun x : Pm => .int .u64 x.am) pa pn 0 lp w.heap.size C)) (fun i _ => an - (intOf i).toNat)
      case atStart => exact ⟨0, by omega, rfl, K3, RA3, RP3⟩
      case round =>
        clear K3 RA3 RP3
        obtain ⟨k, hk, rfl, KR, RR, OR⟩ := hrel
        by_cases hlt : k < an
        · obtain ⟨x, hx⟩ : ∃ x, la[k]? = some x := ⟨_, List.getElem?_eq_getElem (by rw [HLA.out.1]; exact hlt)⟩
          obtain ⟨g, cur, rfl, g1, g2, g3, g4⟩ := RR.out hlt
          obtain ⟨y, hy⟩ : ∃ y, IntKind.i64.wrap (x.ix + 1) = y := ⟨_, rfl⟩
          have cx : wr.cell? ⟨g, k * 3, none⟩ = some (.int .i64 x.ix) := by rw [g3.cell]; exact g4 k x (Nat.le_refl _) hx
          have fx : wr.frozen? ⟨g, k * 3, none⟩ = false := g3.frozen _
          have m6 : wr.cell? ⟨p, 6, none⟩ = some (.slice (some ⟨g, 0, none⟩) an ac) := by rw [← HI.out.1.1, ← HI.out.1.2.1, ← HI.out.1.2.2]; exact KR.out.one.cell 6
          have K4 : Hid (CL w (wr.setCell ⟨g, k * 3 + 0, none⟩ (.int .i64 y)) w.heap.size p q a0 r1 r2 la lp C) := Lib.hid (KR.out.set_ g3 (by decide) g1 g2)
          have R4 : Hid (Rest (wr.setCell ⟨g, k * 3 + 0, none⟩ (.int .i64 y)) 32 0 (fun x : As => .int .i64 x.ix) (some ⟨g, 0, none⟩) an (k + 1) la w.heap.size C) := Lib.hid (Rest.set_ g3 g1 g2 (by decide) g4)
          have O4 : Hid (Rest (wr.setCell ⟨g, k * 3 + 0, none⟩ (.int .i64 y)) 35 1 (fun x : Pm => .int .u64 x.am) pa pn 0 lp w.heap.size C) := Lib.hid (rest_far OR.out g3 (by decide))
          rw [show k * 3 + 0 = k * 3 from rfl] at K4 R4 O4
          clear KR RR OR g1 g2 g3 g4 hx
          go_wp2_with (fail)
          go_roundw
          case rel => exact ⟨k + 1, by omega, by go_num, K4, R4, O4⟩
          case measure => simp [intOf]; omega
        · obtain rfl : k = an := by omega
          clear hlt
          have hlt : ¬ k < k := by omega
          obtain ⟨wo, rfl⟩ : ∃ wo : World, wo = wr := ⟨_, rfl⟩
          have m7 : wo.cell? ⟨p, 7, none⟩ = some (.slice pa pn pc) := by rw [← HI.out.2.1, ← HI.out.2.2.1, ← HI.out.2.2.2]; exact KR.out.one.cell 7
          go_wp2_with (fail)
          clear m7 RR
          have TT : Hid True := Lib.hid trivial
          go_loopw [38] (fun i wr => ∃ k : Nat, k ≤ pn ∧ i = .int .i64 k ∧ Hid (CL w wr w.heap.size p q a0 r1 r2 la lp C) ∧ Hid (Rest wr 35 1 (fun x : Pm => .int .u64 x.am) pa pn k lp w.heap.size C) ∧ Hid (True)) (fun i _ => pn - (intOf i).toNat)
          case atStart => exact ⟨0, by omega, rfl, KR, OR, TT⟩
          case round =>
            clear KR OR TT
            obtain ⟨k, hk, rfl, KR, RR, OR⟩ := hrel
            by_cases hlt : k < pn
            · obtain ⟨x, hx⟩ : ∃ x, lp[k]? = some x := ⟨_, List.getElem?_eq_getElem (by rw [HLA.out.2]; exact hlt)⟩
              obtain ⟨g, cur, rfl, g1, g2, g3, g4⟩ := RR.out hlt
              obtain ⟨y, hy⟩ : ∃ y, IntKind.u64.wrap (x.am + 1) = y := ⟨_, rfl⟩
              have cx : wr.cell? ⟨g, k * 3 + 1, none⟩ = some (.int .u64 x.am) := by rw [g3.cell]; exact g4 k x (Nat.le_refl _) hx
              have fx : wr.frozen? ⟨g, k * 3 + 1, none⟩ = false := g3.frozen _
              have m7 : wr.cell? ⟨p, 7, none⟩ = some (.slice (some ⟨g, 0, none⟩) pn pc) := by rw [← HI.out.2.1, ← HI.out.2.2.1, ← HI.out.2.2.2]; exact KR.out.one.cell 7
              have K4 : Hid (CL w (wr.setCell ⟨g, k * 3 + 1, none⟩ (.int .u64 y)) w.heap.size p q a0 r1 r2 la lp C) := Lib.hid (KR.out.set_ g3 (by decide) g1 g2)
              have R4 : Hid (Rest (wr.setCell ⟨g, k * 3 + 1, none⟩ (.int .u64 y)) 35 1 (fun x : Pm => .int .u64 x.am) (some ⟨g, 0, none⟩) pn (k + 1) lp w.heap.size C) := Lib.hid (Rest.set_ g3 g1 g2 (by decide) g4)
              have O4 : Hid (True) := Lib.hid (trivial)
              clear KR RR OR g1 g2 g3 g4 hx
              go_wp2_with (fail)
              go_roundw
              case rel => exact ⟨k + 1, by omega, by go_num, K4, R4, O4⟩
              case measure => simp [intOf]; omega
            · obtain rfl : k = pn := by omega
              clear hlt
              have hlt : ¬ k < k := by omega
              go_wp2_with (fail)
              refine (HA.out wr (HV.out.below KR.out.bel)).mono ?_
              rintro e w6 ⟨rfl, b6⟩
              have K6 := Lib.hid (KR.out.below b6)
              clear b6 KR RR OR
              have HS : Hid (Calls Tryd.prog 12 #[.agg (cellsRc r2), .agg (cellsRc a0)] w6 fun e w'' => e = .returned (.bool true) ∧ Below w6.heap.size w6 w'') := Lib.hid (by
                have kk := refsame_any r2 a0 la la lp lp w6 (K6.out.cln.at (HR.out.below K6.out.bel)) (HR.out.below K6.out.bel)
                rwa [K6.out.cln.same] at kk)
              go_wp2_with (first | (refine wpList_load_rowG rfl 26 _ rfl q rfl 26 (cellsRc r2) (0, 0) _ K6.out.two Tryd.underlying26 rfl infoRc ?_) | (refine wpList_load_rowG rfl 26 _ rfl w.heap.size rfl 26 (cellsRc a0) (0, 0) _ K6.out.box Tryd.underlying26 rfl infoRc ?_))
              refine HS.out.mono ?_
              rintro e w7 ⟨rfl, b7⟩
              have K7 := Lib.hid (K6.out.below b7)
              clear b7
              go_wp2_with (fail)
              go_ret
              exact ⟨rfl, K7.out.bel⟩
end Go.Proofs.YtjbbcnepeffiaaaDoor
