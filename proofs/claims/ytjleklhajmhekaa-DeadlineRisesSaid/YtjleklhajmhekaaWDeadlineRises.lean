/- The walk of DeadlineRises. -/
import Derived.Test.YtjleklhajmhekaaRise
import Derived.Test.YtjleklhajmhekaaWhole
import Derived.Deep.CutRange
import Derived.Deep.DeepCutAuto
namespace Go.Proofs.Ytjleklhajmhekaa
open Go Go.RowKit Go.Deep
set_option linter.unusedVariables false
set_option linter.unusedSimpArgs false
set_option maxRecDepth 100000

def zeroC : Nat → Int := fun _ => 0
theorem cfg_app : ∃ i, Try.prog.info? 26 = some i ∧ i.zero = some (.agg (cellsOf zeroC)) ∧ i.size = 20 := by
  have h : (Try.prog.info? 26).map (fun i => (i.zero, i.size)) = some (some (.agg (cellsOf zeroC)), 20) := by kernel_rfl
  cases hi : Try.prog.info? 26 with
  | none => rw [hi] at h; cases h
  | some i =>
    rw [hi] at h
    simp at h
    exact ⟨i, rfl, h.1, h.2⟩
theorem run_alloc_ex (w : World) : (Instr.alloc 24 true (.tuple #[])).run Try.prog w = .ok (.pointer (some ⟨w.heap.size, 0, none⟩)) (w.alloc (.cells (cellsEx exZ) 24)) := by
  obtain ⟨i, hi, hz, hs, hby⟩ := appEx
  simp [Instr.alloc, sizeOf, zeroValue, typeInfo, hi, hz, hs, newRow, go_sem, Value.cells]
theorem run_alloc_cfg (w : World) : (Instr.alloc 26 true (.tuple #[])).run Try.prog w = .ok (.pointer (some ⟨w.heap.size, 0, none⟩)) (w.alloc (.cells (cellsOf zeroC) 26)) := by
  obtain ⟨i, hi, hz, hs⟩ := cfg_app
  simp [Instr.alloc, sizeOf, zeroValue, typeInfo, hi, hz, hs, newRow, go_sem, Value.cells]
theorem wp_alloc_ex {o : Oper} {a : Act} {w : World} {K : Act → World → Prop} {Q : Exit → Act → World → Prop} (ho : o.op = .alloc 24)
    (h : K (a.put o.dst (.pointer (some ⟨w.heap.size, 0, none⟩))) (w.alloc (.cells (cellsEx exZ) 24))) : o.wp Try.prog a w K Q := by
  unfold Oper.wp execOp
  simp only [ho, Sem.run_bind, run_alloc_ex w, Result.andThen_ok, Sem.run_pure]
  exact h
theorem wp_alloc_cfg {o : Oper} {a : Act} {w : World} {K : Act → World → Prop} {Q : Exit → Act → World → Prop} (ho : o.op = .alloc 26)
    (h : K (a.put o.dst (.pointer (some ⟨w.heap.size, 0, none⟩))) (w.alloc (.cells (cellsOf zeroC) 26))) : o.wp Try.prog a w K Q := by
  unfold Oper.wp execOp
  simp only [ho, Sem.run_bind, run_alloc_cfg w, Result.andThen_ok, Sem.run_pure]
  exact h
/-- The three boxes. -/
theorem rise_new (w : World) (v : Ex) (q c : Nat → Int) : Bx w (((w.alloc (.cells (cellsEx v) 24)).alloc (.cells (cellsQ q) 35)).alloc (.cells (cellsOf c) 26)) v c w.heap.size (w.heap.size + 2) ∧
    Blk (((w.alloc (.cells (cellsEx v) 24)).alloc (.cells (cellsQ q) 35)).alloc (.cells (cellsOf c) 26)) (w.heap.size + 1) 35 (cellsQ q) ∧
    w.heap.size + 3 ≤ (((w.alloc (.cells (cellsEx v) 24)).alloc (.cells (cellsQ q) 35)).alloc (.cells (cellsOf c) 26)).heap.size := by
  refine ⟨⟨((Blk.new w _ _).alloc _).alloc _, ?_, (((Below.refl _ _).alloc (Nat.le_refl _) _).alloc (by simp) _).alloc (by first | (simp; done) | (simp; omega)) _, by first | (simp; done) | (simp; omega)⟩, ?_, by first | (simp; done) | (simp; omega)⟩
  · have := Blk.new ((w.alloc (.cells (cellsEx v) 24)).alloc (.cells (cellsQ q) 35)) 26 (cellsOf c)
    rwa [show ((w.alloc (.cells (cellsEx v) 24)).alloc (.cells (cellsQ q) 35)).heap.size = w.heap.size + 2 by simp] at this
  · have := (Blk.new (w.alloc (.cells (cellsEx v) 24)) 35 (cellsQ q)).alloc (.cells (cellsOf c) 26)
    rwa [show (w.alloc (.cells (cellsEx v) 24)).heap.size = w.heap.size + 1 by simp] at this
/-- Behind the copies. -/
theorem rise_made {w0 w w1 : World} {v : Ex} {q c : Nat → Int} {gy gd : Nat} (hb : Bx w0 w v c w0.heap.size (w0.heap.size + 2)) (hm : Blk w (w0.heap.size + 1) 35 (cellsQ q)) (hz : w0.heap.size + 3 ≤ w.heap.size) (h1 : Below w.heap.size w w1)
    (hy : Blk w1 gy 24 (cellsEx exZ)) (hd : Blk w1 gd 26 (cellsOf zeroC)) (gy3 : w.heap.size ≤ gy) (gd3 : w.heap.size ≤ gd) (ne : gy ≠ gd) :
    Ris w0 ((w1.setRow gy (cellsEx v)).setRow gd (cellsOf c)) v q c v c gy gd := by
  have b2 : Below w.heap.size w ((w1.setRow gy (cellsEx v)).setRow gd (cellsOf c)) := below_setRow (below_setRow h1 gy3 _) gd3 _
  exact ⟨hb.next b2, hm.below b2 hm.lt, (hy.setRow _).setRow_far ne _, (hd.setRow_far (Ne.symm ne) _).setRow _, by omega, by omega, ne⟩

set_option maxHeartbeats 6400000 in
theorem walk_DeadlineRises (a0 : Ex) (a1 : Nat → Int) (a2 : Nat → Int) (w : World) (w0 : FitsEx a0) (w1 : FitsQ a1) (w2 : Fits a2) :
    Calls Try.prog 4 #[.agg (cellsEx a0), .agg (cellsQ a1), .agg (cellsOf a2)] w fun e w' => e = .returned (.bool true) ∧ Below w.heap.size w w' := by
  have HK := Lib.hid (fun w => refCheck_any a2 w)
  have HV := Lib.hid alive_any
  have T0 := Lib.hid (rise_new w a0 a1 a2)
  by_cases hc : chk a2 = 0
  · have G := good_of_chk w2 hc
    rw [hc] at HK
    by_cases h1 : a0.ah ≤ 2305843009213693952
    · by_cases h2 : a0.wt ≤ 2305843009213693952
      · have v1 := bounds_u64 w0.2.1
        have v2 := bounds_u64 w0.2.2
        have q0 := w1 0 (by omega)
        have q1 := w1 1 (by omega)
        have q2 := w1 2 (by omega)
        have q3 := w1 3 (by omega)
        have c90 := G.fcp0
        have c91 := G.fcp1
        have c70 := G.chu0
        have c71 := G.chu1
        have c100 := G.unb0
        have c101 := G.unb1
        have c110 := G.sla0
        have c111 := G.sla1
        obtain ⟨f, hf⟩ : ∃ f, min (a2 9 + a1 2) 1152921504606846976 = f := ⟨_, rfl⟩
        obtain ⟨u, hu⟩ : ∃ u, min (a2 10 + a1 3 % 1000) (a2 11 - 1) = u := ⟨_, rfl⟩
        obtain ⟨m, hm⟩ : ∃ m, (a2 7 + 1) / 2 = m := ⟨_, rfl⟩
        have qm0 : 0 ≤ a1 3 % 1000 ∧ a1 3 % 1000 < 1000 := by omega
        have gd : Good (cfgR a2 f u m) := cfgR_good G (by omega) (by omega) (by omega) (by omega) (by omega) (by omega)
        have fy : FitsEx { a0 with ah := a0.ah + a1 0, wt := a0.wt + a1 1 } := by
          refine ⟨w0.1, ?_, ?_⟩
          · simp [Lit.wf, IntKind.min, IntKind.max, IntKind.signed, IntKind.bits]; omega
          · simp [Lit.wf, IntKind.min, IntKind.max, IntKind.signed, IntKind.bits]; omega
        have HK2 := Lib.hid (fun w => refCheck_any (cfgR a2 f u m) w)
        rw [cfgR_chk hc (by omega) (by omega) (by omega) (by omega) (by omega) (by omega)] at HK2
        have HP1 := Lib.hid (fun w => law_p G w0 w)
        have HP2 := Lib.hid (fun w => law_p gd fy w)
        rw [cfgR_sweep] at HP2
        have HM := Lib.hid (fun s (h : lastE (a0.ah + a1 0) (a0.wt + a1 1) (cfgR a2 f u m) (cfgR a2 f u m 10 + sweepN a2) a0.ep = some s) =>
          lastE_mono (a := a0.ah) (x := a0.wt) (c := a2) (m := a2 10 + sweepN a2) (by omega) (show a0.ah + a0.wt + a2 9 ≤ a0.ah + a1 0 + (a0.wt + a1 1) + f by omega) (show 1 ≤ m by omega) (show m ≤ a2 7 by omega) (show a2 10 + sweepN a2 ≤ u + sweepN a2 by omega) h)
        have d1 : decide (2305843009213693952 < a0.ah) = false := by simpa using h1
        have d2 : decide (2305843009213693952 < a0.wt) = false := by simpa using h2
        clear w0 w1 w2 hc G gd fy
        go_enter Try.func4, Try.ntmps4
        go_upto_region 1 with (fail)
        generalize (((w.alloc (.cells (cellsEx a0) 24)).alloc (.cells (cellsQ a1) 35)).alloc (.cells (cellsOf a2) 26)) = W at *
        go_wp2_with (first | (refine wpList_load_rowG rfl 26 _ rfl (w.heap.size + 2) rfl 26 _ (0, 0) _ T0.out.1.2.1 Try.underlying26 rfl info24 ?_))
        refine (HK.out _).mono ?_
        rintro o w1 ⟨rfl, b1⟩
        have T1 := Lib.hid (T0.out.1.next b1)
        have M1 := Lib.hid (T0.out.2.1.below b1 T0.out.2.1.lt)
        have Z1 : Hid (w.heap.size + 3 ≤ w1.heap.size) := Lib.hid (Nat.le_trans T0.out.2.2 b1.size)
        clear T0 b1 HK
        have x1 := T1.out.x1
        have x2 := T1.out.x2
        go_upto_region 3 with (fail)
        clear x1 x2 d1 d2
        go_cut [7, 8] (fun s7 s8 wx => ∃ gy gd : Nat, s7 = .pointer (some ⟨gy, 0, none⟩) ∧ s8 = .pointer (some ⟨gd, 0, none⟩) ∧ Hid (Ris w wx a0 a1 a2 a0 a2 gy gd))
        case first =>
          refine wp_region_first (fun w' => Below w1.heap.size w1 w') 5 3 [0, 1] (by kernel_rfl) (by kernel_rfl) (Below.refl _ _).drew ?_
          simp only [List.filterMap_cons, List.filterMap_nil, List.getElem?_toArray, List.getElem?_cons_zero, List.getElem?_cons_succ]
          show wpQuiet _ _ _ _ [_, _] _
          refine q_load 24 _ w.heap.size 24 (cellsEx a0) _ rfl rfl rfl (fun w' h => T1.out.1.below h T1.out.1.lt) Try.underlying24 rfl infoEx ?_
          simp only [Act.put, List.setIfInBounds_toArray, List.set_cons_zero, List.set_cons_succ]
          refine q_load 26 _ (w.heap.size + 2) 26 (cellsOf a2) _ rfl rfl rfl (fun w' h => T1.out.2.1.below h T1.out.2.1.lt) Try.underlying26 rfl info24 ?_
          simp only [Act.put, List.setIfInBounds_toArray, List.set_cons_zero, List.set_cons_succ]
          refine wpQuiet_nil ?_
          have D0 : Hid (Below w1.heap.size w1 w1.drew) := Lib.hid (Below.refl _ _).drew
          generalize w1.drew = w2 at *
          refine headF_two (i := 2) (k := 3) (by kernel_rfl) (by omega) (by omega) ?_ ?_
          · refine wpOp_at rfl rfl (wp_alloc_ex rfl ?_)
            have D3 : Hid (Below w1.heap.size w1 (w2.alloc (.cells (cellsEx exZ) 24))) := Lib.hid (D0.out.alloc D0.out.size _)
            have Y3 : Hid (Blk (w2.alloc (.cells (cellsEx exZ) 24)) w2.heap.size 24 (cellsEx exZ)) := Lib.hid (Blk.new _ _ _)
            refine ⟨D3.out, ?_⟩
            have S3 : Hid (w1.heap.size ≤ w2.heap.size ∧ w2.heap.size < (w2.alloc (.cells (cellsEx exZ) 24)).heap.size) := Lib.hid ⟨D0.out.size, by simp⟩
            generalize w2.alloc (.cells (cellsEx exZ) 24) = w3 at *
            generalize w2.heap.size = gy at *
            simp only [Act.put, List.getElem_toArray, List.getElem_cons_zero, List.getElem_cons_succ, List.setIfInBounds_toArray, List.set_cons_zero, List.set_cons_succ, List.drop_succ_cons, List.drop_zero]
            refine headF_one (i := 3) (by kernel_rfl) (by omega) ?_
            refine wpOp_at rfl rfl (wp_alloc_cfg rfl ?_)
            have D4 : Hid (Below w1.heap.size w1 (w3.alloc (.cells (cellsOf zeroC) 26))) := Lib.hid (D3.out.alloc D3.out.size _)
            have Y4 : Hid (Blk (w3.alloc (.cells (cellsOf zeroC) 26)) gy 24 (cellsEx exZ)) := Lib.hid (Y3.out.alloc _)
            have C4 : Hid (Blk (w3.alloc (.cells (cellsOf zeroC) 26)) w3.heap.size 26 (cellsOf zeroC)) := Lib.hid (Blk.new _ _ _)
            refine ⟨D4.out, ?_⟩
            have S4 : Hid (w1.heap.size ≤ gy ∧ w1.heap.size ≤ w3.heap.size ∧ gy ≠ w3.heap.size) := Lib.hid (by have := S3.out; omega)
            generalize w3.alloc (.cells (cellsOf zeroC) 26) = w4 at *
            generalize w3.heap.size = gd at *
            have Z4 := Lib.hid (rise_made T1.out M1.out Z1.out D4.out Y4.out C4.out S4.out.1 S4.out.2.1 S4.out.2.2)
            simp only [Act.put, List.getElem_toArray, List.getElem_cons_zero, List.getElem_cons_succ, List.setIfInBounds_toArray, List.set_cons_zero, List.set_cons_succ, List.drop_succ_cons, List.drop_zero]
            refine headF_one (i := 4) (by kernel_rfl) (by omega) ?_
            refine wpOp_at rfl rfl (wp_store_row _ _ _ rfl gy (cellsEx a0) rfl rfl 24 _ Y4.out infoEx rfl (cellsEx_one _) ?_)
            have C5 : Hid (Blk (w4.setRow gy (cellsEx a0)) gd 26 (cellsOf zeroC)) := Lib.hid (C4.out.setRow_far (Ne.symm S4.out.2.2) _)
            have D5 : Hid (Below w1.heap.size w1 (w4.setRow gy (cellsEx a0))) := Lib.hid (below_setRow D4.out S4.out.1 _)
            refine ⟨D5.out, ?_⟩
            generalize w4.setRow gy (cellsEx a0) = w5 at *
            show Region.seqB _ _ _ _ _ = true ∧ _
            refine ⟨by kernel_rfl, ?_⟩
            simp only [Act.put, List.getElem_toArray, List.getElem_cons_zero, List.getElem_cons_succ, List.setIfInBounds_toArray, List.set_cons_zero, List.set_cons_succ, List.drop_succ_cons, List.drop_zero]
            refine wpList_store_row rfl 26 _ _ rfl gd (cellsOf a2) rfl rfl 26 _ C5.out info24 rfl (cells_one _) ?_
            generalize w5.setRow gd (cellsOf a2) = w6 at *
            simp only [Act.put]
            go_wp2
            refine NoPanic.normal ?_
            go_wp2_with fail
            go_meet
            exact ⟨_, _, rfl, rfl, Z4⟩
          · refine wpOp_at rfl rfl (wp_alloc_cfg rfl ?_)
            have D3 : Hid (Below w1.heap.size w1 (w2.alloc (.cells (cellsOf zeroC) 26))) := Lib.hid (D0.out.alloc D0.out.size _)
            have C3 : Hid (Blk (w2.alloc (.cells (cellsOf zeroC) 26)) w2.heap.size 26 (cellsOf zeroC)) := Lib.hid (Blk.new _ _ _)
            refine ⟨D3.out, ?_⟩
            have S3 : Hid (w1.heap.size ≤ w2.heap.size ∧ w2.heap.size < (w2.alloc (.cells (cellsOf zeroC) 26)).heap.size) := Lib.hid ⟨D0.out.size, by simp⟩
            generalize w2.alloc (.cells (cellsOf zeroC) 26) = w3 at *
            generalize w2.heap.size = gd at *
            simp only [Act.put, List.getElem_toArray, List.getElem_cons_zero, List.getElem_cons_succ, List.setIfInBounds_toArray, List.set_cons_zero, List.set_cons_succ, List.drop_succ_cons, List.drop_zero]
            refine headF_one (i := 2) (by kernel_rfl) (by omega) ?_
            refine wpOp_at rfl rfl (wp_alloc_ex rfl ?_)
            have D4 : Hid (Below w1.heap.size w1 (w3.alloc (.cells (cellsEx exZ) 24))) := Lib.hid (D3.out.alloc D3.out.size _)
            have C4 : Hid (Blk (w3.alloc (.cells (cellsEx exZ) 24)) gd 26 (cellsOf zeroC)) := Lib.hid (C3.out.alloc _)
            have Y4 : Hid (Blk (w3.alloc (.cells (cellsEx exZ) 24)) w3.heap.size 24 (cellsEx exZ)) := Lib.hid (Blk.new _ _ _)
            refine ⟨D4.out, ?_⟩
            have S4 : Hid (w1.heap.size ≤ w3.heap.size ∧ w1.heap.size ≤ gd ∧ w3.heap.size ≠ gd) := Lib.hid (by have := S3.out; omega)
            generalize w3.alloc (.cells (cellsEx exZ) 24) = w4 at *
            generalize w3.heap.size = gy at *
            have Z4 := Lib.hid (rise_made T1.out M1.out Z1.out D4.out Y4.out C4.out S4.out.1 S4.out.2.1 S4.out.2.2)
            simp only [Act.put, List.getElem_toArray, List.getElem_cons_zero, List.getElem_cons_succ, List.setIfInBounds_toArray, List.set_cons_zero, List.set_cons_succ, List.drop_succ_cons, List.drop_zero]
            refine headF_one (i := 4) (by kernel_rfl) (by omega) ?_
            refine wpOp_at rfl rfl (wp_store_row _ _ _ rfl gy (cellsEx a0) rfl rfl 24 _ Y4.out infoEx rfl (cellsEx_one _) ?_)
            have C5 : Hid (Blk (w4.setRow gy (cellsEx a0)) gd 26 (cellsOf zeroC)) := Lib.hid (C4.out.setRow_far (Ne.symm S4.out.2.2) _)
            have D5 : Hid (Below w1.heap.size w1 (w4.setRow gy (cellsEx a0))) := Lib.hid (below_setRow D4.out S4.out.1 _)
            refine ⟨D5.out, ?_⟩
            generalize w4.setRow gy (cellsEx a0) = w5 at *
            show Region.seqB _ _ _ _ _ = true ∧ _
            refine ⟨by kernel_rfl, ?_⟩
            simp only [Act.put, List.getElem_toArray, List.getElem_cons_zero, List.getElem_cons_succ, List.setIfInBounds_toArray, List.set_cons_zero, List.set_cons_succ, List.drop_succ_cons, List.drop_zero]
            refine wpList_store_row rfl 26 _ _ rfl gd (cellsOf a2) rfl rfl 26 _ C5.out info24 rfl (cells_one _) ?_
            generalize w5.setRow gd (cellsOf a2) = w6 at *
            simp only [Act.put]
            go_wp2
            refine NoPanic.normal ?_
            go_wp2_with fail
            go_meet
            exact ⟨_, _, rfl, rfl, Z4⟩
        case rest =>
          obtain ⟨gy, gd, rfl, rfl, R3⟩ := hcut
          clear T1 M1 Z1
          have y1 : wc.cell? ⟨gy, 1, none⟩ = some (.int .u64 a0.ah) := R3.out.yb.cell 1
          have z1 := R3.out.yb.frozen 1
          have m0 : wc.cell? ⟨w.heap.size + 1, 0, none⟩ = some (.int .u32 (a1 0)) := R3.out.mo.cell 0
          go_upto_region 5 with (fail)
          have R4 := Lib.hid (R3.out.ah (a0.ah + a1 0))
          clear y1 z1 m0 R3
          generalize wc.setCell ⟨gy, 1, none⟩ (.int .u64 (a0.ah + a1 0)) = w4 at *
          have y1 : w4.cell? ⟨gy, 2, none⟩ = some (.int .u64 a0.wt) := R4.out.yb.cell 2
          have z1 := R4.out.yb.frozen 2
          have m0 : w4.cell? ⟨w.heap.size + 1, 1, none⟩ = some (.int .u32 (a1 1)) := R4.out.mo.cell 1
          go_upto_region 6 with (fail)
          have R5 := Lib.hid (R4.out.wt (a0.wt + a1 1))
          clear y1 z1 m0 R4
          generalize w4.setCell ⟨gy, 2, none⟩ (.int .u64 (a0.wt + a1 1)) = w5 at *
          have y1 : w5.cell? ⟨gd, 9, none⟩ = some (.int .u64 (a2 9)) := R5.out.db.cell 9
          have z1 := R5.out.db.frozen 9
          have m0 : w5.cell? ⟨w.heap.size + 1, 2, none⟩ = some (.int .u32 (a1 2)) := R5.out.mo.cell 2
          go_upto_region 7 with (fail)
          have R6 := Lib.hid (R5.out.fc f)
          clear y1 z1 m0 R5
          generalize w5.setCell ⟨gd, 9, none⟩ (.int .u64 f) = w6 at *
          have y1 : w6.cell? ⟨gd, 10, none⟩ = some (.int .i64 (a2 10)) := R6.out.db.cell 10
          have y2 : w6.cell? ⟨gd, 11, none⟩ = some (.int .i64 (a2 11)) := R6.out.db.cell 11
          have z1 := R6.out.db.frozen 10
          have m0 : w6.cell? ⟨w.heap.size + 1, 3, none⟩ = some (.int .u32 (a1 3)) := R6.out.mo.cell 3
          go_upto_region 8 with (fail)
          have R7 := Lib.hid (R6.out.ub u)
          clear y1 y2 z1 m0 R6
          generalize w6.setCell ⟨gd, 10, none⟩ (.int .i64 u) = w7 at *
          have y1 : w7.cell? ⟨gd, 7, none⟩ = some (.int .u64 (a2 7)) := R7.out.db.cell 7
          have z1 := R7.out.db.frozen 7
          go_upto_region 9 with (fail)
          have R8 := Lib.hid (R7.out.ch m)
          clear y1 z1 R7
          generalize w7.setCell ⟨gd, 7, none⟩ (.int .u64 m) = w8 at *
          change Hid (Ris w w8 a0 a1 a2 _ (cfgR a2 f u m) gy gd) at R8
          generalize cfgR a2 f u m = d at *
          generalize hr2 : lastE (a0.ah + a1 0) (a0.wt + a1 1) d (d 10 + sweepN a2) a0.ep = r2 at *
          clear hr2
          rcases r2 with _ | s2
          · obtain ⟨k1, bb1, hk1⟩ := laterIs_pair (lastE a0.ah a0.wt a2 (a2 10 + sweepN a2) a0.ep)
            rw [hk1] at HP1
            unfold laterIs at HP2
            clear HM hk1
            go_wp2_with (first | (refine wpList_load_rowG rfl 26 _ rfl gd rfl 26 _ (0, 0) _ R8.out.db Try.underlying26 rfl info24 ?_))
            refine (HK2.out _).mono ?_
            rintro o w9 ⟨rfl, b9⟩
            have R9 := Lib.hid (R8.out.next b9)
            clear R8 b9 HK2
            have x0 := R9.out.bx.x0
            have x1 := R9.out.bx.x1
            have x2 := R9.out.bx.x2
            go_wp2_with (first | (refine wpList_load_rowG rfl 26 _ rfl (w.heap.size + 2) rfl 26 _ (0, 0) _ R9.out.bx.2.1 Try.underlying26 rfl info24 ?_))
            refine (HP1.out _).mono ?_
            rintro o w10 ⟨rfl, b10⟩
            have R10 := Lib.hid (R9.out.next b10)
            clear R9 b10 HP1 x0 x1 x2
            have y0 : w10.cell? ⟨gy, 0, none⟩ = some (.int .i64 a0.ep) := R10.out.yb.cell 0
            have y1 : w10.cell? ⟨gy, 1, none⟩ = some (.int .u64 (a0.ah + a1 0)) := R10.out.yb.cell 1
            have y2 : w10.cell? ⟨gy, 2, none⟩ = some (.int .u64 (a0.wt + a1 1)) := R10.out.yb.cell 2
            go_wp2_with (first | (refine wpList_load_rowG rfl 26 _ rfl gd rfl 26 _ (0, 0) _ R10.out.db Try.underlying26 rfl info24 ?_))
            refine (HP2.out _).mono ?_
            rintro o w11 ⟨rfl, b11⟩
            have R11 := Lib.hid (R10.out.next b11)
            clear R10 b11 HP2 y0 y1 y2
            go_wp2_with (fail)
            refine (HV.out _).mono ?_
            rintro o w12 ⟨rfl, b12⟩
            have R12 := Lib.hid (R11.out.next b12)
            clear R11 b12 HV
            go_wp2
            go_ret
            exact ⟨rfl, R12.out.bx.2.2.1⟩
          · obtain ⟨s1, hs1, hle⟩ := HM.out s2 rfl
            rw [hs1] at HP1
            unfold laterIs at HP1 HP2
            have hd3 : decide (s1 ≤ s2) = true := by simpa using hle
            clear HM hs1
            go_wp2_with (first | (refine wpList_load_rowG rfl 26 _ rfl gd rfl 26 _ (0, 0) _ R8.out.db Try.underlying26 rfl info24 ?_))
            refine (HK2.out _).mono ?_
            rintro o w9 ⟨rfl, b9⟩
            have R9 := Lib.hid (R8.out.next b9)
            clear R8 b9 HK2
            have x0 := R9.out.bx.x0
            have x1 := R9.out.bx.x1
            have x2 := R9.out.bx.x2
            go_wp2_with (first | (refine wpList_load_rowG rfl 26 _ rfl (w.heap.size + 2) rfl 26 _ (0, 0) _ R9.out.bx.2.1 Try.underlying26 rfl info24 ?_))
            refine (HP1.out _).mono ?_
            rintro o w10 ⟨rfl, b10⟩
            have R10 := Lib.hid (R9.out.next b10)
            clear R9 b10 HP1 x0 x1 x2
            have y0 : w10.cell? ⟨gy, 0, none⟩ = some (.int .i64 a0.ep) := R10.out.yb.cell 0
            have y1 : w10.cell? ⟨gy, 1, none⟩ = some (.int .u64 (a0.ah + a1 0)) := R10.out.yb.cell 1
            have y2 : w10.cell? ⟨gy, 2, none⟩ = some (.int .u64 (a0.wt + a1 1)) := R10.out.yb.cell 2
            go_wp2_with (first | (refine wpList_load_rowG rfl 26 _ rfl gd rfl 26 _ (0, 0) _ R10.out.db Try.underlying26 rfl info24 ?_))
            refine (HP2.out _).mono ?_
            rintro o w11 ⟨rfl, b11⟩
            have R11 := Lib.hid (R10.out.next b11)
            clear R10 b11 HP2 y0 y1 y2
            go_wp2_with (fail)
            refine (HV.out _).mono ?_
            rintro o w12 ⟨rfl, b12⟩
            have R12 := Lib.hid (R11.out.next b12)
            clear R11 b12 HV
            go_wp2
            go_ret
            exact ⟨rfl, R12.out.bx.2.2.1⟩
      · have d1 : decide (2305843009213693952 < a0.ah) = false := by simpa using h1
        have d2 : decide (2305843009213693952 < a0.wt) = true := by simpa using h2
        clear w0 w1 w2 hc G
        go_enter Try.func4, Try.ntmps4
        go_upto_region 1 with (fail)
        generalize (((w.alloc (.cells (cellsEx a0) 24)).alloc (.cells (cellsQ a1) 35)).alloc (.cells (cellsOf a2) 26)) = W at *
        go_wp2_with (first | (refine wpList_load_rowG rfl 26 _ rfl (w.heap.size + 2) rfl 26 _ (0, 0) _ T0.out.1.2.1 Try.underlying26 rfl info24 ?_))
        refine (HK.out _).mono ?_
        rintro o w1 ⟨rfl, b1⟩
        have T1 := Lib.hid (T0.out.1.next b1)
        clear T0 b1 HK
        have x1 := T1.out.x1
        have x2 := T1.out.x2
        go_wp2_with (fail)
        refine (HV.out _).mono ?_
        rintro o w2 ⟨rfl, b2⟩
        have T2 := Lib.hid (T1.out.next b2)
        clear b2 x1 x2 HV
        go_wp2
        go_ret
        exact ⟨rfl, T2.out.2.2.1⟩
    · have d1 : decide (2305843009213693952 < a0.ah) = true := by simpa using h1
      clear w0 w1 w2 hc G
      go_enter Try.func4, Try.ntmps4
      go_upto_region 1 with (fail)
      generalize (((w.alloc (.cells (cellsEx a0) 24)).alloc (.cells (cellsQ a1) 35)).alloc (.cells (cellsOf a2) 26)) = W at *
      go_wp2_with (first | (refine wpList_load_rowG rfl 26 _ rfl (w.heap.size + 2) rfl 26 _ (0, 0) _ T0.out.1.2.1 Try.underlying26 rfl info24 ?_))
      refine (HK.out _).mono ?_
      rintro o w1 ⟨rfl, b1⟩
      have T1 := Lib.hid (T0.out.1.next b1)
      clear T0 b1 HK
      have x1 := T1.out.x1
      have x2 := T1.out.x2
      go_wp2_with (fail)
      refine (HV.out _).mono ?_
      rintro o w2 ⟨rfl, b2⟩
      have T2 := Lib.hid (T1.out.next b2)
      clear b2 x1 x2 HV
      go_wp2
      go_ret
      exact ⟨rfl, T2.out.2.2.1⟩
  · have hn : (chk a2 != 0) = true := by simpa using hc
    generalize chk a2 = x at *
    clear w0 w1 w2 hc
    go_enter Try.func4, Try.ntmps4
    go_upto_region 1 with (fail)
    generalize (((w.alloc (.cells (cellsEx a0) 24)).alloc (.cells (cellsQ a1) 35)).alloc (.cells (cellsOf a2) 26)) = W at *
    go_wp2_with (first | (refine wpList_load_rowG rfl 26 _ rfl (w.heap.size + 2) rfl 26 _ (0, 0) _ T0.out.1.2.1 Try.underlying26 rfl info24 ?_))
    refine (HK.out _).mono ?_
    rintro o w1 ⟨rfl, b1⟩
    have T1 := Lib.hid (T0.out.1.next b1)
    clear T0 b1 HK
    have x1 := T1.out.x1
    have x2 := T1.out.x2
    go_wp2_with (fail)
    refine (HV.out _).mono ?_
    rintro o w2 ⟨rfl, b2⟩
    have T2 := Lib.hid (T1.out.next b2)
    clear b2 x1 x2 HV
    go_wp2
    go_ret
    exact ⟨rfl, T2.out.2.2.1⟩
end Go.Proofs.Ytjleklhajmhekaa
