/- Apply. -/
import Derived.Test.YtnaheindlkehhaaChk
import Derived.Test.YtnaheindlkehhaaTail
namespace Go.Proofs.Ytnaheindlkehhaa
open Go Go.RowKit Go.Deep
set_option linter.unusedVariables false
set_option linter.unusedSimpArgs false
set_option maxRecDepth 100000

theorem results_cells2 {P : Program} {fn : Func} {p q u : Tmp} {ty : TypeId} (h : fn.results = #[.cell p ty, .cell q ty, .tmp u]) (tmps : Array Value) (w : World) (g g2 : Nat) (t : TypeId) (cs cs2 : Array Value) (fr fr2 : Nat × Nat) (d : TypeDesc)
    (hp : tmps.getD p undef = .pointer (some ⟨g, 0, none⟩)) (hq : tmps.getD q undef = .pointer (some ⟨g2, 0, none⟩)) (hg : w.heap[g]? = some (.cells cs t fr)) (hg2 : w.heap[g2]? = some (.cells cs2 t fr2))
    (hu : P.underlying ty = some d) (hd : (match d with | .struct _ | .array _ _ => true | _ => false) = true) (hi : (P.info? ty).map (·.size) = some cs.size) (hi2 : (P.info? ty).map (·.size) = some cs2.size) :
    (results fn tmps).run P w = .ok (.tuple #[.agg cs, .agg cs2, tmps.getD u undef]) w := by
  have e : (results fn tmps).run P w = ((asAddr (tmps.getD p undef)).run P w).andThen fun a w₁ => ((loadVar ty a).run P w₁).andThen fun v w₂ => ((asAddr (tmps.getD q undef)).run P w₂).andThen fun a2 w₃ => ((loadVar ty a2).run P w₃).andThen fun v2 w₄ => .ok (.tuple #[v, v2, tmps.getD u undef]) w₄ := by
    simp only [results, h]
    simp [Sem.run_bind, Result.andThen]
  rw [e, hp, hq]
  simp [asAddr, run_loadVar_row w g t ty cs fr d hg hu hd hi, run_loadVar_row w g2 t ty cs2 fr2 d hg2 hu hd hi2, Result.andThen]
theorem zero_cells : (#[.int .u64 0, .int .i64 0, .bool false, .int .i64 0, .int .i64 0, .int .i64 0, .int .i64 0] : Array Value) = cellsV val0 := rfl
/-- Apply's five boxes. -/
def Fiv (w W : World) (s d : Val) (c : Nat → Int) : Prop :=
  Tri w W s d c ∧ Blk W (w.heap.size + 3) 24 (cellsV val0) ∧ Blk W (w.heap.size + 4) 24 (cellsV val0)
section
variable {w W W' : World} {s d : Val} {c : Nat → Int}
theorem Fiv.new (w : World) (s d : Val) (c : Nat → Int) : Fiv w (((((w.alloc (.cells (cellsV s) 24)).alloc (.cells (cellsV d) 24)).alloc (.cells (cellsOf c) 26)).alloc (.cells (cellsV val0) 24)).alloc (.cells (cellsV val0) 24)) s d c := by
  have h := Tri.new w s d c
  have hs : (((w.alloc (.cells (cellsV s) 24)).alloc (.cells (cellsV d) 24)).alloc (.cells (cellsOf c) 26)).heap.size = w.heap.size + 3 := by simp
  generalize ((w.alloc (.cells (cellsV s) 24)).alloc (.cells (cellsV d) 24)).alloc (.cells (cellsOf c) 26) = W at *
  refine ⟨h.next (((Below.refl _ _).alloc (Nat.le_refl _) _).alloc (by simp) _), ?_, ?_⟩
  · have := Blk.alloc (Blk.new W 24 (cellsV val0)) (.cells (cellsV val0) 24)
    rwa [hs] at this
  · have := tri_two W (.cells (cellsV val0) 24) (cellsV val0) 24
    rwa [hs] at this
theorem Fiv.next (h : Fiv w W s d c) (hb : Below W.heap.size W W') : Fiv w W' s d c := ⟨h.1.next hb, h.2.1.below hb h.2.1.lt, h.2.2.below hb h.2.2.lt⟩
end

set_option maxHeartbeats 800000 in
theorem apply_err (s d : Val) (c : Nat → Int) (w : World) (hs : FitsV s) (hd : FitsV d) (n : Int) (hn : chkM s d (c 6) = n) (h0 : n ≠ 0) :
    Calls Try.prog 12 #[.agg (cellsV s), .agg (cellsV d), .agg (cellsOf c)] w fun e w' => e = .returned (.tuple #[.agg (cellsV val0), .agg (cellsV val0), .int .i64 n]) ∧ Below w.heap.size w w' := by
  have HT := Lib.hid (Fiv.new w s d c)
  have HC := Lib.hid (fun w => check_any s d c w hs hd)
  rw [hn] at HC
  have q0 : (n != 0) = true := by simpa using h0
  clear hs hd hn h0
  go_enter Try.func12, Try.ntmps12
  go_upto_region 1 with (fail)
  simp only [zero_cells]
  generalize ((((w.alloc (.cells (cellsV s) 24)).alloc (.cells (cellsV d) 24)).alloc (.cells (cellsOf c) 26)).alloc (.cells (cellsV val0) 24)).alloc (.cells (cellsV val0) 24) = W at *
  go_wp2_with (first | (refine wpList_load_row rfl 24 _ rfl w.heap.size rfl 24 _ (0, 0) _ HT.out.1.1 Try.underlying24 rfl infoV ?_) | (refine wpList_load_row rfl 24 _ rfl (w.heap.size + 1) rfl 24 _ (0, 0) _ HT.out.1.2.1 Try.underlying24 rfl infoV ?_) | (refine wpList_load_row rfl 26 _ rfl (w.heap.size + 2) rfl 26 _ (0, 0) _ HT.out.1.2.2.1 Try.underlying26 rfl info24 ?_))
  refine (HC.out _).mono ?_
  rintro e w1 ⟨rfl, b1⟩
  have T1 := Lib.hid (HT.out.next b1)
  clear HT b1 HC
  have R1 : Hid (Blk (w1.setRow (w.heap.size + 3) (cellsV val0)) (w.heap.size + 4) 24 (cellsV val0)) := Lib.hid ((setRow_other w1 _ _ _ (by omega)).trans T1.out.2.2)
  go_wp2_with (first | (refine wpList_build_val rfl 24 _ rfl val0 (by kernel_rfl) ?_) | (refine wpList_store_row rfl _ _ _ rfl (w.heap.size + 3) (cellsV val0) rfl rfl 24 _ T1.out.2.1 infoV rfl (cellsV_one _) ?_) | (refine wpList_store_row rfl _ _ _ rfl (w.heap.size + 4) (cellsV val0) rfl rfl 24 _ R1.out infoV rfl (cellsV_one _) ?_))
  exact bodyPost_ret (v := .tuple #[.agg (cellsV val0), .agg (cellsV val0), .int .i64 n]) (results_cells2 (fn := Try.f12) rfl _ _ (w.heap.size + 3) (w.heap.size + 4) 24 _ _ (0, 0) (0, 0) _ rfl rfl ((setRow_other _ _ _ _ (by omega)).trans (setRow_heap _ _ _ _ _ _ T1.out.2.1)) (setRow_heap _ _ _ _ _ _ R1.out) Try.underlying24 rfl infoV infoV) rfl ⟨rfl, below_setRow (below_setRow T1.out.1.2.2.2 (by omega) _) (by omega) _⟩
set_option maxHeartbeats 800000 in
theorem apply_ok (s d : Val) (c : Nat → Int) (w : World) (hs : FitsV s) (hd : FitsV d) (hn : chkM s d (c 6) = 0) :
    Calls Try.prog 12 #[.agg (cellsV s), .agg (cellsV d), .agg (cellsOf c)] w fun e w' => e = .returned (.tuple #[.agg (cellsV (mvS s)), .agg (cellsV (mvD s d)), .int .i64 0]) ∧ Below w.heap.size w w' := by
  have HT := Lib.hid (Fiv.new w s d c)
  have HC := Lib.hid (fun w => check_any s d c w hs hd)
  rw [hn] at HC
  have hk := chk_ok hn
  obtain ⟨t, ht⟩ : ∃ t, d.bal + s.bal = t := ⟨_, rfl⟩
  have hw : IntKind.u64.wrap (d.bal + s.bal) = t := by
    have h1 := hs.bal
    have h2 := hd.bal
    rw [ht]
    have h3 : 0 ≤ t := by omega
    have h4 : t ≤ 18446744073709551615 := by omega
    simp [IntKind.wrap, IntKind.signed, IntKind.bits]; omega
  have E : Hid (cellsV (mvD s d) = (cellsV d).setIfInBounds 0 (.int .u64 t)) := Lib.hid (by rw [← ht]; rfl)
  have E2 : Hid (cellsV (mvS s) = ((cellsV s).setIfInBounds 0 (.int .u64 0)).setIfInBounds 1 (.int .i64 7)) := Lib.hid rfl
  clear hs hd hn hk ht
  go_enter Try.func12, Try.ntmps12
  go_upto_region 1 with (fail)
  simp only [zero_cells]
  generalize ((((w.alloc (.cells (cellsV s) 24)).alloc (.cells (cellsV d) 24)).alloc (.cells (cellsOf c) 26)).alloc (.cells (cellsV val0) 24)).alloc (.cells (cellsV val0) 24) = W at *
  go_wp2_with (first | (refine wpList_load_row rfl 24 _ rfl w.heap.size rfl 24 _ (0, 0) _ HT.out.1.1 Try.underlying24 rfl infoV ?_) | (refine wpList_load_row rfl 24 _ rfl (w.heap.size + 1) rfl 24 _ (0, 0) _ HT.out.1.2.1 Try.underlying24 rfl infoV ?_) | (refine wpList_load_row rfl 26 _ rfl (w.heap.size + 2) rfl 26 _ (0, 0) _ HT.out.1.2.2.1 Try.underlying26 rfl info24 ?_))
  refine (HC.out _).mono ?_
  rintro e w1 ⟨rfl, b1⟩
  have T1 := Lib.hid (HT.out.next b1)
  clear HT b1 HC
  have f0 := T1.out.1.1.frozen 0
  have f1 := T1.out.1.1.frozen 1
  have g0 := T1.out.1.2.1.frozen 0
  have x0 : w1.cell? ⟨w.heap.size, 0, none⟩ = some (.int .u64 s.bal) := T1.out.1.1.cell 0
  have y0 : w1.cell? ⟨w.heap.size + 1, 0, none⟩ = some (.int .u64 d.bal) := T1.out.1.2.1.cell 0
  have x1 : w1.cell? ⟨w.heap.size, 1, none⟩ = some (.int .i64 s.st) := T1.out.1.1.cell 1
  go_upto_region 7 with (fail)
  have Z : Hid (Blk (((w1.setCell ⟨w.heap.size + 1, 0, none⟩ (.int .u64 t)).setCell ⟨w.heap.size, 0, none⟩ (.int .u64 0)).setCell ⟨w.heap.size, 1, none⟩ (.int .i64 7)) w.heap.size 24 (cellsV (mvS s)) ∧ Blk (((w1.setCell ⟨w.heap.size + 1, 0, none⟩ (.int .u64 t)).setCell ⟨w.heap.size, 0, none⟩ (.int .u64 0)).setCell ⟨w.heap.size, 1, none⟩ (.int .i64 7)) (w.heap.size + 1) 24 (cellsV (mvD s d)) ∧
      Blk (((w1.setCell ⟨w.heap.size + 1, 0, none⟩ (.int .u64 t)).setCell ⟨w.heap.size, 0, none⟩ (.int .u64 0)).setCell ⟨w.heap.size, 1, none⟩ (.int .i64 7)) (w.heap.size + 3) 24 (cellsV val0) ∧ Blk (((w1.setCell ⟨w.heap.size + 1, 0, none⟩ (.int .u64 t)).setCell ⟨w.heap.size, 0, none⟩ (.int .u64 0)).setCell ⟨w.heap.size, 1, none⟩ (.int .i64 7)) (w.heap.size + 4) 24 (cellsV val0) ∧
      Below w.heap.size w (((w1.setCell ⟨w.heap.size + 1, 0, none⟩ (.int .u64 t)).setCell ⟨w.heap.size, 0, none⟩ (.int .u64 0)).setCell ⟨w.heap.size, 1, none⟩ (.int .i64 7))) := by
    obtain ⟨⟨h1, h2, -, h3⟩, h4, h5⟩ := T1.out
    refine Lib.hid ⟨?_, ?_, ?_, ?_, ?_⟩
    · rw [E2.out]
      exact ((h1.far (by simp) _).set_ 0 _).set_ 1 _
    · rw [E.out]
      exact ((h2.set_ 0 _).far (by simp) _).far (by simp) _
    · exact ((h4.far (by simp) _).far (by simp) _).far (by simp) _
    · exact ((h5.far (by simp) _).far (by simp) _).far (by simp) _
    · exact ((h3.setCell (by simp) _).setCell (by simp) _).setCell (by simp) _
  generalize ((w1.setCell ⟨w.heap.size + 1, 0, none⟩ (.int .u64 t)).setCell ⟨w.heap.size, 0, none⟩ (.int .u64 0)).setCell ⟨w.heap.size, 1, none⟩ (.int .i64 7) = w3 at *
  clear T1 x0 x1 y0 f0 f1 g0 E E2 hw
  have R3 : Hid (Blk w3.drew (w.heap.size + 3) 24 (cellsV val0)) := Lib.hid Z.out.2.2.1
  have R4 : Hid (Blk (w3.drew.setRow (w.heap.size + 3) (cellsV (mvS s))) (w.heap.size + 4) 24 (cellsV val0)) := Lib.hid ((setRow_other _ _ _ _ (by omega)).trans Z.out.2.2.2.1)
  have S3 : Hid (Blk (w3.drew.setRow (w.heap.size + 3) (cellsV (mvS s))) w.heap.size 24 (cellsV (mvS s)) ∧ Blk (w3.drew.setRow (w.heap.size + 3) (cellsV (mvS s))) (w.heap.size + 1) 24 (cellsV (mvD s d))) := Lib.hid ⟨(setRow_other _ _ _ _ (by omega)).trans Z.out.1, (setRow_other _ _ _ _ (by omega)).trans Z.out.2.1⟩
  have B3 : Hid (Below w.heap.size w w3.drew) := Lib.hid Z.out.2.2.2.2.drew
  refine wp_region_first (fun w' => Blk w' w.heap.size 24 (cellsV (mvS s)) ∧ Blk w' (w.heap.size + 1) 24 (cellsV (mvD s d))) 3 1 [0, 1] (by kernel_rfl) (by kernel_rfl) ⟨Z.out.1, Z.out.2.1⟩ ?_
  simp only [List.filterMap_cons, List.filterMap_nil, List.getElem?_toArray, List.getElem?_cons_zero, List.getElem?_cons_succ]
  show wpQuiet _ _ _ _ [_, _] _
  refine q_load_val 24 _ w.heap.size 0 (mvS s) _ rfl rfl rfl (fun w' h => h.1.range) Try.underlying24 rfl infoV ?_
  simp only [Act.put, List.setIfInBounds_toArray, List.set_cons_zero, List.set_cons_succ]
  refine q_load_val 24 _ (w.heap.size + 1) 0 (mvD s d) _ rfl rfl rfl (fun w' h => h.2.range) Try.underlying24 rfl infoV ?_
  simp only [Act.put, List.setIfInBounds_toArray, List.set_cons_zero, List.set_cons_succ]
  refine wpQuiet_nil ?_
  clear Z
  generalize w3.drew = w4 at *
  refine headF_one (i := 2) (by kernel_rfl) (by omega) ?_
  refine wpOp_at rfl rfl (wp_store_row _ _ _ rfl (w.heap.size + 3) (cellsV (mvS s)) rfl rfl 24 _ R3.out infoV rfl (cellsV_one _) ?_)
  refine ⟨S3.out, ?_⟩
  show Region.seqB _ _ _ _ _ = true ∧ _
  refine ⟨by kernel_rfl, ?_⟩
  simp only [Act.put, List.getElem_toArray, List.getElem_cons_zero, List.getElem_cons_succ, List.setIfInBounds_toArray, List.set_cons_zero, List.set_cons_succ, List.drop_succ_cons, List.drop_zero]
  go_wp2_with (first | (refine wpList_store_row rfl _ _ _ rfl (w.heap.size + 4) (cellsV (mvD s d)) rfl rfl 24 _ R4.out infoV rfl (cellsV_one _) ?_))
  refine NoPanic.normal ?_
  go_wp2_with fail
  exact bodyPost_ret (v := .tuple #[.agg (cellsV (mvS s)), .agg (cellsV (mvD s d)), .int .i64 0]) (results_cells2 (fn := Try.f12) rfl _ _ (w.heap.size + 3) (w.heap.size + 4) 24 _ _ (0, 0) (0, 0) _ rfl rfl ((setRow_other _ _ _ _ (by omega)).trans (setRow_heap _ _ _ _ _ _ R3.out)) (setRow_heap _ _ _ _ _ _ R4.out) Try.underlying24 rfl infoV infoV) rfl ⟨rfl, below_setRow (below_setRow B3.out (by omega) _) (by omega) _⟩
end Go.Proofs.Ytnaheindlkehhaa
