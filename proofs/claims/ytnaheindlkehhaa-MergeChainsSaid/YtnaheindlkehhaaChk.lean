/- checks; Check. -/
import Derived.Test.YtnaheindlkehhaaTri
import Derived.LoopN
namespace Go.Proofs.Ytnaheindlkehhaa
open Go Go.RowKit Go.Deep
set_option linter.unusedVariables false
set_option linter.unusedSimpArgs false
set_option maxRecDepth 100000

def chkCells : Array Value := #[.func (.func 37) #[] #[], .int .i64 8, .func (.func 38) #[] #[], .int .i64 9, .func (.func 39) #[] #[], .int .i64 3]
theorem infoC : (Try.prog.info? 56).map (·.size) = some 6 := by kernel_rfl
theorem infoK : (Try.prog.info? 55).map (·.size) = some 2 := by kernel_rfl
theorem checks_any (w : World) : Calls Try.prog 28 #[] w fun e w' => e = .returned (.agg chkCells) ∧ Below w.heap.size w w' := by
  go_enter Try.func28, Try.ntmps28
  go_wp2_with (first | (refine wpList_build rfl 55 _ rfl (by kernel_rfl) ?_) | (refine wpList_build rfl 56 _ rfl (by kernel_rfl) ?_; rw [show (Try.prog.built 56 _).getD #[] = chkCells from by kernel_rfl]) | (refine wpList_store_row rfl _ _ _ rfl w.heap.size chkCells rfl rfl 56 _ (heap_alloc_new w _) infoC rfl (by kernel_rfl) ?_; rw [World.setRow_alloc_new]))
  exact bodyPost_ret (v := .agg chkCells) (results_cell_row (fn := Try.f28) rfl _ _ w.heap.size 56 chkCells (0, 0) _ rfl (heap_alloc_new w _) Try.underlying56 rfl infoC) rfl ⟨rfl, (Below.refl _ _).alloc (Nat.le_refl _) _⟩

theorem index0 (w : World) : (Instr.index 56 (.agg chkCells) (.int .i64 0)).run Try.prog w = .ok (.agg #[.func (.func 37) #[] #[], .int .i64 8]) w := by kernel_rfl
theorem index1 (w : World) : (Instr.index 56 (.agg chkCells) (.int .i64 1)).run Try.prog w = .ok (.agg #[.func (.func 38) #[] #[], .int .i64 9]) w := by kernel_rfl
theorem index2 (w : World) : (Instr.index 56 (.agg chkCells) (.int .i64 2)).run Try.prog w = .ok (.agg #[.func (.func 39) #[] #[], .int .i64 3]) w := by kernel_rfl
/-! walks -/
set_option maxHeartbeats 800000 in
theorem check_any (s d : Val) (c : Nat → Int) (w : World) (hs : FitsV s) (hd : FitsV d) :
    Calls Try.prog 11 #[.agg (cellsV s), .agg (cellsV d), .agg (cellsOf c)] w fun e w' => e = .returned (.int .i64 (chkM s d (c 6))) ∧ Below w.heap.size w w' := by
  have T := Tri.new w s d c
  have HT := Lib.hid T
  have H1 := Lib.hid (idle_any s d c)
  have H2 := Lib.hid (slashed_any s d c)
  have H3 := Lib.hid (fun w => excessive_any s d c w hs hd)
  have i0 := index0
  have i1 := index1
  have i2 := index2
  clear T hs hd
  cases h1 : idleB s d with
  | true =>
    have E : Hid (chkM s d (c 6) = 8) := Lib.hid (by simp [chkM, h1])
    rw [h1] at H1
    clear h1 H2 H3
    go_enter Try.func11, Try.ntmps11
    go_upto_region 1 with (fail)
    generalize ((w.alloc (.cells (cellsV s) 24)).alloc (.cells (cellsV d) 24)).alloc (.cells (cellsOf c) 26) = W at *
    go_wp2_with fail
    refine (checks_any _).mono ?_
    rintro e w1 ⟨rfl, b1⟩
    have T1 := Lib.hid (HT.out.next b1)
    clear b1 HT
    go_wp2_with fail
    refine wp_loop_rounds 1 ?_
    rw [rounds_succ]
    have A0 := Lib.hid (T1.out.next ((Below.refl _ w1).alloc (Nat.le_refl _) (.cells #[.func (.func 37) #[] #[], .int .i64 8] 55)))
    clear T1
    go_wp2_with (first | (refine wpList_store_row rfl _ _ _ rfl w1.heap.size #[.func (.func 37) #[] #[], .int .i64 8] rfl rfl 55 _ (heap_alloc_new w1 _) infoK rfl (by kernel_rfl) ?_; rw [World.setRow_alloc_new]) | (refine wpList_load_row rfl 24 _ rfl w.heap.size rfl 24 _ (0, 0) _ A0.out.1 Try.underlying24 rfl infoV ?_) | (refine wpList_load_row rfl 24 _ rfl (w.heap.size + 1) rfl 24 _ (0, 0) _ A0.out.2.1 Try.underlying24 rfl infoV ?_) | (refine wpList_load_row rfl 26 _ rfl (w.heap.size + 2) rfl 26 _ (0, 0) _ A0.out.2.2.1 Try.underlying26 rfl info24 ?_))
    refine (H1.out _).mono ?_
    rintro e v0 ⟨rfl, b0⟩
    have B0 := Lib.hid (A0.out.next b0)
    have e0 : v0.cell? ⟨w1.heap.size, 1, none⟩ = some (.int .i64 8) := (b0.cell (p := ⟨w1.heap.size, 1, none⟩) (by simp)).trans ((Blk.new w1 _ _).cell 1)
    clear A0 b0
    go_wp2_with fail
    go_ret
    exact ⟨congrArg (fun x => Ending.returned (.int .i64 x)) E.out.symm, B0.out.2.2.2⟩
  | false =>
    rw [h1] at H1
    cases h2 : slashB s d with
    | true =>
      have E : Hid (chkM s d (c 6) = 9) := Lib.hid (by simp [chkM, h1, h2])
      rw [h2] at H2
      clear h1 h2 H3
      go_enter Try.func11, Try.ntmps11
      go_upto_region 1 with (fail)
      generalize ((w.alloc (.cells (cellsV s) 24)).alloc (.cells (cellsV d) 24)).alloc (.cells (cellsOf c) 26) = W at *
      go_wp2_with fail
      refine (checks_any _).mono ?_
      rintro e w1 ⟨rfl, b1⟩
      have T1 := Lib.hid (HT.out.next b1)
      clear b1 HT
      go_wp2_with fail
      refine wp_loop_rounds 2 ?_
      rw [rounds_succ]
      have A0 := Lib.hid (T1.out.next ((Below.refl _ w1).alloc (Nat.le_refl _) (.cells #[.func (.func 37) #[] #[], .int .i64 8] 55)))
      clear T1
      go_wp2_with (first | (refine wpList_store_row rfl _ _ _ rfl w1.heap.size #[.func (.func 37) #[] #[], .int .i64 8] rfl rfl 55 _ (heap_alloc_new w1 _) infoK rfl (by kernel_rfl) ?_; rw [World.setRow_alloc_new]) | (refine wpList_load_row rfl 24 _ rfl w.heap.size rfl 24 _ (0, 0) _ A0.out.1 Try.underlying24 rfl infoV ?_) | (refine wpList_load_row rfl 24 _ rfl (w.heap.size + 1) rfl 24 _ (0, 0) _ A0.out.2.1 Try.underlying24 rfl infoV ?_) | (refine wpList_load_row rfl 26 _ rfl (w.heap.size + 2) rfl 26 _ (0, 0) _ A0.out.2.2.1 Try.underlying26 rfl info24 ?_))
      refine (H1.out _).mono ?_
      rintro e v0 ⟨rfl, b0⟩
      have B0 := Lib.hid (A0.out.next b0)
      have e0 : v0.cell? ⟨w1.heap.size, 1, none⟩ = some (.int .i64 8) := (b0.cell (p := ⟨w1.heap.size, 1, none⟩) (by simp)).trans ((Blk.new w1 _ _).cell 1)
      clear A0 b0
      go_wp2_with fail
      rw [rounds_succ]
      have A1 := Lib.hid (B0.out.next ((Below.refl _ v0).alloc (Nat.le_refl _) (.cells #[.func (.func 38) #[] #[], .int .i64 9] 55)))
      clear B0
      go_wp2_with (first | (refine wpList_store_row rfl _ _ _ rfl v0.heap.size #[.func (.func 38) #[] #[], .int .i64 9] rfl rfl 55 _ (heap_alloc_new v0 _) infoK rfl (by kernel_rfl) ?_; rw [World.setRow_alloc_new]) | (refine wpList_load_row rfl 24 _ rfl w.heap.size rfl 24 _ (0, 0) _ A1.out.1 Try.underlying24 rfl infoV ?_) | (refine wpList_load_row rfl 24 _ rfl (w.heap.size + 1) rfl 24 _ (0, 0) _ A1.out.2.1 Try.underlying24 rfl infoV ?_) | (refine wpList_load_row rfl 26 _ rfl (w.heap.size + 2) rfl 26 _ (0, 0) _ A1.out.2.2.1 Try.underlying26 rfl info24 ?_))
      refine (H2.out _).mono ?_
      rintro e v1 ⟨rfl, b1⟩
      have B1 := Lib.hid (A1.out.next b1)
      have e1 : v1.cell? ⟨v0.heap.size, 1, none⟩ = some (.int .i64 9) := (b1.cell (p := ⟨v0.heap.size, 1, none⟩) (by simp)).trans ((Blk.new v0 _ _).cell 1)
      clear A1 b1
      go_wp2_with fail
      go_ret
      exact ⟨congrArg (fun x => Ending.returned (.int .i64 x)) E.out.symm, B1.out.2.2.2⟩
    | false =>
      rw [h2] at H2
      cases h3 : overB s d (c 6) with
      | true =>
        have E : Hid (chkM s d (c 6) = 3) := Lib.hid (by simp [chkM, h1, h2, h3])
        rw [h3] at H3
        clear h1 h2 h3
        go_enter Try.func11, Try.ntmps11
        go_upto_region 1 with (fail)
        generalize ((w.alloc (.cells (cellsV s) 24)).alloc (.cells (cellsV d) 24)).alloc (.cells (cellsOf c) 26) = W at *
        go_wp2_with fail
        refine (checks_any _).mono ?_
        rintro e w1 ⟨rfl, b1⟩
        have T1 := Lib.hid (HT.out.next b1)
        clear b1 HT
        go_wp2_with fail
        refine wp_loop_rounds 3 ?_
        rw [rounds_succ]
        have A0 := Lib.hid (T1.out.next ((Below.refl _ w1).alloc (Nat.le_refl _) (.cells #[.func (.func 37) #[] #[], .int .i64 8] 55)))
        clear T1
        go_wp2_with (first | (refine wpList_store_row rfl _ _ _ rfl w1.heap.size #[.func (.func 37) #[] #[], .int .i64 8] rfl rfl 55 _ (heap_alloc_new w1 _) infoK rfl (by kernel_rfl) ?_; rw [World.setRow_alloc_new]) | (refine wpList_load_row rfl 24 _ rfl w.heap.size rfl 24 _ (0, 0) _ A0.out.1 Try.underlying24 rfl infoV ?_) | (refine wpList_load_row rfl 24 _ rfl (w.heap.size + 1) rfl 24 _ (0, 0) _ A0.out.2.1 Try.underlying24 rfl infoV ?_) | (refine wpList_load_row rfl 26 _ rfl (w.heap.size + 2) rfl 26 _ (0, 0) _ A0.out.2.2.1 Try.underlying26 rfl info24 ?_))
        refine (H1.out _).mono ?_
        rintro e v0 ⟨rfl, b0⟩
        have B0 := Lib.hid (A0.out.next b0)
        have e0 : v0.cell? ⟨w1.heap.size, 1, none⟩ = some (.int .i64 8) := (b0.cell (p := ⟨w1.heap.size, 1, none⟩) (by simp)).trans ((Blk.new w1 _ _).cell 1)
        clear A0 b0
        go_wp2_with fail
        rw [rounds_succ]
        have A1 := Lib.hid (B0.out.next ((Below.refl _ v0).alloc (Nat.le_refl _) (.cells #[.func (.func 38) #[] #[], .int .i64 9] 55)))
        clear B0
        go_wp2_with (first | (refine wpList_store_row rfl _ _ _ rfl v0.heap.size #[.func (.func 38) #[] #[], .int .i64 9] rfl rfl 55 _ (heap_alloc_new v0 _) infoK rfl (by kernel_rfl) ?_; rw [World.setRow_alloc_new]) | (refine wpList_load_row rfl 24 _ rfl w.heap.size rfl 24 _ (0, 0) _ A1.out.1 Try.underlying24 rfl infoV ?_) | (refine wpList_load_row rfl 24 _ rfl (w.heap.size + 1) rfl 24 _ (0, 0) _ A1.out.2.1 Try.underlying24 rfl infoV ?_) | (refine wpList_load_row rfl 26 _ rfl (w.heap.size + 2) rfl 26 _ (0, 0) _ A1.out.2.2.1 Try.underlying26 rfl info24 ?_))
        refine (H2.out _).mono ?_
        rintro e v1 ⟨rfl, b1⟩
        have B1 := Lib.hid (A1.out.next b1)
        have e1 : v1.cell? ⟨v0.heap.size, 1, none⟩ = some (.int .i64 9) := (b1.cell (p := ⟨v0.heap.size, 1, none⟩) (by simp)).trans ((Blk.new v0 _ _).cell 1)
        clear A1 b1
        go_wp2_with fail
        rw [rounds_succ]
        have A2 := Lib.hid (B1.out.next ((Below.refl _ v1).alloc (Nat.le_refl _) (.cells #[.func (.func 39) #[] #[], .int .i64 3] 55)))
        clear B1
        go_wp2_with (first | (refine wpList_store_row rfl _ _ _ rfl v1.heap.size #[.func (.func 39) #[] #[], .int .i64 3] rfl rfl 55 _ (heap_alloc_new v1 _) infoK rfl (by kernel_rfl) ?_; rw [World.setRow_alloc_new]) | (refine wpList_load_row rfl 24 _ rfl w.heap.size rfl 24 _ (0, 0) _ A2.out.1 Try.underlying24 rfl infoV ?_) | (refine wpList_load_row rfl 24 _ rfl (w.heap.size + 1) rfl 24 _ (0, 0) _ A2.out.2.1 Try.underlying24 rfl infoV ?_) | (refine wpList_load_row rfl 26 _ rfl (w.heap.size + 2) rfl 26 _ (0, 0) _ A2.out.2.2.1 Try.underlying26 rfl info24 ?_))
        refine (H3.out _).mono ?_
        rintro e v2 ⟨rfl, b2⟩
        have B2 := Lib.hid (A2.out.next b2)
        have e2 : v2.cell? ⟨v1.heap.size, 1, none⟩ = some (.int .i64 3) := (b2.cell (p := ⟨v1.heap.size, 1, none⟩) (by simp)).trans ((Blk.new v1 _ _).cell 1)
        clear A2 b2
        go_wp2_with fail
        go_ret
        exact ⟨congrArg (fun x => Ending.returned (.int .i64 x)) E.out.symm, B2.out.2.2.2⟩
      | false =>
        have E : Hid (chkM s d (c 6) = 0) := Lib.hid (by simp [chkM, h1, h2, h3])
        rw [h3] at H3
        clear h1 h2 h3
        go_enter Try.func11, Try.ntmps11
        go_upto_region 1 with (fail)
        generalize ((w.alloc (.cells (cellsV s) 24)).alloc (.cells (cellsV d) 24)).alloc (.cells (cellsOf c) 26) = W at *
        go_wp2_with fail
        refine (checks_any _).mono ?_
        rintro e w1 ⟨rfl, b1⟩
        have T1 := Lib.hid (HT.out.next b1)
        clear b1 HT
        go_wp2_with fail
        refine wp_loop_rounds 4 ?_
        rw [rounds_succ]
        have A0 := Lib.hid (T1.out.next ((Below.refl _ w1).alloc (Nat.le_refl _) (.cells #[.func (.func 37) #[] #[], .int .i64 8] 55)))
        clear T1
        go_wp2_with (first | (refine wpList_store_row rfl _ _ _ rfl w1.heap.size #[.func (.func 37) #[] #[], .int .i64 8] rfl rfl 55 _ (heap_alloc_new w1 _) infoK rfl (by kernel_rfl) ?_; rw [World.setRow_alloc_new]) | (refine wpList_load_row rfl 24 _ rfl w.heap.size rfl 24 _ (0, 0) _ A0.out.1 Try.underlying24 rfl infoV ?_) | (refine wpList_load_row rfl 24 _ rfl (w.heap.size + 1) rfl 24 _ (0, 0) _ A0.out.2.1 Try.underlying24 rfl infoV ?_) | (refine wpList_load_row rfl 26 _ rfl (w.heap.size + 2) rfl 26 _ (0, 0) _ A0.out.2.2.1 Try.underlying26 rfl info24 ?_))
        refine (H1.out _).mono ?_
        rintro e v0 ⟨rfl, b0⟩
        have B0 := Lib.hid (A0.out.next b0)
        have e0 : v0.cell? ⟨w1.heap.size, 1, none⟩ = some (.int .i64 8) := (b0.cell (p := ⟨w1.heap.size, 1, none⟩) (by simp)).trans ((Blk.new w1 _ _).cell 1)
        clear A0 b0
        go_wp2_with fail
        rw [rounds_succ]
        have A1 := Lib.hid (B0.out.next ((Below.refl _ v0).alloc (Nat.le_refl _) (.cells #[.func (.func 38) #[] #[], .int .i64 9] 55)))
        clear B0
        go_wp2_with (first | (refine wpList_store_row rfl _ _ _ rfl v0.heap.size #[.func (.func 38) #[] #[], .int .i64 9] rfl rfl 55 _ (heap_alloc_new v0 _) infoK rfl (by kernel_rfl) ?_; rw [World.setRow_alloc_new]) | (refine wpList_load_row rfl 24 _ rfl w.heap.size rfl 24 _ (0, 0) _ A1.out.1 Try.underlying24 rfl infoV ?_) | (refine wpList_load_row rfl 24 _ rfl (w.heap.size + 1) rfl 24 _ (0, 0) _ A1.out.2.1 Try.underlying24 rfl infoV ?_) | (refine wpList_load_row rfl 26 _ rfl (w.heap.size + 2) rfl 26 _ (0, 0) _ A1.out.2.2.1 Try.underlying26 rfl info24 ?_))
        refine (H2.out _).mono ?_
        rintro e v1 ⟨rfl, b1⟩
        have B1 := Lib.hid (A1.out.next b1)
        have e1 : v1.cell? ⟨v0.heap.size, 1, none⟩ = some (.int .i64 9) := (b1.cell (p := ⟨v0.heap.size, 1, none⟩) (by simp)).trans ((Blk.new v0 _ _).cell 1)
        clear A1 b1
        go_wp2_with fail
        rw [rounds_succ]
        have A2 := Lib.hid (B1.out.next ((Below.refl _ v1).alloc (Nat.le_refl _) (.cells #[.func (.func 39) #[] #[], .int .i64 3] 55)))
        clear B1
        go_wp2_with (first | (refine wpList_store_row rfl _ _ _ rfl v1.heap.size #[.func (.func 39) #[] #[], .int .i64 3] rfl rfl 55 _ (heap_alloc_new v1 _) infoK rfl (by kernel_rfl) ?_; rw [World.setRow_alloc_new]) | (refine wpList_load_row rfl 24 _ rfl w.heap.size rfl 24 _ (0, 0) _ A2.out.1 Try.underlying24 rfl infoV ?_) | (refine wpList_load_row rfl 24 _ rfl (w.heap.size + 1) rfl 24 _ (0, 0) _ A2.out.2.1 Try.underlying24 rfl infoV ?_) | (refine wpList_load_row rfl 26 _ rfl (w.heap.size + 2) rfl 26 _ (0, 0) _ A2.out.2.2.1 Try.underlying26 rfl info24 ?_))
        refine (H3.out _).mono ?_
        rintro e v2 ⟨rfl, b2⟩
        have B2 := Lib.hid (A2.out.next b2)
        have e2 : v2.cell? ⟨v1.heap.size, 1, none⟩ = some (.int .i64 3) := (b2.cell (p := ⟨v1.heap.size, 1, none⟩) (by simp)).trans ((Blk.new v1 _ _).cell 1)
        clear A2 b2
        go_wp2_with fail
        rw [rounds_succ]
        go_wp2_with fail
        go_ret
        exact ⟨congrArg (fun x => Ending.returned (.int .i64 x)) E.out.symm, B2.out.2.2.2⟩
end Go.Proofs.Ytnaheindlkehhaa
