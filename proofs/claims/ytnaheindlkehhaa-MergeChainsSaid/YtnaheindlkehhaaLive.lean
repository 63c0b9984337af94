/- The chapter's examples; the default configuration; what a valid configuration gives; a function value called in a drawn region. -/
import Derived.Test.YtnaheindlkehhaaRStep
namespace Go.Proofs.Ytnaheindlkehhaa
open Go Go.RowKit Go.Deep
set_option linter.unusedVariables false
set_option linter.unusedSimpArgs false
set_option maxRecDepth 100000

theorem btw_spec {v lo hi : Int} (h : btw v lo hi = true) : lo ≤ v ∧ v ≤ hi := by unfold btw at h; simpa using h
/-- What a consolidation needs of a configuration. -/
theorem good_of_chk {c : Nat → Int} (hf : Fits c) (h : chk c = 0) : 0 ≤ c 6 ∧ 0 ≤ c 17 := by
  rcases chk_cases c with ⟨_, hb⟩ | ⟨k, _, _, _, e⟩
  · have h17 := btw_spec (hb 17 (by omega))
    have f6 : (Lit.int .u64 (c 6)).wf = true := hf 6 (by omega)
    exact ⟨(bounds_u64 f6).1, by omega⟩
  · omega
def dflt : Nat → Int
  | 0 => 16
  | 1 => 8
  | 2 => 16
  | 3 => 64
  | 4 => 1024
  | 5 => 8
  | 6 => 128
  | 7 => 32
  | 8 => 4
  | 9 => 64
  | 10 => 2
  | 11 => 5
  | 12 => 4
  | 13 => 4
  | 14 => 6
  | 15 => 4
  | 16 => 2
  | 17 => 2
  | 18 => 1
  | 19 => 4
  | _ => 0
theorem dflt_chk : chk dflt = 0 := by decide +kernel
theorem cells_one (c : Nat → Int) : (cellsOf c).all (·.oneCell') = true := by kernel_rfl
theorem default_any (w : World) : Calls Try.prog 27 #[] w fun e w' => e = .returned (.agg (cellsOf dflt)) ∧ Below w.heap.size w w' := by
  go_enter Try.func27, Try.ntmps27
  go_wp2_with (first | (refine wpList_build rfl 26 _ rfl (by kernel_rfl) ?_; rw [show (Try.prog.built 26 _).getD #[] = cellsOf dflt from by kernel_rfl]) | (refine wpList_store_row rfl _ _ _ rfl w.heap.size (cellsOf dflt) rfl rfl 26 _ (heap_alloc_new w _) info24 rfl (cells_one _) ?_; rw [World.setRow_alloc_new]))
  exact bodyPost_ret (v := .agg (cellsOf dflt)) (results_cell_row (fn := Try.f27) rfl _ _ w.heap.size 26 (cellsOf dflt) (0, 0) _ rfl (heap_alloc_new w _) Try.underlying26 rfl info24) rfl ⟨rfl, (Below.refl _ _).alloc (Nat.le_refl _) _⟩
theorem dflt_fits : Fits dflt := by
  intro k hk
  have : k = 0 ∨ k = 1 ∨ k = 2 ∨ k = 3 ∨ k = 4 ∨ k = 5 ∨ k = 6 ∨ k = 7 ∨ k = 8 ∨ k = 9 ∨ k = 10 ∨ k = 11 ∨ k = 12 ∨ k = 13 ∨ k = 14 ∨ k = 15 ∨ k = 16 ∨ k = 17 ∨ k = 18 ∨ k = 19 := by omega
  rcases this with h | h | h | h | h | h | h | h | h | h | h | h | h | h | h | h | h | h | h | h <;> subst h <;> decide
/-! ### a function value -/
section
variable {P : Program} {ops : Array Oper} {C : World → Prop} {Q : Act → Prop} {a : Act} {rest : List Oper}
theorem q_callv {dst : Option Tmp} {x : Operand} {f : FuncId} {xs : Array Operand} {ats : Array TypeId} {ty : TypeId} {pos : String} {after : Array Edge} {guard : Option (Nat × Bool)} (v : Value) (vs : Array Value)
    (hw : Region.wanted { dst, op := .call { callee := .value x, args := xs, argTypes := ats }, type := ty, pos, after, guard } (yielded ops a.tmps) = true) (hx : a.eval x = .func (.func f) #[] #[])
    (hvs : #[] ++ xs.map a.eval ++ #[] = vs) (hcall : ∀ args w, (callFunc f args).run P w = .ok (.enter f args) w)
    (hC : ∀ w, C w → Calls P f vs w fun e w' => e = .returned v ∧ C w') (h : wpQuiet P ops C Q rest (a.put dst v)) :
    wpQuiet P ops C Q ({ dst, op := .call { callee := .value x, args := xs, argTypes := ats }, type := ty, pos, after, guard } :: rest) a := by
  unfold wpQuiet
  rw [if_pos hw]
  refine ⟨v, fun w hc => ?_, h⟩
  unfold Oper.quietAt
  have e : execOp a.eval { dst, op := .call { callee := .value x, args := xs, argTypes := ats }, type := ty, pos, after, guard } = callFunc f (#[] ++ xs.map a.eval ++ #[]) := by
    simp only [execOp, resolve, hx]
    rfl
  rw [e, hcall, hvs]
  exact ⟨rfl, hC w hc⟩
theorem q_build_val {o : Oper} (t : TypeId) (parts : Array (Nat × Operand)) (hw : Region.wanted o (yielded ops a.tmps) = true) (ho : o.op = .build t parts) (v : Val) (hf : P.built t (parts.map fun (i, x) => (i, a.eval x)).toList = some (cellsV v)) (h : wpQuiet P ops C Q rest (a.put o.dst (.agg (cellsV v)))) : wpQuiet P ops C Q (o :: rest) a := by
  refine q_val (.agg (cellsV v)) hw (fun w => ?_) h
  have e := run_build (P := P) w t (parts.map fun (i, x) => (i, a.eval x)) _ hf
  unfold execOp
  rw [ho]
  show ((Instr.build t (parts.map fun (i, x) => (i, a.eval x))) >>= fun r => pure (Next.value r)).run P w = _
  rw [Sem.run_bind, e]
  rfl
end
theorem q_eqv {C : World → Prop} {Qa : Act → Prop} {ops : Array Oper} {rest : List Oper} {a : Act} {dst : Option Tmp} {yt ty : TypeId} {x y : Operand} {pos : String} {after : Array Edge} {guard : Option (Nat × Bool)} (p q : Val) (r : Bool) (hw : Region.wanted { dst, op := .binOp .eql 24 x y yt, type := ty, pos, after, guard } (yielded ops a.tmps) = true) (hx : a.eval x = .agg (cellsV p)) (hy : a.eval y = .agg (cellsV q)) (hr : decide (p = q) = r)
    (h : wpQuiet Try.prog ops C Qa rest (a.put dst (.bool r))) : wpQuiet Try.prog ops C Qa ({ dst, op := .binOp .eql 24 x y yt, type := ty, pos, after, guard } :: rest) a :=
  q_val (.bool r) hw (fun w => exec_eqv hx hy hr) h

/-! ### two validators, as Apply's results are kept -/
def zz (w : World) : World := (w.alloc (.cells (cellsV val0) 24)).alloc (.cells (cellsV val0) 24)
theorem rows_first (w : World) : Blk ((w.alloc (.cells (cellsV val0) 24)).alloc (.cells (cellsV val0) 24)) w.heap.size 24 (cellsV val0) := Blk.alloc (Blk.new w _ _) _
theorem rows_second (w : World) (x : Val) : Blk (((w.alloc (.cells (cellsV val0) 24)).alloc (.cells (cellsV val0) 24)).setRow w.heap.size (cellsV x)) (w.heap.size + 1) 24 (cellsV val0) := (setRow_other _ _ _ _ (by omega)).trans (tri_two w _ _ _)
theorem rows_both (w : World) (x y : Val) :
    Blk ((((w.alloc (.cells (cellsV val0) 24)).alloc (.cells (cellsV val0) 24)).setRow w.heap.size (cellsV x)).setRow (w.heap.size + 1) (cellsV y)) w.heap.size 24 (cellsV x) ∧
    Blk ((((w.alloc (.cells (cellsV val0) 24)).alloc (.cells (cellsV val0) 24)).setRow w.heap.size (cellsV x)).setRow (w.heap.size + 1) (cellsV y)) (w.heap.size + 1) 24 (cellsV y) ∧
    Below w.heap.size w ((((w.alloc (.cells (cellsV val0) 24)).alloc (.cells (cellsV val0) 24)).setRow w.heap.size (cellsV x)).setRow (w.heap.size + 1) (cellsV y)) :=
  ⟨(setRow_other _ _ _ _ (by omega)).trans (setRow_heap _ _ _ _ _ _ (rows_first w)), setRow_heap _ _ _ _ _ _ (rows_second w x), below_setRow (below_setRow (((Below.refl _ _).alloc (Nat.le_refl _) _).alloc (by simp) _) (Nat.le_refl _) _) (by omega) _⟩

/-! ### the examples -/
def actV (b : Int) : Val := ⟨b, 2, false, 0, 0, 0, 0⟩
theorem mkv_any (b : Int) (w : World) : Calls Try.prog 26 #[.int .u64 b] w fun e w' => e = .returned (.agg (cellsV (actV b))) ∧ Below w.heap.size w w' := by
  go_enter Try.func26, Try.ntmps26
  go_wp2_with (first | (refine wpList_build_val rfl 24 _ rfl (actV b) (by kernel_rfl) ?_) | (refine wpList_store_row rfl _ _ _ rfl w.heap.size (cellsV (actV b)) rfl rfl 24 _ (heap_alloc_new w _) infoV rfl (cellsV_one _) ?_; rw [World.setRow_alloc_new]))
  exact bodyPost_ret (v := .agg (cellsV (actV b))) (results_cell_row (fn := Try.f26) rfl _ _ w.heap.size 24 _ (0, 0) _ rfl (heap_alloc_new w _) Try.underlying24 rfl infoV) rfl ⟨rfl, (Below.refl _ _).alloc (Nat.le_refl _) _⟩
theorem act_fits {b : Int} (h : (Lit.int .u64 b).wf = true) : FitsV (actV b) := ⟨h, show (Lit.int .i64 2).wf = true by decide⟩
def vm : Val := ⟨0, 7, false, 0, 0, 0, 0⟩
theorem ex_apply (w : World) : Calls Try.prog 12 #[.agg (cellsV (actV 50)), .agg (cellsV (actV 60)), .agg (cellsOf dflt)] w fun e w' => e = .returned (.tuple #[.agg (cellsV vm), .agg (cellsV (actV 110)), .int .i64 0]) ∧ Below w.heap.size w w' :=
  apply_ok (actV 50) (actV 60) dflt w (act_fits (by decide)) (act_fits (by decide)) (by decide)
theorem ex_check (w : World) : Calls Try.prog 11 #[.agg (cellsV (actV 70)), .agg (cellsV (actV 60)), .agg (cellsOf dflt)] w fun e w' => e = .returned (.int .i64 3) ∧ Below w.heap.size w w' := by
  have h := check_any (actV 70) (actV 60) dflt w (act_fits (by decide)) (act_fits (by decide))
  rw [show chkM (actV 70) (actV 60) (dflt 6) = 3 by decide] at h
  exact h
set_option maxHeartbeats 1600000 in
theorem alive_any (w : World) : Calls Try.prog 10 #[] w fun e w' => e = .returned (.bool true) ∧ Below w.heap.size w w' := by
  go_enter Try.func10, Try.ntmps10
  go_wp2_with fail
  refine (mkv_any 50 _).mono ?_
  rintro e w1 ⟨rfl, b1⟩
  go_wp2_with fail
  refine (mkv_any 60 _).mono ?_
  rintro e w2 ⟨rfl, b2⟩
  have B2 := Lib.hid (b1.trans (b2.mono b1.size))
  clear b1 b2
  go_wp2_with fail
  refine (default_any _).mono ?_
  rintro e w3 ⟨rfl, b3⟩
  have B3 := Lib.hid (B2.out.trans (b3.mono B2.out.size))
  clear b3 B2
  go_wp2_with fail
  refine (ex_apply _).mono ?_
  rintro e w4 ⟨rfl, b4⟩
  have B4 := Lib.hid (B3.out.trans (b4.mono B3.out.size))
  clear b4 B3
  have hz := zero_cells
  go_wp2_with (first | (refine wpList_store_row rfl _ _ _ rfl w4.heap.size (cellsV vm) rfl rfl 24 _ (rows_first w4) infoV rfl (cellsV_one _) ?_) | (refine wpList_store_row rfl _ _ _ rfl (w4.heap.size + 1) (cellsV (actV 110)) rfl rfl 24 _ (rows_second w4 _) infoV rfl (cellsV_one _) ?_))
  have Z := Lib.hid (rows_both w4 vm (actV 110))
  have BW : Hid (Below w.heap.size w ((((w4.alloc (.cells (cellsV val0) 24)).alloc (.cells (cellsV val0) 24)).setRow w4.heap.size (cellsV vm)).setRow (w4.heap.size + 1) (cellsV (actV 110)))) := Lib.hid (B4.out.trans (Z.out.2.2.mono B4.out.size))
  generalize (((w4.alloc (.cells (cellsV val0) 24)).alloc (.cells (cellsV val0) 24)).setRow w4.heap.size (cellsV vm)).setRow (w4.heap.size + 1) (cellsV (actV 110)) = W at *
  clear B4 hz
  refine wp_region_class (fun w' => Below W.heap.size W w') (by kernel_rfl) (by kernel_rfl) (Below.refl _ _).drew ?_
  iterate 3 (go_big_quiet_step ((intros; rfl)))
  refine q_load_val 24 _ w4.heap.size 0 vm _ rfl rfl rfl (fun w' h => (Z.out.1.below h Z.out.1.lt).range) Try.underlying24 rfl infoV ?_
  simp only [Act.put, List.setIfInBounds_toArray, List.set_cons_zero, List.set_cons_succ]
  refine q_build_val _ _ rfl rfl vm (by kernel_rfl) ?_
  simp only [Act.put, List.setIfInBounds_toArray, List.set_cons_zero, List.set_cons_succ]
  refine q_eqv vm vm true rfl rfl rfl (by decide) ?_
  simp only [Act.put, List.setIfInBounds_toArray, List.set_cons_zero, List.set_cons_succ]
  iterate 2 (go_big_quiet_step ((intros; rfl)))
  refine q_load_val 24 _ (w4.heap.size + 1) 0 (actV 110) _ rfl rfl rfl (fun w' h => (Z.out.2.1.below h Z.out.2.1.lt).range) Try.underlying24 rfl infoV ?_
  simp only [Act.put, List.setIfInBounds_toArray, List.set_cons_zero, List.set_cons_succ]
  iterate 1 (go_big_quiet_step ((intros; rfl)))
  refine q_callv (.agg (cellsV (actV 110))) #[.int .u64 110] (by kernel_rfl) rfl (by kernel_rfl) Try.call26 (fun w' h => (mkv_any 110 w').mono fun e w'' ⟨he, hb⟩ => ⟨he, h.trans (hb.mono h.size)⟩) ?_
  simp only [Act.put, List.setIfInBounds_toArray, List.set_cons_zero, List.set_cons_succ]
  refine q_eqv (actV 110) (actV 110) true rfl rfl rfl (by decide) ?_
  simp only [Act.put, List.setIfInBounds_toArray, List.set_cons_zero, List.set_cons_succ]
  iterate 3 (go_big_quiet_step ((intros; rfl)))
  refine q_callv (.agg (cellsV (actV 70))) #[.int .u64 70] (by kernel_rfl) rfl (by kernel_rfl) Try.call26 (fun w' h => (mkv_any 70 w').mono fun e w'' ⟨he, hb⟩ => ⟨he, h.trans (hb.mono h.size)⟩) ?_
  simp only [Act.put, List.setIfInBounds_toArray, List.set_cons_zero, List.set_cons_succ]
  iterate 1 (go_big_quiet_step ((intros; rfl)))
  refine q_callv (.agg (cellsV (actV 60))) #[.int .u64 60] (by kernel_rfl) rfl (by kernel_rfl) Try.call26 (fun w' h => (mkv_any 60 w').mono fun e w'' ⟨he, hb⟩ => ⟨he, h.trans (hb.mono h.size)⟩) ?_
  simp only [Act.put, List.setIfInBounds_toArray, List.set_cons_zero, List.set_cons_succ]
  refine q_call (.agg (cellsOf dflt)) #[] (by kernel_rfl) (by kernel_rfl) Try.call27 (fun w' h => (default_any w').mono fun e w'' ⟨he, hb⟩ => ⟨he, h.trans (hb.mono h.size)⟩) ?_
  simp only [Act.put, List.setIfInBounds_toArray, List.set_cons_zero, List.set_cons_succ]
  refine q_call (.int .i64 3) #[.agg (cellsV (actV 70)), .agg (cellsV (actV 60)), .agg (cellsOf dflt)] (by kernel_rfl) (by kernel_rfl) Try.call11 (fun w' h => (ex_check w').mono fun e w'' ⟨he, hb⟩ => ⟨he, h.trans (hb.mono h.size)⟩) ?_
  simp only [Act.put, List.setIfInBounds_toArray, List.set_cons_zero, List.set_cons_succ]
  iterate 3 (go_big_quiet_step ((intros; rfl)))
  refine wpQuiet_nil ?_
  intro w5 b5
  have B5 := Lib.hid (BW.out.trans (b5.mono BW.out.size))
  go_wp2
  go_ret
  exact ⟨rfl, B5.out⟩
end Go.Proofs.Ytnaheindlkehhaa
