/- The chapter's example; the default configuration; what a valid configuration gives. -/
import Derived.Test.YtbieokgdjhkebaaStep
import Derived.Test.YtbieokgdjhkebaaRStep
import Derived.Test.YtbieokgdjhkebaaSameV
namespace Go.Proofs.Ytbieokgdjhkebaa
open Go Go.RowKit Go.Deep
set_option linter.unusedVariables false
set_option linter.unusedSimpArgs false
set_option maxRecDepth 100000

theorem btw_spec {v lo hi : Int} (h : btw v lo hi = true) : lo ≤ v ∧ v ≤ hi := by unfold btw at h; simpa using h
/-- What a partial withdrawal needs of a configuration. -/
theorem good_of_chk {c : Nat → Int} (hf : Fits c) (h : chk c = 0) : 0 ≤ c 5 ∧ 0 ≤ c 16 := by
  rcases chk_cases c with ⟨_, hb⟩ | ⟨k, _, _, _, e⟩
  · have h16 : 0 ≤ c 16 ∧ c 16 < c 14 ∧ c 16 < c 15 := of_decide_eq_true (hb 16 (by omega))
    have f5 : (Lit.int .u64 (c 5)).wf = true := hf 5 (by omega)
    exact ⟨(bounds_u64 f5).1, by omega⟩
  · omega
def dflt : Nat → Int
  | 0 => 16
  | 1 => 8
  | 2 => 16
  | 3 => 64
  | 4 => 1024
  | 5 => 8
  | 6 => 128
  | 7 => 32
  | 8 => 4
  | 9 => 64
  | 10 => 2
  | 11 => 5
  | 12 => 4
  | 13 => 4
  | 14 => 6
  | 15 => 4
  | 16 => 2
  | 17 => 2
  | 18 => 1
  | 19 => 4
  | _ => 0
theorem dflt_chk : chk dflt = 0 := by decide +kernel
theorem cells_one (c : Nat → Int) : (cellsOf c).all (·.oneCell') = true := by kernel_rfl
theorem default_any (w : World) : Calls Try.prog 21 #[] w fun e w' => e = .returned (.agg (cellsOf dflt)) ∧ Below w.heap.size w w' := by
  go_enter Try.func21, Try.ntmps21
  go_wp2_with (first | (refine wpList_build rfl 35 _ rfl (by kernel_rfl) ?_; rw [show (Try.prog.built 35 _).getD #[] = cellsOf dflt from by kernel_rfl]) | (refine wpList_store_row rfl _ _ _ rfl w.heap.size (cellsOf dflt) rfl rfl 35 _ (heap_alloc_new w _) info24 rfl (cells_one _) ?_; rw [World.setRow_alloc_new]))
  exact bodyPost_ret (v := .agg (cellsOf dflt)) (results_cell_row (fn := Try.f21) rfl _ _ w.heap.size 35 (cellsOf dflt) (0, 0) _ rfl (heap_alloc_new w _) Try.underlying35 rfl info24) rfl ⟨rfl, (Below.refl _ _).alloc (Nat.le_refl _) _⟩
theorem dflt_fits : Fits dflt := by
  intro k hk
  have : k = 0 ∨ k = 1 ∨ k = 2 ∨ k = 3 ∨ k = 4 ∨ k = 5 ∨ k = 6 ∨ k = 7 ∨ k = 8 ∨ k = 9 ∨ k = 10 ∨ k = 11 ∨ k = 12 ∨ k = 13 ∨ k = 14 ∨ k = 15 ∨ k = 16 ∨ k = 17 ∨ k = 18 ∨ k = 19 := by omega
  rcases this with h | h | h | h | h | h | h | h | h | h | h | h | h | h | h | h | h | h | h | h <;> subst h <;> decide
section
variable {P : Program} {ops : Array Oper} {C : World → Prop} {Q : Act → Prop} {a : Act} {rest : List Oper}
theorem q_build_val {o : Oper} (t : TypeId) (parts : Array (Nat × Operand)) (hw : Region.wanted o (yielded ops a.tmps) = true) (ho : o.op = .build t parts) (v : Val) (hf : P.built t (parts.map fun (i, x) => (i, a.eval x)).toList = some (cellsV v)) (h : wpQuiet P ops C Q rest (a.put o.dst (.agg (cellsV v)))) : wpQuiet P ops C Q (o :: rest) a := by
  refine q_val (.agg (cellsV v)) hw (fun w => ?_) h
  have e := run_build (P := P) w t (parts.map fun (i, x) => (i, a.eval x)) _ hf
  unfold execOp
  rw [ho]
  show ((Instr.build t (parts.map fun (i, x) => (i, a.eval x))) >>= fun r => pure (Next.value r)).run P w = _
  rw [Sem.run_bind, e]
  rfl
end
theorem q_eqv {C : World → Prop} {Qa : Act → Prop} {ops : Array Oper} {rest : List Oper} {a : Act} {dst : Option Tmp} {yt ty : TypeId} {x y : Operand} {pos : String} {after : Array Edge} {guard : Option (Nat × Bool)} (p q : Val) (r : Bool) (hw : Region.wanted { dst, op := .binOp .eql 33 x y yt, type := ty, pos, after, guard } (yielded ops a.tmps) = true) (hx : a.eval x = .agg (cellsV p)) (hy : a.eval y = .agg (cellsV q)) (hr : decide (p = q) = r)
    (h : wpQuiet Try.prog ops C Qa rest (a.put dst (.bool r))) : wpQuiet Try.prog ops C Qa ({ dst, op := .binOp .eql 33 x y yt, type := ty, pos, after, guard } :: rest) a :=
  q_val (.bool r) hw (fun w => exec_eqv hx hy hr) h


/-! ### the example -/
def actV (b : Int) : Val := ⟨b, 2, false, 0, 0, 0, 0⟩
theorem act_fits {b : Int} (h : (Lit.int .u64 b).wf = true) : FitsV (actV b) := ⟨h, show (Lit.int .i64 2).wf = true by decide⟩
theorem ex_apply (w : World) : Calls Try.prog 14 #[.agg (cellsV (actV 20)), .int .u64 15, .agg (cellsOf dflt)] w fun e w' => e = .returned (.tuple #[.agg (cellsV (actV 8)), .int .u64 12]) ∧ Below w.heap.size w w' :=
  apply_any (actV 20) 15 dflt w (act_fits (by decide)) (by decide) (by decide)
theorem ex_avail (w : World) : Calls Try.prog 15 #[.agg (cellsV (actV 8)), .agg (cellsOf dflt)] w fun e w' => e = .returned (.int .u64 0) ∧ Below w.heap.size w w' :=
  avail_any (actV 8) dflt w (act_fits (by decide)) (by decide)
set_option maxHeartbeats 1600000 in
theorem alive_any (w : World) : Calls Try.prog 9 #[] w fun e w' => e = .returned (.bool true) ∧ Below w.heap.size w w' := by
  go_enter Try.func9, Try.ntmps9
  go_wp2_with (first | (refine wpList_build_val rfl 33 _ rfl (actV 20) (by kernel_rfl) ?_))
  refine (default_any _).mono ?_
  rintro e w3 ⟨rfl, b3⟩
  have B3 := Lib.hid b3
  clear b3
  go_wp2_with fail
  refine (ex_apply _).mono ?_
  rintro e w4 ⟨rfl, b4⟩
  have B4 := Lib.hid (B3.out.trans (b4.mono B3.out.size))
  clear b4 B3
  have hz := valz_cells
  go_wp2_with (first | (refine wpList_store_row rfl _ _ _ rfl w4.heap.size (cellsV (actV 8)) rfl rfl 33 _ (Blk.new w4 _ (cellsV val0)) infoV rfl (cellsV_one _) ?_; rw [World.setRow_alloc_new]))
  have Z : Hid (Blk (w4.alloc (.cells (cellsV (actV 8)) 33)) w4.heap.size 33 (cellsV (actV 8)) ∧ Below w.heap.size w (w4.alloc (.cells (cellsV (actV 8)) 33))) := Lib.hid ⟨Blk.new _ _ _, B4.out.alloc B4.out.size _⟩
  generalize w4.alloc (.cells (cellsV (actV 8)) 33) = W at *
  clear B4 hz
  try simp only [Act.put]
  refine wp_region_class (fun w' => Below W.heap.size W w') (by kernel_rfl) (by kernel_rfl) (Below.refl _ _).drew ?_
  iterate 3 (go_big_quiet_step ((intros; rfl)))
  refine q_load_val 33 _ w4.heap.size 0 (actV 8) _ rfl rfl rfl (fun w' h => (Z.out.1.below h Z.out.1.lt).range) Try.underlying33 rfl infoV ?_
  simp only [Act.put, List.setIfInBounds_toArray, List.set_cons_zero, List.set_cons_succ]
  refine q_build_val _ _ rfl rfl (actV 8) (by kernel_rfl) ?_
  simp only [Act.put, List.setIfInBounds_toArray, List.set_cons_zero, List.set_cons_succ]
  refine q_eqv (actV 8) (actV 8) true rfl rfl rfl (by decide) ?_
  simp only [Act.put, List.setIfInBounds_toArray, List.set_cons_zero, List.set_cons_succ]
  iterate 2 (go_big_quiet_step ((intros; rfl)))
  refine q_load_val 33 _ w4.heap.size 0 (actV 8) _ rfl rfl rfl (fun w' h => (Z.out.1.below h Z.out.1.lt).range) Try.underlying33 rfl infoV ?_
  simp only [Act.put, List.setIfInBounds_toArray, List.set_cons_zero, List.set_cons_succ]
  refine q_call (.agg (cellsOf dflt)) #[] (by kernel_rfl) (by kernel_rfl) Try.call21 (fun w' h => (default_any w').mono fun e w'' ⟨he, hb⟩ => ⟨he, h.trans (hb.mono h.size)⟩) ?_
  simp only [Act.put, List.setIfInBounds_toArray, List.set_cons_zero, List.set_cons_succ]
  refine q_call (.int .u64 0) #[.agg (cellsV (actV 8)), .agg (cellsOf dflt)] (by kernel_rfl) (by kernel_rfl) Try.call15 (fun w' h => (ex_avail w').mono fun e w'' ⟨he, hb⟩ => ⟨he, h.trans (hb.mono h.size)⟩) ?_
  simp only [Act.put, List.setIfInBounds_toArray, List.set_cons_zero, List.set_cons_succ]
  iterate 3 (go_big_quiet_step ((intros; rfl)))
  refine wpQuiet_nil ?_
  intro w5 b5
  have B5 := Lib.hid (Z.out.2.trans (b5.mono Z.out.2.size))
  go_wp2
  go_ret
  exact ⟨rfl, B5.out⟩
end Go.Proofs.Ytbieokgdjhkebaa
