/- The walk of ConfigDefault. -/
import Derived.Test.YtlnpppifdobcfaaVals
import Derived.Deep.DeepCutAuto
namespace Go.Proofs.Ytlnpppifdobcfaa
open Go.RowKit
set_option linter.unusedVariables false

theorem index_val0 (c : Nat → Int) (w : World) : (Instr.index 32 (.agg (valsOf c)) (.int .i64 (0 : Nat))).run Try.prog w = .ok (.int .u64 (valAt c 0)) w := by kernel_rfl
theorem index_val1 (c : Nat → Int) (w : World) : (Instr.index 32 (.agg (valsOf c)) (.int .i64 (1 : Nat))).run Try.prog w = .ok (.int .u64 (valAt c 1)) w := by kernel_rfl
theorem index_val2 (c : Nat → Int) (w : World) : (Instr.index 32 (.agg (valsOf c)) (.int .i64 (2 : Nat))).run Try.prog w = .ok (.int .u64 (valAt c 2)) w := by kernel_rfl
theorem index_val3 (c : Nat → Int) (w : World) : (Instr.index 32 (.agg (valsOf c)) (.int .i64 (3 : Nat))).run Try.prog w = .ok (.int .u64 (valAt c 3)) w := by kernel_rfl
theorem index_val4 (c : Nat → Int) (w : World) : (Instr.index 32 (.agg (valsOf c)) (.int .i64 (4 : Nat))).run Try.prog w = .ok (.int .u64 (valAt c 4)) w := by kernel_rfl
theorem index_val5 (c : Nat → Int) (w : World) : (Instr.index 32 (.agg (valsOf c)) (.int .i64 (5 : Nat))).run Try.prog w = .ok (.int .u64 (valAt c 5)) w := by kernel_rfl
theorem index_val6 (c : Nat → Int) (w : World) : (Instr.index 32 (.agg (valsOf c)) (.int .i64 (6 : Nat))).run Try.prog w = .ok (.int .u64 (valAt c 6)) w := by kernel_rfl
theorem index_val7 (c : Nat → Int) (w : World) : (Instr.index 32 (.agg (valsOf c)) (.int .i64 (7 : Nat))).run Try.prog w = .ok (.int .u64 (valAt c 7)) w := by kernel_rfl
theorem index_val8 (c : Nat → Int) (w : World) : (Instr.index 32 (.agg (valsOf c)) (.int .i64 (8 : Nat))).run Try.prog w = .ok (.int .u64 (valAt c 8)) w := by kernel_rfl
theorem index_val9 (c : Nat → Int) (w : World) : (Instr.index 32 (.agg (valsOf c)) (.int .i64 (9 : Nat))).run Try.prog w = .ok (.int .u64 (valAt c 9)) w := by kernel_rfl
theorem index_val10 (c : Nat → Int) (w : World) : (Instr.index 32 (.agg (valsOf c)) (.int .i64 (10 : Nat))).run Try.prog w = .ok (.int .u64 (valAt c 10)) w := by kernel_rfl
theorem index_val11 (c : Nat → Int) (w : World) : (Instr.index 32 (.agg (valsOf c)) (.int .i64 (11 : Nat))).run Try.prog w = .ok (.int .u64 (valAt c 11)) w := by kernel_rfl
theorem index_val12 (c : Nat → Int) (w : World) : (Instr.index 32 (.agg (valsOf c)) (.int .i64 (12 : Nat))).run Try.prog w = .ok (.int .u64 (valAt c 12)) w := by kernel_rfl
theorem index_val13 (c : Nat → Int) (w : World) : (Instr.index 32 (.agg (valsOf c)) (.int .i64 (13 : Nat))).run Try.prog w = .ok (.int .u64 (valAt c 13)) w := by kernel_rfl
theorem index_val14 (c : Nat → Int) (w : World) : (Instr.index 32 (.agg (valsOf c)) (.int .i64 (14 : Nat))).run Try.prog w = .ok (.int .u64 (valAt c 14)) w := by kernel_rfl
theorem index_val15 (c : Nat → Int) (w : World) : (Instr.index 32 (.agg (valsOf c)) (.int .i64 (15 : Nat))).run Try.prog w = .ok (.int .u64 (valAt c 15)) w := by kernel_rfl
theorem index_val16 (c : Nat → Int) (w : World) : (Instr.index 32 (.agg (valsOf c)) (.int .i64 (16 : Nat))).run Try.prog w = .ok (.int .u64 (valAt c 16)) w := by kernel_rfl
theorem index_val17 (c : Nat → Int) (w : World) : (Instr.index 32 (.agg (valsOf c)) (.int .i64 (17 : Nat))).run Try.prog w = .ok (.int .u64 (valAt c 17)) w := by kernel_rfl
theorem index_val18 (c : Nat → Int) (w : World) : (Instr.index 32 (.agg (valsOf c)) (.int .i64 (18 : Nat))).run Try.prog w = .ok (.int .u64 (valAt c 18)) w := by kernel_rfl
theorem index_val19 (c : Nat → Int) (w : World) : (Instr.index 32 (.agg (valsOf c)) (.int .i64 (19 : Nat))).run Try.prog w = .ok (.int .u64 (valAt c 19)) w := by kernel_rfl
theorem index_val (c : Nat → Int) (k : Nat) (hk : k < 20) (w : World) : (Instr.index 32 (.agg (valsOf c)) (.int .i64 k)).run Try.prog w = .ok (.int .u64 (valAt c k)) w := by
  have : k = 0 ∨ k = 1 ∨ k = 2 ∨ k = 3 ∨ k = 4 ∨ k = 5 ∨ k = 6 ∨ k = 7 ∨ k = 8 ∨ k = 9 ∨ k = 10 ∨ k = 11 ∨ k = 12 ∨ k = 13 ∨ k = 14 ∨ k = 15 ∨ k = 16 ∨ k = 17 ∨ k = 18 ∨ k = 19 := by omega
  rcases this with rfl | rfl | rfl | rfl | rfl | rfl | rfl | rfl | rfl | rfl | rfl | rfl | rfl | rfl | rfl | rfl | rfl | rfl | rfl | rfl
  · exact index_val0 c w
  · exact index_val1 c w
  · exact index_val2 c w
  · exact index_val3 c w
  · exact index_val4 c w
  · exact index_val5 c w
  · exact index_val6 c w
  · exact index_val7 c w
  · exact index_val8 c w
  · exact index_val9 c w
  · exact index_val10 c w
  · exact index_val11 c w
  · exact index_val12 c w
  · exact index_val13 c w
  · exact index_val14 c w
  · exact index_val15 c w
  · exact index_val16 c w
  · exact index_val17 c w
  · exact index_val18 c w
  · exact index_val19 c w
theorem exec_index {c : Nat → Int} {k : Nat} (hk : k < 20) {w : World} {dst : Option Tmp} {x y : Operand} {ty : TypeId} {pos : String} {after : Array Edge} {guard : Option (Nat × Bool)} {a : Act} (hx : a.eval x = .agg (valsOf c) := by rfl) (hy : a.eval y = .int .i64 k := by rfl) :
    (execOp a.eval { dst, op := .index 32 x y, type := ty, pos, after, guard }).run Try.prog w = .ok (.value (.int .u64 (valAt c k))) w := by
  simp only [execOp, hx, hy, Sem.run_bind, index_val c k hk w, Result.andThen_ok, Sem.run_pure]
theorem dflt_check (w : World) : Calls Try.prog 11 #[.agg (cellsOf dflt)] w fun e w' => e = .returned (.int .i64 0) ∧ Below w.heap.size w w' := by
  have h := check_any dflt w
  rwa [dflt_chk] at h

set_option maxHeartbeats 4000000 in
theorem walk_ConfigDefault (a0 : Int) (w : World) (w0 : (Lit.int .u8 a0).wf = true) : Calls Try.prog 6 #[.int .u8 a0] w fun e w' => e = .returned (.bool true) ∧ Below w.heap.size w w' := by
  obtain ⟨g0, g1⟩ := bounds_u8 w0
  obtain ⟨k, hk1⟩ : ∃ k : Nat, a0 % 20 = (k : Int) := ⟨(a0 % 20).toNat, by omega⟩
  have hk : k < 20 := by omega
  clear w0
  go_enter Try.func6, Try.ntmps6
  go_upto_region 3 with (first
    | (go_at_call 16; refine (default_any _).mono ?_; rintro e w1 ⟨rfl, hb1⟩; have K1 := Keeps.new (t := 24) (cs := cellsOf dflt) hb1 hb1.size)
    | (refine wpList_store_row rfl _ _ _ rfl w1.heap.size (cellsOf dflt) rfl rfl 24 _ (heap_alloc_new w1 _) info24 rfl (cells_one _) ?_; rw [World.setRow_alloc_new]))
  try simp only [hk1]
  refine wp_region_class (Keeps w.heap.size w1.heap.size 24 (cellsOf dflt) w) (by kernel_rfl) (by kernel_rfl) K1.drew ?_
  refine q_call (.bool true) #[] rfl (by kernel_rfl) Try.call10 (fun _ h => h.call (alive_any _)) ?_
  simp only [Act.put, List.setIfInBounds_toArray, List.set_cons_zero, List.set_cons_succ]
  refine q_val (.bool true) rfl (fun _ => by go_simp) ?_
  simp only [Act.put, List.setIfInBounds_toArray, List.set_cons_zero, List.set_cons_succ]
  refine q_load 24 (.tmp 3) w1.heap.size 24 (cellsOf dflt) _ rfl rfl rfl (fun _ h => h.1) Try.underlying24 rfl (info24' _) ?_
  simp only [Act.put, List.setIfInBounds_toArray, List.set_cons_zero, List.set_cons_succ]
  refine q_call (.agg (cellsOf dflt)) #[] rfl (by kernel_rfl) Try.call17 (fun _ h => h.call (refDefault_any _)) ?_
  simp only [Act.put, List.setIfInBounds_toArray, List.set_cons_zero, List.set_cons_succ]
  refine q_val (.bool true) rfl (fun _ => exec_same _ (xs := cellsOf dflt) rfl rfl Try.eqGuardType24 (same24 _ _)) ?_
  simp only [Act.put, List.setIfInBounds_toArray, List.set_cons_zero, List.set_cons_succ]
  refine q_val (.bool true) rfl (fun _ => by go_simp) ?_
  simp only [Act.put, List.setIfInBounds_toArray, List.set_cons_zero, List.set_cons_succ]
  refine q_val (.bool true) rfl (fun _ => by go_simp) ?_
  simp only [Act.put, List.setIfInBounds_toArray, List.set_cons_zero, List.set_cons_succ]
  refine q_load 24 (.tmp 3) w1.heap.size 24 (cellsOf dflt) _ rfl rfl rfl (fun _ h => h.1) Try.underlying24 rfl (info24' _) ?_
  simp only [Act.put, List.setIfInBounds_toArray, List.set_cons_zero, List.set_cons_succ]
  refine q_call (.agg (valsOf dflt)) #[.agg (cellsOf dflt)] rfl (by kernel_rfl) Try.call15 (fun _ h => h.call (values_any dflt _)) ?_
  simp only [Act.put, List.setIfInBounds_toArray, List.set_cons_zero, List.set_cons_succ]
  refine q_val (.int .i64 k) rfl (fun _ => by go_simp) ?_
  simp only [Act.put, List.setIfInBounds_toArray, List.set_cons_zero, List.set_cons_succ]
  refine q_val (.int .u64 (valAt dflt k)) rfl (fun _ => exec_index hk) ?_
  simp only [Act.put, List.setIfInBounds_toArray, List.set_cons_zero, List.set_cons_succ]
  refine q_call (.agg (cellsOf dflt)) #[] rfl (by kernel_rfl) Try.call17 (fun _ h => h.call (refDefault_any _)) ?_
  simp only [Act.put, List.setIfInBounds_toArray, List.set_cons_zero, List.set_cons_succ]
  refine q_call (.agg (valsOf dflt)) #[.agg (cellsOf dflt)] rfl (by kernel_rfl) Try.call15 (fun _ h => h.call (values_any dflt _)) ?_
  simp only [Act.put, List.setIfInBounds_toArray, List.set_cons_zero, List.set_cons_succ]
  refine q_val (.int .i64 k) rfl (fun _ => by go_simp) ?_
  simp only [Act.put, List.setIfInBounds_toArray, List.set_cons_zero, List.set_cons_succ]
  refine q_val (.int .u64 (valAt dflt k)) rfl (fun _ => exec_index hk) ?_
  simp only [Act.put, List.setIfInBounds_toArray, List.set_cons_zero, List.set_cons_succ]
  refine q_val (.bool true) rfl (fun _ => by go_simp) ?_
  simp only [Act.put, List.setIfInBounds_toArray, List.set_cons_zero, List.set_cons_succ]
  refine q_val (.bool true) rfl (fun _ => by go_simp) ?_
  simp only [Act.put, List.setIfInBounds_toArray, List.set_cons_zero, List.set_cons_succ]
  refine q_val (.bool true) rfl (fun _ => by go_simp) ?_
  simp only [Act.put, List.setIfInBounds_toArray, List.set_cons_zero, List.set_cons_succ]
  refine q_load 24 (.tmp 3) w1.heap.size 24 (cellsOf dflt) _ rfl rfl rfl (fun _ h => h.1) Try.underlying24 rfl (info24' _) ?_
  simp only [Act.put, List.setIfInBounds_toArray, List.set_cons_zero, List.set_cons_succ]
  refine q_call (.int .i64 0) #[.agg (cellsOf dflt)] rfl (by kernel_rfl) Try.call11 (fun _ h => h.call (dflt_check _)) ?_
  simp only [Act.put, List.setIfInBounds_toArray, List.set_cons_zero, List.set_cons_succ]
  refine q_val (.bool true) rfl (fun _ => by go_simp) ?_
  simp only [Act.put, List.setIfInBounds_toArray, List.set_cons_zero, List.set_cons_succ]
  refine q_val (.bool true) rfl (fun _ => by go_simp) ?_
  simp only [Act.put, List.setIfInBounds_toArray, List.set_cons_zero, List.set_cons_succ]
  refine q_val (.bool true) rfl (fun _ => by go_simp) ?_
  simp only [Act.put, List.setIfInBounds_toArray, List.set_cons_zero, List.set_cons_succ]
  refine wpQuiet_nil ?_
  intro w6 K6
  have hbl := K6.2.1
  clear K6 K1
  go_wp2_with (fail)
  go_ret
  exact ⟨rfl, hbl⟩
end Go.Proofs.Ytlnpppifdobcfaa
