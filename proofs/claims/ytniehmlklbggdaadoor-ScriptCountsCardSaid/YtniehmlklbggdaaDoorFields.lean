/- script's own small functions: split, join, isOperand. -/
import Derived.Test.YtniehmlklbggdaaDoorGw
import Derived.Test.YtniehmlklbggdaaDoorValid
import Derived.Deep.CutRange
namespace Go.Proofs.YtniehmlklbggdaaDoor
open Go Go.RowKit
set_option linter.unusedVariables false
set_option linter.unusedSimpArgs false
set_option maxRecDepth 100000

def celF (a b c : Int) : Array Value := #[.int .u64 a, .int .u64 b, .int .u64 c]
theorem celF_one (a b c : Int) : (celF a b c).all (·.oneCell') = true := by simp [celF, Value.oneCell']
theorem infoF : (Tryd.prog.info? 56).map (·.size) = some 3 := by kernel_rfl
theorem wpList_build_F {P : Program} {ops : Array Oper} {rest : List Oper} {op : Oper} {c : Act} {w : World} {Q : Exit → Act → World → Prop} (hg : op.guard = none) (t : TypeId) (parts : Array (Nat × Operand)) (ho : op.op = .build t parts) (x y z : Int)
    (hf : P.built t (parts.map fun (i, x) => (i, c.eval x)).toList = some (celF x y z)) (h : wpList P ops Q rest (c.put op.dst (.agg (celF x y z))) w) : wpList P ops Q (op :: rest) c w :=
  wpList_build hg t parts ho (by rw [hf]; rfl) (by rw [hf]; exact h)
/-- The operand at a place. -/
def plO : Nat → Od | 0 => .ix | 1 => .tg | _ => .am
def plI (p : Nat) (x : Nat) : Int := if p = x then 1 else 0
theorem Od.pl (d : Od) : ∃ p, p < 3 ∧ plO p = d := by
  cases d
  · exact ⟨0, by omega, rfl⟩
  · exact ⟨1, by omega, rfl⟩
  · exact ⟨2, by omega, rfl⟩
set_option maxHeartbeats 800000 in
theorem fsplit_any (o : Oq) (w : World) : Calls Tryd.prog 32 #[.agg (cellsOq o)] w fun e w' => e = .returned (.agg (celF (IntKind.u64.wrap o.ix) (IntKind.u64.wrap o.tg) o.am)) ∧ Below w.heap.size w w' := by
  have K0 : Hid (Blk ((w.alloc (.cells (cellsOq o) 35)).alloc (.cells (celF 0 0 0) 56)) w.heap.size 35 (cellsOq o)) := Lib.hid ((Blk.new w _ _).alloc _)
  have F0 : Hid (Blk ((w.alloc (.cells (cellsOq o) 35)).alloc (.cells (celF 0 0 0) 56)) (w.heap.size + 1) 56 (celF 0 0 0)) := Lib.hid (by have := Blk.new (w.alloc (.cells (cellsOq o) 35)) 56 (celF 0 0 0); simpa using this)
  have B0 : Hid (Below w.heap.size w ((w.alloc (.cells (cellsOq o) 35)).alloc (.cells (celF 0 0 0) 56))) := Lib.hid (((Below.refl _ _).alloc (Nat.le_refl _) _).alloc (by simp) _)
  have hz : celF 0 0 0 = #[.int .u64 0, .int .u64 0, .int .u64 0] := rfl
  rw [hz] at K0 F0 B0
  clear hz
  obtain ⟨x1, hx1⟩ : ∃ x, IntKind.u64.wrap o.ix = x := ⟨_, rfl⟩
  obtain ⟨x2, hx2⟩ : ∃ x, IntKind.u64.wrap o.tg = x := ⟨_, rfl⟩
  rw [hx1, hx2]
  go_enter Tryd.func32, Tryd.ntmps32
  go_upto_region 1 with (fail)
  generalize (w.alloc (.cells (cellsOq o) 35)).alloc (.cells #[.int .u64 0, .int .u64 0, .int .u64 0] 56) = W at *
  have hc1 : W.cell? ⟨w.heap.size, 1, none⟩ = some (.int .i64 o.ix) := K0.out.cell 1
  have hc2 : W.cell? ⟨w.heap.size, 2, none⟩ = some (.int .i64 o.tg) := K0.out.cell 2
  have hc3 : W.cell? ⟨w.heap.size, 3, none⟩ = some (.int .u64 o.am) := K0.out.cell 3
  go_wp2_with (first | (refine wpList_build_F rfl 56 _ rfl x1 x2 o.am (by kernel_rfl) ?_) | (refine wpList_store_row rfl _ _ _ rfl (w.heap.size + 1) (celF x1 x2 o.am) rfl rfl 56 _ F0.out infoF rfl (celF_one _ _ _) ?_))
  exact bodyPost_ret (v := .agg (celF x1 x2 o.am)) (results_cell_row (fn := Tryd.f32) rfl _ _ (w.heap.size + 1) 56 (celF x1 x2 o.am) (0, 0) _ rfl (F0.out.setRow _) Tryd.underlying56 rfl infoF) rfl ⟨rfl, below_setRow B0.out (by omega) _⟩
set_option maxHeartbeats 800000 in
theorem join_any (k a b c : Int) (w : World) : Calls Tryd.prog 38 #[.int .i64 k, .agg (celF a b c)] w fun e w' => e = .returned (.agg (cellsOq ⟨k, IntKind.i64.wrap a, IntKind.i64.wrap b, c⟩)) ∧ Below w.heap.size w w' := by
  have F0 : Hid (Blk ((w.alloc (.cells (celF a b c) 56)).alloc (.cells (cellsOq oqZ) 35)) w.heap.size 56 (celF a b c)) := Lib.hid ((Blk.new w _ _).alloc _)
  have K0 : Hid (Blk ((w.alloc (.cells (celF a b c) 56)).alloc (.cells (cellsOq oqZ) 35)) (w.heap.size + 1) 35 (cellsOq oqZ)) := Lib.hid (by have := Blk.new (w.alloc (.cells (celF a b c) 56)) 35 (cellsOq oqZ); simpa using this)
  have B0 : Hid (Below w.heap.size w ((w.alloc (.cells (celF a b c) 56)).alloc (.cells (cellsOq oqZ) 35))) := Lib.hid (((Below.refl _ _).alloc (Nat.le_refl _) _).alloc (by simp) _)
  have hz : cellsOq oqZ = #[.int .i64 0, .int .i64 0, .int .i64 0, .int .u64 0] := rfl
  rw [hz] at K0 F0 B0
  clear hz
  obtain ⟨x1, hx1⟩ : ∃ x, IntKind.i64.wrap a = x := ⟨_, rfl⟩
  obtain ⟨x2, hx2⟩ : ∃ x, IntKind.i64.wrap b = x := ⟨_, rfl⟩
  rw [hx1, hx2]
  go_enter Tryd.func38, Tryd.ntmps38
  go_upto_region 1 with (fail)
  generalize (w.alloc (.cells (celF a b c) 56)).alloc (.cells #[.int .i64 0, .int .i64 0, .int .i64 0, .int .u64 0] 35) = W at *
  have hc0 : W.cell? ⟨w.heap.size, 0, none⟩ = some (.int .u64 a) := F0.out.cell 0
  have hc1 : W.cell? ⟨w.heap.size, 1, none⟩ = some (.int .u64 b) := F0.out.cell 1
  have hc2 : W.cell? ⟨w.heap.size, 2, none⟩ = some (.int .u64 c) := F0.out.cell 2
  go_wp2_with (first | (refine wpList_build_Oq rfl 35 _ rfl ⟨k, x1, x2, c⟩ (by kernel_rfl) ?_) | (refine wpList_store_row rfl _ _ _ rfl (w.heap.size + 1) (cellsOq ⟨k, x1, x2, c⟩) rfl rfl 35 _ K0.out infoOq rfl (cellsOq_one _) ?_))
  exact bodyPost_ret (v := .agg (cellsOq ⟨k, x1, x2, c⟩)) (results_cell_row (fn := Tryd.f38) rfl _ _ (w.heap.size + 1) 35 (cellsOq ⟨k, x1, x2, c⟩) (0, 0) _ rfl (K0.out.setRow _) Tryd.underlying35 rfl infoOq) rfl ⟨rfl, below_setRow B0.out (by omega) _⟩
theorem oneIf_wrap (p x : Nat) : IntKind.i64.wrap (plI p x) = plI p x := by unfold plI; split <;> rfl
theorem plI_wf (p x : Nat) : (Lit.int .i64 (plI p x)).wf = true ∧ (Lit.int .u64 (plI p x)).wf = true := by unfold plI; split <;> exact ⟨rfl, rfl⟩
theorem isop_valid (k : Int) (p : Nat) (hp : p < 3) : validB ⟨k, plI p 0, plI p 1, plI p 2⟩ = usesB k (plO p) := by
  have e1 : ∀ b, idxB 1 b = b := fun b => by cases b <;> rfl
  have e0 : ∀ b, idxB 0 b = true := fun b => by cases b <;> rfl
  obtain rfl | rfl | rfl : p = 0 ∨ p = 1 ∨ p = 2 := by omega
  all_goals
    simp only [validB, plI, plO, e0, e1, if_pos, if_neg, show ¬ (1 : Nat) = 0 by omega, show ¬ (0 : Nat) = 1 by omega, show ¬ (0 : Nat) = 2 by omega, show ¬ (2 : Nat) = 0 by omega, show ¬ (2 : Nat) = 1 by omega, show ¬ (1 : Nat) = 2 by omega]
    rcases ods_cases k with ⟨_, e⟩ | ⟨_, e⟩ | ⟨_, e⟩ | ⟨_, e⟩ | ⟨_, e⟩ | ⟨_, e⟩ | ⟨_, e⟩ | ⟨_, e⟩
    all_goals simp [usesB, e, e0, e1]
set_option maxHeartbeats 800000 in
/-- isOperand: whether a kind has an operand at a place. -/
theorem isop_any (k : Int) (p : Nat) (hp : p < 3) (hk : (Lit.int .i64 k).wf = true) (w : World) : Calls Tryd.prog 33 #[.int .i64 k, .int .i64 (p : Int)] w fun e w' => e = .returned (.bool (usesB k (plO p))) ∧ Below w.heap.size w w' := by
  have HJ := Lib.hid (fun w => join_any k (plI p 0) (plI p 1) (plI p 2) w)
  rw [oneIf_wrap, oneIf_wrap] at HJ
  have HV := Lib.hid (fun w => valid_any ⟨k, plI p 0, plI p 1, plI p 2⟩ ⟨hk, (plI_wf p 0).1, (plI_wf p 1).1, (plI_wf p 2).2⟩ w)
  rw [isop_valid k p hp] at HV
  have HP : ([.int .u64 0, .int .u64 0, .int .u64 0].set p (.int .u64 1) : List Value).toArray = celF (plI p 0) (plI p 1) (plI p 2) := by
    obtain rfl | rfl | rfl : p = 0 ∨ p = 1 ∨ p = 2 := by omega
    all_goals rfl
  have F1 : Hid (Blk (w.alloc (.cells ([.int .u64 0, .int .u64 0, .int .u64 0].set p (.int .u64 1) : List Value).toArray 56)) w.heap.size 56 (celF (plI p 0) (plI p 1) (plI p 2))) := Lib.hid (by rw [HP]; exact Blk.new w _ _)
  have B1 : Hid (Below w.heap.size w (w.alloc (.cells ([.int .u64 0, .int .u64 0, .int .u64 0].set p (.int .u64 1) : List Value).toArray 56))) := Lib.hid ((Below.refl _ _).alloc (Nat.le_refl _) _)
  have F0 : Blk (w.alloc (.cells #[.int .u64 0, .int .u64 0, .int .u64 0] 56)) w.heap.size 56 #[.int .u64 0, .int .u64 0, .int .u64 0] := Blk.new w _ _
  have hc0 : ∃ v, (w.alloc (.cells #[.int .u64 0, .int .u64 0, .int .u64 0] 56)).cell? ⟨w.heap.size, p, none⟩ = some v := by
    rw [F0.cell p]
    obtain rfl | rfl | rfl : p = 0 ∨ p = 1 ∨ p = 2 := by omega
    all_goals exact ⟨_, rfl⟩
  obtain ⟨v0, hc0⟩ := hc0
  have hf0 : (w.alloc (.cells #[.int .u64 0, .int .u64 0, .int .u64 0] 56)).frozen? ⟨w.heap.size, p, none⟩ = false := F0.frozen p
  clear HP F0
  generalize plI p 0 = x0 at *
  generalize plI p 1 = x1 at *
  generalize plI p 2 = x2 at *
  generalize usesB k (plO p) = u at *
  have hp0 : ¬ (p : Int) < 0 := by omega
  have hp3 : (p : Int) < 3 := by omega
  clear hk
  go_enter Tryd.func33, Tryd.ntmps33
  go_upto_region 3 with (fail)
  generalize w.alloc (.cells ([.int .u64 0, .int .u64 0, .int .u64 0].set p (.int .u64 1) : List Value).toArray 56) = W at *
  go_wp2_with (refine wpList_load_row rfl 56 _ rfl w.heap.size rfl 56 (celF x0 x1 x2) (0, 0) _ F1.out Tryd.underlying56 rfl infoF ?_)
  refine (HJ.out W).mono ?_
  rintro e w1 ⟨rfl, b1⟩
  have B2 := Lib.hid (B1.out.trans (b1.mono B1.out.size))
  clear b1
  go_wp2_with (fail)
  refine (HV.out w1).mono ?_
  rintro e w2 ⟨rfl, b2⟩
  have B3 := Lib.hid (B2.out.trans (b2.mono B2.out.size))
  clear b2
  go_wp2_with (fail)
  go_ret
  exact ⟨rfl, B3.out⟩
end Go.Proofs.YtniehmlklbggdaaDoor
