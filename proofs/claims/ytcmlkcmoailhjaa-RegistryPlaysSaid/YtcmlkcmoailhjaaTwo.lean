/- gwei.Add of two amounts; a slice literal of one validator. (The first part after stage 6.) -/
import Derived.Test.YtcmlkcmoailhjaaExcl
import Derived.Test.YtcmlkcmoailhjaaGet
namespace Go.Proofs.Ytcmlkcmoailhjaa
open Go Go.RowKit Go.Deep
set_option linter.unusedVariables false
set_option linter.unusedSimpArgs false

theorem getD_two (y x : Int) (i : Nat) (hy0 : 0 ≤ y) (hy1 : y ≤ 18446744073709551615) (hx0 : 0 ≤ x) (hx1 : x ≤ 18446744073709551615) : 0 ≤ [y, x].getD i 0 ∧ [y, x].getD i 0 ≤ 18446744073709551615 := by
  match i with
  | 0 => exact ⟨hy0, hy1⟩
  | 1 => exact ⟨hx0, hx1⟩
  | i + 2 => simp
theorem add2_any (g : Nat) (y x : Int) (w : World) (h : Blk w g 27 #[.int .u64 y, .int .u64 x]) (hy0 : 0 ≤ y) (hy1 : y ≤ 18446744073709551615) (hx0 : 0 ≤ x) (hx1 : x ≤ 18446744073709551615) :
    Calls Try.prog 31 #[.slice (some ⟨g, 0, none⟩) 2 2] w fun e w' => e = .returned (.tuple #[.int .u64 (addQ [y, x] 2), .bool (addOk [y, x] 2)]) ∧ w = w' :=
  add_row g 0 2 2 [y, x] w (by omega) (fun i hi => by
    rw [Nat.zero_add, Blk.cell h i]
    obtain rfl | rfl : i = 0 ∨ i = 1 := by omega
    all_goals rfl) (fun i => getD_two y x i hy0 hy1 hx0 hx1)
theorem two_yes {y x : Int} (h : y + x ≤ 18446744073709551615) : addOk [y, x] 2 = true ∧ addQ [y, x] 2 = y + x := by
  have e : sumTo [y, x] 2 = y + x := by simp [sumTo]
  have := add_yes (z := [y, x]) (n := 2) (by rw [e]; exact h)
  rwa [e] at this
theorem two_not {y x : Int} (h : ¬ y + x ≤ 18446744073709551615) : addOk [y, x] 2 = false ∧ addQ [y, x] 2 = 0 := by
  have e : sumTo [y, x] 2 = y + x := by simp [sumTo]
  exact add_not (z := [y, x]) (n := 2) (by rw [e]; exact h)
theorem add2_yes (g : Nat) (y x : Int) (w : World) (h : Blk w g 27 #[.int .u64 y, .int .u64 x]) (hy0 : 0 ≤ y) (hx0 : 0 ≤ x) (hs : y + x ≤ 18446744073709551615) :
    Calls Try.prog 31 #[.slice (some ⟨g, 0, none⟩) 2 2] w fun e w' => e = .returned (.tuple #[.int .u64 (y + x), .bool true]) ∧ w = w' := by
  have := add2_any g y x w h hy0 (by omega) hx0 (by omega)
  rwa [(two_yes hs).1, (two_yes hs).2] at this
theorem add2_not (g : Nat) (y x : Int) (w : World) (h : Blk w g 27 #[.int .u64 y, .int .u64 x]) (hy0 : 0 ≤ y) (hy1 : y ≤ 18446744073709551615) (hx0 : 0 ≤ x) (hx1 : x ≤ 18446744073709551615) (hs : ¬ y + x ≤ 18446744073709551615) :
    Calls Try.prog 31 #[.slice (some ⟨g, 0, none⟩) 2 2] w fun e w' => e = .returned (.tuple #[.int .u64 0, .bool false]) ∧ w = w' := by
  have := add2_any g y x w h hy0 hy1 hx0 hx1
  rwa [(two_not hs).1, (two_not hs).2] at this
theorem u64_info : (Try.prog.info? 27).map (fun i => (i.zero, i.size)) = some (some (.int .u64 0), 1) := by kernel_rfl
theorem val_info : (Try.prog.info? 29).map (fun i => (i.zero, i.size)) = some (some (.agg (cellsV val0)), 7) := by kernel_rfl
section
variable {P : Program}
theorem run_buildSlice_val (w : World) (T e : TypeId) (i : TypeInfo) (z : Value) (v : Val) (ht : P.underlying T = some (.slice e)) (hi : P.info? e = some i) (hz : i.zero = some z) (hs : i.size = 7) :
    (Instr.buildSlice T 1 #[(0, .agg (cellsV v))]).run P w = .ok (.slice (some ⟨w.heap.size, 0, none⟩) 1 1) (w.alloc (.cells (cellsV v) e)) := by
  simp [Instr.buildSlice, run_underlying ht, sizeOf, typeInfo, hi, hs, zeroValue, hz, Instr.fill, newRow, Value.cells, cellsV, Val.row]
  simp [go_sem]
theorem wp_buildSlice_val {o : Oper} {a : Act} {w : World} {K : Act → World → Prop} {Q : Exit → Act → World → Prop} (T e : TypeId) (x : Operand) (z : Value) (v : Val) (ho : o.op = .buildSlice T 1 #[(0, x)]) (hx : a.eval x = .agg (cellsV v)) (ht : P.underlying T = some (.slice e)) (hI : (P.info? e).map (fun i => (i.zero, i.size)) = some (some z, 7))
    (h : K (a.put o.dst (.slice (some ⟨w.heap.size, 0, none⟩) 1 1)) (w.alloc (.cells (cellsV v) e))) : o.wp P a w K Q := by
  obtain ⟨i, hi, hz, hs⟩ := info_of hI
  unfold Oper.wp execOp
  simp only [ho, List.map_toArray, List.map_cons, List.map_nil, hx, Sem.run_bind, run_buildSlice_val w T e i z v ht hi hz hs, Result.andThen_ok, Sem.run_pure]
  exact h
end
theorem new_cells (w : World) (v : Val) (t : TypeId) : ∀ j u, v.row[j]? = some u → (w.alloc (.cells (cellsV v) t)).cell? ((⟨w.heap.size, 0, none⟩ : Addr).add j) = some u := fun j u hu => by
  rw [add_plain]
  have := (Blk.new w t (cellsV v)).range j u hu
  exact this
/-- A validator's type, for append. -/
theorem val_app : ∃ i, Try.prog.info? 29 = some i ∧ i.zero = some (.agg (cellsV val0)) ∧ i.size = 7 ∧ i.bytes = 56 := by
  have h : (Try.prog.info? 29).map (fun i => (i.zero, i.size, i.bytes)) = some (some (.agg (cellsV val0)), 7, 56) := by kernel_rfl
  cases hi : Try.prog.info? 29 with
  | none => rw [hi] at h; cases h
  | some i =>
    rw [hi] at h
    simp at h
    exact ⟨i, rfl, h.1, h.2.1, h.2.2⟩
end Go.Proofs.Ytcmlkcmoailhjaa
