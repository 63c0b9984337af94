/- A slice literal of two or three one-cell elements, or of one struct, as one operation (for regions that draw their order). No program in sight. -/
import Derived.Test.YthnhpmeacboljaaFirst
namespace Go.Proofs.Ythnhpmeacboljaa
open Go Go.RowKit

theorem cell_alloc_some {w : World} {p : Addr} {v : Value} (o : Obj) (h : w.cell? p = some v) : (w.alloc o).cell? p = some v := by
  have := (Below.refl w.heap.size w).alloc (Nat.le_refl _) o
  exact (this.cell (cell_lt h)).trans h
section
variable {P : Program}
theorem info_of {t : TypeId} {z : Value} {n : Nat} (h : (P.info? t).map (fun i => (i.zero, i.size)) = some (some z, n)) : ∃ i, P.info? t = some i ∧ i.zero = some z ∧ i.size = n := by
  cases hi : P.info? t with
  | none => rw [hi] at h; cases h
  | some i =>
    rw [hi] at h
    simp at h
    exact ⟨i, rfl, h.1, h.2⟩
theorem run_buildSlice_two (w : World) (T e : TypeId) (i : TypeInfo) (z q v u : Value) (ht : P.underlying T = some (.slice e)) (hi : P.info? e = some i) (hz : i.zero = some z) (hs : i.size = 1) (hz1 : z.cells = #[q]) (h1 : v.cells = #[v]) (h2 : u.cells = #[u]) :
    (Instr.buildSlice T 2 #[(0, v), (1, u)]).run P w = .ok (.slice (some ⟨w.heap.size, 0, none⟩) 2 2) (w.alloc (.cells #[v, u] e)) := by
  simp [Instr.buildSlice, run_underlying ht, sizeOf, typeInfo, hi, hs, zeroValue, hz, Instr.fill, newRow, h1, h2, hz1]
  simp [go_sem]
theorem wp_buildSlice_two {o : Oper} {a : Act} {w : World} {K : Act → World → Prop} {Q : Exit → Act → World → Prop} (T e : TypeId) (x y : Operand) (z q v u : Value) (ho : o.op = .buildSlice T 2 #[(0, x), (1, y)]) (hx : a.eval x = v) (hy : a.eval y = u) (ht : P.underlying T = some (.slice e)) (hI : (P.info? e).map (fun i => (i.zero, i.size)) = some (some z, 1)) (hz1 : z.cells = #[q]) (h1 : v.cells = #[v]) (h2 : u.cells = #[u])
    (h : K (a.put o.dst (.slice (some ⟨w.heap.size, 0, none⟩) 2 2)) (w.alloc (.cells #[v, u] e))) : o.wp P a w K Q := by
  obtain ⟨i, hi, hz, hs⟩ := info_of hI
  unfold Oper.wp execOp
  simp only [ho, List.map_toArray, List.map_cons, List.map_nil, hx, hy, Sem.run_bind, run_buildSlice_two w T e i z q v u ht hi hz hs hz1 h1 h2, Result.andThen_ok, Sem.run_pure]
  exact h
theorem run_buildSlice_three (w : World) (T e : TypeId) (i : TypeInfo) (z q v u t : Value) (ht : P.underlying T = some (.slice e)) (hi : P.info? e = some i) (hz : i.zero = some z) (hs : i.size = 1) (hz1 : z.cells = #[q]) (h1 : v.cells = #[v]) (h2 : u.cells = #[u]) (h3 : t.cells = #[t]) :
    (Instr.buildSlice T 3 #[(0, v), (1, u), (2, t)]).run P w = .ok (.slice (some ⟨w.heap.size, 0, none⟩) 3 3) (w.alloc (.cells #[v, u, t] e)) := by
  simp [Instr.buildSlice, run_underlying ht, sizeOf, typeInfo, hi, hs, zeroValue, hz, Instr.fill, newRow, h1, h2, h3, hz1]
  simp [go_sem]
theorem wp_buildSlice_three {o : Oper} {a : Act} {w : World} {K : Act → World → Prop} {Q : Exit → Act → World → Prop} (T e : TypeId) (x y p : Operand) (z q v u t : Value) (ho : o.op = .buildSlice T 3 #[(0, x), (1, y), (2, p)]) (hx : a.eval x = v) (hy : a.eval y = u) (hp : a.eval p = t) (ht : P.underlying T = some (.slice e)) (hI : (P.info? e).map (fun i => (i.zero, i.size)) = some (some z, 1)) (hz1 : z.cells = #[q]) (h1 : v.cells = #[v]) (h2 : u.cells = #[u]) (h3 : t.cells = #[t])
    (h : K (a.put o.dst (.slice (some ⟨w.heap.size, 0, none⟩) 3 3)) (w.alloc (.cells #[v, u, t] e))) : o.wp P a w K Q := by
  obtain ⟨i, hi, hz, hs⟩ := info_of hI
  unfold Oper.wp execOp
  simp only [ho, List.map_toArray, List.map_cons, List.map_nil, hx, hy, hp, Sem.run_bind, run_buildSlice_three w T e i z q v u t ht hi hz hs hz1 h1 h2 h3, Result.andThen_ok, Sem.run_pure]
  exact h
/-- One struct of two cells. -/
theorem run_buildSlice_pair (w : World) (T e : TypeId) (i : TypeInfo) (z v u : Value) (ht : P.underlying T = some (.slice e)) (hi : P.info? e = some i) (hz : i.zero = some z) (hs : i.size = 2) :
    (Instr.buildSlice T 1 #[(0, .agg #[v, u])]).run P w = .ok (.slice (some ⟨w.heap.size, 0, none⟩) 1 1) (w.alloc (.cells #[v, u] e)) := by
  simp [Instr.buildSlice, run_underlying ht, sizeOf, typeInfo, hi, hs, zeroValue, hz, Instr.fill, newRow, Value.cells]
  simp [go_sem]
theorem wp_buildSlice_pair {o : Oper} {a : Act} {w : World} {K : Act → World → Prop} {Q : Exit → Act → World → Prop} (T e : TypeId) (x : Operand) (z v u : Value) (ho : o.op = .buildSlice T 1 #[(0, x)]) (hx : a.eval x = .agg #[v, u]) (ht : P.underlying T = some (.slice e)) (hI : (P.info? e).map (fun i => (i.zero, i.size)) = some (some z, 2))
    (h : K (a.put o.dst (.slice (some ⟨w.heap.size, 0, none⟩) 1 1)) (w.alloc (.cells #[v, u] e))) : o.wp P a w K Q := by
  obtain ⟨i, hi, hz, hs⟩ := info_of hI
  unfold Oper.wp execOp
  simp only [ho, List.map_toArray, List.map_cons, List.map_nil, hx, Sem.run_bind, run_buildSlice_pair w T e i z v u ht hi hz hs, Result.andThen_ok, Sem.run_pure]
  exact h
end
end Go.Proofs.Ythnhpmeacboljaa
