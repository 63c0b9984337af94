/- Words of the law walks: rows under a guard; a literal of two validators. -/
import Derived.Test.YtnaheindlkehhaaLive
namespace Go.Proofs.Ytnaheindlkehhaa
open Go Go.RowKit Go.Deep
set_option linter.unusedVariables false
set_option linter.unusedSimpArgs false
set_option maxRecDepth 100000

/-- The next operation is a load of this type (looked at before anything heavy). -/
theorem isload {P : Program} {ops : Array Oper} {Q : Exit → Act → World → Prop} {a : Act} {w : World} {rest : List Oper} {o : Oper} (ty : TypeId) (x : Operand) (ho : o.op = .load ty x) (h : wpList P ops Q (o :: rest) a w) : wpList P ops Q (o :: rest) a w := h
/-- A whole row is read, under a guard or not: the type is looked at first. -/
theorem wpList_load_rowH {P : Program} {ops : Array Oper} {Q : Exit → Act → World → Prop} {a : Act} {w : World} {rest : List Oper} {o : Oper} (ty : TypeId) (x : Operand) (ho : o.op = .load ty x)
    (g : Nat) (hx : a.eval x = .pointer (some ⟨g, 0, none⟩)) (hw : Region.wanted o (yielded ops a.tmps) = true) (t : TypeId) (cs : Array Value) (fr : Nat × Nat) (d : TypeDesc) (hg : w.heap[g]? = some (.cells cs t fr))
    (hu : P.underlying ty = some d) (hd : (match d with | .struct _ | .array _ _ => true | _ => false) = true) (hi : (P.info? ty).map (·.size) = some cs.size)
    (h : wpList P ops Q rest (a.put o.dst (.agg cs)) w) : wpList P ops Q (o :: rest) a w :=
  wpList_load_rowG hw ty x ho g hx t cs fr d hg hu hd hi h
theorem wpList_valG_val {P : Program} {ops : Array Oper} {rest : List Oper} {o : Oper} {a : Act} {w : World} {Q : Exit → Act → World → Prop} (x : Val) (hw : Region.wanted o (yielded ops a.tmps) = true) (hv : (execOp a.eval o).run P w = .ok (.value (.agg (cellsV x))) w) (h : wpList P ops Q rest (a.put o.dst (.agg (cellsV x))) w) : wpList P ops Q (o :: rest) a w :=
  wpList_valG _ hw hv h
theorem flat_two (x y : Val) : ((cellsV x ++ cellsV y).toList) = flat [x, y] := by simp [cellsV, flat]
theorem run_two (x y : Val) (w : World) : (Instr.buildSlice 34 2 #[(0, .agg (cellsV x)), (1, .agg (cellsV y))]).run Try.prog w = .ok (.slice (some ⟨w.heap.size, 0, none⟩) 2 2) (w.alloc (.cells (flat [x, y]).toArray 24)) := by
  obtain ⟨i, hi, hz, hs, hby⟩ := val_app
  simp [Instr.buildSlice, run_underlying Try.underlying34, sizeOf, typeInfo, hi, hz, hs, Instr.fill, newRow, go_sem, flat, cellsV, Val.row]
theorem wpList_two {ops : Array Oper} {rest : List Oper} {o : Oper} {a : Act} {w : World} {Q : Exit → Act → World → Prop} (hgd : o.guard = none) (x y : Operand) (p q : Val) (ho : o.op = .buildSlice 34 2 #[(0, x), (1, y)]) (hx : a.eval x = .agg (cellsV p)) (hy : a.eval y = .agg (cellsV q))
    (h : wpList Try.prog ops Q rest (a.put o.dst (.slice (some ⟨w.heap.size, 0, none⟩) 2 2)) (w.alloc (.cells (flat [p, q]).toArray 24))) : wpList Try.prog ops Q (o :: rest) a w :=
  wpList_plain hgd fun _ hK => by
    unfold Oper.wp execOp
    simp only [ho, List.map_toArray, List.map_cons, List.map_nil, hx, hy, Sem.run_bind, run_two p q w, Result.andThen_ok, Sem.run_pure]
    exact hK _ _ h
theorem lst_blk {w : World} {b : Nat} {l : List Val} (h : Blk w b 24 (flat l).toArray) : Lst w (fun _ => False) (some ⟨b, 0, none⟩) l := fun _ =>
  ⟨b, 0, rfl, fun h => h, h.lt, fun i v hi => range_of_flat (fun j u hu => by rw [Nat.zero_add, h.cell j]; simpa using hu) hi⟩
/-- The rows of a list in a row of one's own. -/
theorem owns_rows {w : World} {base : Nat} {u : Value} {n : Nat} {l : List Val} (h : w.ownsRow base 24 7 u n (flat l)) (hl : l.length = n) (h0 : 0 < n) : ∃ g cp, u = .slice (some ⟨g, 0, none⟩) n cp ∧ base ≤ g ∧ g < w.heap.size ∧ ∀ i v, l[i]? = some v → w.rangeAt g (i * 7) v.row := by
  subst hl
  rcases h.2 with ⟨_, h1⟩ | ⟨g, cp, cur, rfl, h1, h2, _⟩
  · omega
  · have hL := owns_lst (S := fun _ => False) (owns_base h (Nat.zero_le _)) (fun _ _ h => h)
    refine ⟨g, cp, rfl, h1, (Array.getElem?_eq_some_iff.1 h2).1, fun i v hi => ?_⟩
    obtain ⟨b, off, e, r⟩ := hL.at hi
    injection e with e
    injection e with e1 e2 _
    subst e1 e2
    rwa [Nat.zero_add] at r
end Go.Proofs.Ytnaheindlkehhaa
