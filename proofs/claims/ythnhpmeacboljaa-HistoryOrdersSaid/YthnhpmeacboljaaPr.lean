/- Pairs: their values, a slice of them that came in, rows of one's own; literals of one. -/
import Derived.Test.YthnhpmeacboljaaRf1
namespace Go.Proofs.Ythnhpmeacboljaa
open Go Go.ChangeShapes Go.WideShapes Go.RowKit Go.Deep
set_option linter.unusedVariables false
set_option linter.unusedSimpArgs false
set_option maxRecDepth 100000

structure Pq where
  o : Oq
  r : Rc
deriving Inhabited
def Pq.row (v : Pq) : List Value := v.o.row ++ v.r.row
def cellsPq (v : Pq) : Array Value := v.row.toArray
def FitsPq (w : World) (v : Pq) : Prop := FitsOq v.o ∧ FitsRc w v.r
theorem Pq.row_len (v : Pq) : v.row.length = 13 := rfl
theorem Pq.row_one (v : Pq) : ∀ u ∈ v.row, u.oneCell' = true := fun u hu => by
  rcases List.mem_append.1 hu with h | h
  · exact Oq.row_one _ u h
  · exact Rc.row_one _ u h
theorem cellsPq_one (v : Pq) : (cellsPq v).all (·.oneCell') = true := Array.all_eq_true_iff_forall_mem.2 (fun u hu => Pq.row_one v u (by simpa [cellsPq] using hu))
theorem infoPq : (Try.prog.info? 62).map (·.size) = some 13 := by kernel_rfl
theorem appPq : ∃ i, Try.prog.info? 62 = some i ∧ i.zero = some (.agg (cellsPq ⟨oqZ, rcZ⟩)) ∧ i.size = 13 ∧ i.bytes = 136 := by
  have h : (Try.prog.info? 62).map (fun i => (i.zero, i.size, i.bytes)) = some (some (.agg (cellsPq ⟨oqZ, rcZ⟩)), 13, 136) := by kernel_rfl
  cases hi : Try.prog.info? 62 with
  | none => rw [hi] at h; cases h
  | some i =>
    rw [hi] at h
    simp at h
    exact ⟨i, rfl, h.1, h.2.1, h.2.2⟩
theorem appRc : ∃ i, Try.prog.info? 60 = some i ∧ i.zero = some (.agg (cellsRc rcZ)) ∧ i.size = 9 ∧ i.bytes = 104 := by
  have h : (Try.prog.info? 60).map (fun i => (i.zero, i.size, i.bytes)) = some (some (.agg (cellsRc rcZ)), 9, 104) := by kernel_rfl
  cases hi : Try.prog.info? 60 with
  | none => rw [hi] at h; cases h
  | some i =>
    rw [hi] at h
    simp at h
    exact ⟨i, rfl, h.1, h.2.1, h.2.2⟩
section
variable {P : Program} {ops : Array Oper} {rest : List Oper} {op : Oper} {a : Act} {w : World} {Q : Exit → Act → World → Prop}
theorem wpList_load_Pq (hgd : op.guard = none) (ty : TypeId) (x : Operand) (ho : op.op = .load ty x)
    (b o : Nat) (hx : a.eval x = .pointer (some ⟨b, o, none⟩)) (v : Pq) (d : TypeDesc) (hc : w.rangeAt b o v.row)
    (hu : P.underlying ty = some d) (hd : d.isRow = true) (hi : (P.info? ty).map (·.size) = some 13)
    (h : wpList P ops Q rest (a.put op.dst (.agg (cellsPq v))) w) : wpList P ops Q (op :: rest) a w :=
  wpList_load_mid hgd ty x ho b o hx v.row d hc hu hd hi h
theorem q_load_Rc {C : World → Prop} {Qa : Act → Prop} (ty : TypeId) (x : Operand) (b o : Nat) (v : Rc) (d : TypeDesc) (hw : Region.wanted op (yielded ops a.tmps) = true) (ho : op.op = .load ty x) (hx : a.eval x = .pointer (some ⟨b, o, none⟩))
    (hC : ∀ w, C w → w.rangeAt b o v.row) (hu : P.underlying ty = some d) (hd : d.isRow = true) (hi : (P.info? ty).map (·.size) = some 9)
    (h : wpQuiet P ops C Qa rest (a.put op.dst (.agg (cellsRc v)))) : wpQuiet P ops C Qa (op :: rest) a := by
  unfold wpQuiet
  rw [if_pos hw]
  refine ⟨_, fun w hc => ?_, h⟩
  unfold Oper.quietAt execOp
  simp only [ho, hx, Instr.loadAt, Instr.sureAddr, Sem.run_bind, Sem.run_pure, Result.andThen_ok, run_loadVar_mid w b o ty v.row d (hC w hc) hu hd hi]
  exact ⟨rfl, rfl⟩
end
/-- The two parts of a pair in its box. -/
theorem Blk.pair {w : World} {b t : Nat} {v : Pq} (h : Blk w b t (cellsPq v)) : w.rangeAt b 0 v.o.row ∧ w.rangeAt b 4 v.r.row := by
  constructor
  · intro j u hu
    rw [Nat.zero_add, h.cell j]
    have hj : j < 4 := (List.getElem?_eq_some_iff.1 hu).1
    simp only [cellsPq, List.getElem?_toArray, Pq.row]
    rw [List.getElem?_append_left hj]
    exact hu
  · intro j u hu
    rw [h.cell (4 + j)]
    simp only [cellsPq, List.getElem?_toArray, Pq.row]
    rw [List.getElem?_append_right (by show 4 ≤ 4 + j; omega), show 4 + j - v.o.row.length = j by show 4 + j - 4 = j; omega]
    exact hu
theorem run_oneOq (x : Oq) (w : World) : (Instr.buildSlice 65 1 #[(0, .agg (cellsOq x))]).run Try.prog w = .ok (.slice (some ⟨w.heap.size, 0, none⟩) 1 1) (w.alloc (.cells (cellsOq x) 57)) := by
  obtain ⟨i, hi, hz, hs, hby⟩ := appOq
  simp [Instr.buildSlice, run_underlying Try.underlying65, sizeOf, typeInfo, hi, hz, hs, Instr.fill, newRow, go_sem, cellsOq, Oq.row]
theorem wp_oneOq {o : Oper} {a : Act} {w : World} {K : Act → World → Prop} {Q : Exit → Act → World → Prop} (x : Operand) (p : Oq) (ho : o.op = .buildSlice 65 1 #[(0, x)]) (hx : a.eval x = .agg (cellsOq p))
    (h : K (a.put o.dst (.slice (some ⟨w.heap.size, 0, none⟩) 1 1)) (w.alloc (.cells (cellsOq p) 57))) : o.wp Try.prog a w K Q := by
  unfold Oper.wp execOp
  simp only [ho, List.map_toArray, List.map_cons, List.map_nil, hx, Sem.run_bind, run_oneOq p w, Result.andThen_ok, Sem.run_pure]
  exact h
theorem wpList_oneOq {ops : Array Oper} {rest : List Oper} {o : Oper} {a : Act} {w : World} {Q : Exit → Act → World → Prop} (hgd : o.guard = none) (x : Operand) (p : Oq) (ho : o.op = .buildSlice 65 1 #[(0, x)]) (hx : a.eval x = .agg (cellsOq p))
    (h : wpList Try.prog ops Q rest (a.put o.dst (.slice (some ⟨w.heap.size, 0, none⟩) 1 1)) (w.alloc (.cells (cellsOq p) 57))) : wpList Try.prog ops Q (o :: rest) a w :=
  wpList_plain hgd fun _ hK => wp_oneOq x p ho hx (hK _ _ h)
theorem run_oneRc (x : Rc) (w : World) : (Instr.buildSlice 66 1 #[(0, .agg (cellsRc x))]).run Try.prog w = .ok (.slice (some ⟨w.heap.size, 0, none⟩) 1 1) (w.alloc (.cells (cellsRc x) 60)) := by
  obtain ⟨i, hi, hz, hs, hby⟩ := appRc
  simp [Instr.buildSlice, run_underlying Try.underlying66, sizeOf, typeInfo, hi, hz, hs, Instr.fill, newRow, go_sem, cellsRc, Rc.row]
theorem wp_oneRc {o : Oper} {a : Act} {w : World} {K : Act → World → Prop} {Q : Exit → Act → World → Prop} (x : Operand) (p : Rc) (ho : o.op = .buildSlice 66 1 #[(0, x)]) (hx : a.eval x = .agg (cellsRc p))
    (h : K (a.put o.dst (.slice (some ⟨w.heap.size, 0, none⟩) 1 1)) (w.alloc (.cells (cellsRc p) 60))) : o.wp Try.prog a w K Q := by
  unfold Oper.wp execOp
  simp only [ho, List.map_toArray, List.map_cons, List.map_nil, hx, Sem.run_bind, run_oneRc p w, Result.andThen_ok, Sem.run_pure]
  exact h
theorem wpList_oneRc {ops : Array Oper} {rest : List Oper} {o : Oper} {a : Act} {w : World} {Q : Exit → Act → World → Prop} (hgd : o.guard = none) (x : Operand) (p : Rc) (ho : o.op = .buildSlice 66 1 #[(0, x)]) (hx : a.eval x = .agg (cellsRc p))
    (h : wpList Try.prog ops Q rest (a.put o.dst (.slice (some ⟨w.heap.size, 0, none⟩) 1 1)) (w.alloc (.cells (cellsRc p) 60))) : wpList Try.prog ops Q (o :: rest) a w :=
  wpList_plain hgd fun _ hK => wp_oneRc x p ho hx (hK _ _ h)
theorem run_onePq (x : Pq) (w : World) : (Instr.buildSlice 22 1 #[(0, .agg (cellsPq x))]).run Try.prog w = .ok (.slice (some ⟨w.heap.size, 0, none⟩) 1 1) (w.alloc (.cells (cellsPq x) 62)) := by
  obtain ⟨i, hi, hz, hs, hby⟩ := appPq
  simp [Instr.buildSlice, run_underlying Try.underlying22, sizeOf, typeInfo, hi, hz, hs, Instr.fill, newRow, go_sem, cellsPq, Pq.row, Oq.row, Rc.row]
theorem wp_onePq {o : Oper} {a : Act} {w : World} {K : Act → World → Prop} {Q : Exit → Act → World → Prop} (x : Operand) (p : Pq) (ho : o.op = .buildSlice 22 1 #[(0, x)]) (hx : a.eval x = .agg (cellsPq p))
    (h : K (a.put o.dst (.slice (some ⟨w.heap.size, 0, none⟩) 1 1)) (w.alloc (.cells (cellsPq p) 62))) : o.wp Try.prog a w K Q := by
  unfold Oper.wp execOp
  simp only [ho, List.map_toArray, List.map_cons, List.map_nil, hx, Sem.run_bind, run_onePq p w, Result.andThen_ok, Sem.run_pure]
  exact h
theorem wpList_onePq {ops : Array Oper} {rest : List Oper} {o : Oper} {a : Act} {w : World} {Q : Exit → Act → World → Prop} (hgd : o.guard = none) (x : Operand) (p : Pq) (ho : o.op = .buildSlice 22 1 #[(0, x)]) (hx : a.eval x = .agg (cellsPq p))
    (h : wpList Try.prog ops Q rest (a.put o.dst (.slice (some ⟨w.heap.size, 0, none⟩) 1 1)) (w.alloc (.cells (cellsPq p) 62))) : wpList Try.prog ops Q (o :: rest) a w :=
  wpList_plain hgd fun _ hK => wp_onePq x p ho hx (hK _ _ h)
theorem Blk.rangePq {w : World} {b t : Nat} {v : Pq} (h : Blk w b t (cellsPq v)) : w.rangeAt b 0 v.row := fun j u hu => by
  rw [Nat.zero_add, h.cell j]
  simpa [cellsPq] using hu
section
variable {H : Type} {enc : TypeId × Value → H} {w : World} {base : Nat} {held : Bool}
theorem trodPq {n : Nat} {cs : List Value} {x : DataW H × List MemPlace} (h : DataW.trod enc Try.prog w base (fun _ => true) held n 62 cs = some x) : ∃ v : Pq, cs = v.row ∧ FitsPq w v := by
  obtain ⟨ys, n', hn', hy, hlen, hyl, hf⟩ := DataW.trod_struct Try.underlying62 h
  have hlen : cs.length = 13 := hlen.trans (by kernel_rfl)
  have hyl : ys.length = 2 := hyl
  have get : ∀ j k c (f : Field), j < 2 → f.offset = k → Try.prog.cellsOf f.type = c → DataW.trod enc Try.prog w base (fun _ => true) held n' f.type ((cs.drop f.offset).take (Try.prog.cellsOf f.type)) = ys[j]? → ∃ y, DataW.trod enc Try.prog w base (fun _ => true) held n' f.type ((cs.drop k).take c) = some y := by
    intro j k c f hj ho hc ht
    rw [ho, hc, List.getElem?_eq_getElem (by omega)] at ht
    exact ⟨_, ht⟩
  obtain ⟨y0, t0⟩ := get 0 0 4 _ (by omega) rfl (by kernel_rfl) (hf 0 _ rfl)
  obtain ⟨y1, t1⟩ := get 1 4 9 _ (by omega) rfl (by kernel_rfl) (hf 1 _ rfl)
  obtain ⟨o, ho, fo⟩ := trodOq t0
  obtain ⟨r, hr, fr⟩ := trodRc t1
  refine ⟨⟨o, r⟩, ?_, fo, fr⟩
  show cs = o.row ++ r.row
  rw [← ho, ← hr, List.drop_zero, show (cs.drop 4).take 9 = cs.drop 4 from List.take_of_length_le (by rw [List.length_drop]; omega), List.take_append_drop]
def IsPqs (w : World) (a : Option Addr) (len cap : Nat) : Prop := IsLstR Pq.row 13 (FitsPq w) w a len cap
theorem open_S22 {r : Reach} {b0 : Nat} {v : Value} {d : DataW H} {p : List MemPlace} (hv : Value.okWide Try.prog w r b0 22 v) (h : DataW.Trod enc Try.prog w base (fun _ => true) held 22 v d p) : ∃ (a : Option Addr) (len cap : Nat), v = .slice a len cap ∧ IsPqs w a len cap :=
  open_lstR Try.underlying22 (by kernel_rfl) Pq.row_len (by decide) (fun n cs x h _ => trodPq h) hv h
end
/-- A slice of pairs that reads as L. -/
def pq (e : Ev) : Pq := ⟨e.o, e.r⟩
structure PairsAt (w : World) (a : Option Addr) (L : List Ev) : Prop where
  lst : LstR Pq.row 13 w (fun _ => False) a (L.map pq)
  at_ : ∀ e ∈ L, RcAt w (fun _ => False) e.r e.la e.lp ∧ FitsOq e.o
theorem PairsAt.below {w w' : World} {a : Option Addr} {L : List Ev} (h : PairsAt w a L) (hb : Below w.heap.size w w') : PairsAt w' a L := ⟨h.lst.below hb, fun e he => ⟨(h.at_ e he).1.below hb, (h.at_ e he).2⟩⟩
theorem pairs_of {w : World} {a : Option Addr} {len cap : Nat} (h : IsPqs w a len cap) : ∃ L : List Ev, L.length = len ∧ len ≤ cap ∧ cap ≤ maxLen ∧ PairsAt w a L := by
  obtain ⟨h1, h2, l, h3, h4, h5⟩ := h
  have : ∀ l : List Pq, (∀ v ∈ l, FitsPq w v) → ∃ L : List Ev, L.map pq = l ∧ ∀ e ∈ L, RcAt w (fun _ => False) e.r e.la e.lp ∧ FitsOq e.o := fun l => by
    induction l with
    | nil => exact fun _ => ⟨[], rfl, by simp⟩
    | cons v l ih =>
      intro hv
      obtain ⟨L, e1, e2⟩ := ih (fun u hu => hv u (by simp [hu]))
      obtain ⟨fo, la, lp, hr⟩ := hv v (by simp)
      refine ⟨⟨v.o, v.r, la, lp⟩ :: L, by rw [List.map_cons, e1]; rfl, fun e he => ?_⟩
      rcases List.mem_cons.1 he with rfl | he
      · exact ⟨hr, fo⟩
      · exact e2 e he
  obtain ⟨L, e1, e2⟩ := this l h4
  refine ⟨L, by rw [← h3, ← e1, List.length_map], h1, h2, ⟨by rw [e1]; exact h5, e2⟩⟩
/-- Rows stay small. -/
theorem py_small {L : List Ev} (h : ∀ e ∈ L, e.lp.length ≤ 60) (i : Int) : ((stL L).py i).length ≤ 60 * L.length := by
  refine snoc_ind (P := fun L => (∀ e ∈ L, e.lp.length ≤ 60) → ((stL L).py i).length ≤ 60 * L.length) (fun _ => by simp [stL, st0]) (fun L e ih h => ?_) L h
  have h1 := ih (fun x hx => h x (by simp [hx]))
  have h2 := h e (by simp)
  rw [stL_snoc, addS_py, List.length_append, List.length_singleton]
  split
  · rw [pyAll_at, List.length_append]
    have := List.length_filter_le (fun p => decide (p.ix = i)) e.lp
    omega
  · omega
theorem an_small {L : List Ev} (h : ∀ e ∈ L, e.la.length ≤ 60) (i : Int) : ((stL L).an i).length ≤ 60 * L.length := by
  refine snoc_ind (P := fun L => (∀ e ∈ L, e.la.length ≤ 60) → ((stL L).an i).length ≤ 60 * L.length) (fun _ => by simp [stL, st0]) (fun L e ih h => ?_) L h
  have h1 := ih (fun x hx => h x (by simp [hx]))
  have h2 := h e (by simp)
  rw [stL_snoc, addS_an, List.length_append, List.length_singleton]
  split
  · rw [anAll_at, List.length_append]
    have := List.length_filter_le (fun p => decide (p.ep = i)) e.la
    omega
  · omega
end Go.Proofs.Ythnhpmeacboljaa
