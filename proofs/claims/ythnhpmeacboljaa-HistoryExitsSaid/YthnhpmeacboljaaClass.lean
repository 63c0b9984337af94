/- A region that draws its order, whose operations keep a class of worlds (a block known whole; what was there before is as it was): one walk in the text's order. No program in sight. -/
import Derived.Test.YthnhpmeacboljaaWords
import Derived.Deep.Quiet
import Derived.Laws.Rows
namespace Go.Proofs.Ythnhpmeacboljaa
open Go.RowKit

section
variable {P : Program} {ops : Array Oper} {C : World → Prop} {Q : Act → Prop} {a : Act} {o : Oper} {rest : List Oper}
/-- An operation that yields one value in every world, and leaves the world. -/
theorem q_val (v : Value) (hw : Region.wanted o (yielded ops a.tmps) = true) (hv : ∀ w, (execOp a.eval o).run P w = .ok (.value v) w) (h : wpQuiet P ops C Q rest (a.put o.dst v)) : wpQuiet P ops C Q (o :: rest) a := by
  unfold wpQuiet
  rw [if_pos hw]
  exact ⟨v, fun w _ => by unfold Oper.quietAt; rw [hv]; exact ⟨rfl, rfl⟩, h⟩
/-- The same, in the worlds of the class. -/
theorem q_valC (v : Value) (hw : Region.wanted o (yielded ops a.tmps) = true) (hv : ∀ w, C w → (execOp a.eval o).run P w = .ok (.value v) w) (h : wpQuiet P ops C Q rest (a.put o.dst v)) : wpQuiet P ops C Q (o :: rest) a := by
  unfold wpQuiet
  rw [if_pos hw]
  exact ⟨v, fun w hc => by unfold Oper.quietAt; rw [hv w hc]; exact ⟨rfl, rfl⟩, h⟩
/-- An operation that the guard leaves out. -/
theorem q_skip (hw : Region.wanted o (yielded ops a.tmps) = false) (h : wpQuiet P ops C Q rest (a.put o.dst undef)) : wpQuiet P ops C Q (o :: rest) a := by
  unfold wpQuiet
  rw [if_neg (by rw [hw]; simp)]
  exact h
/-- A whole row is read. -/
theorem q_load (ty : TypeId) (x : Operand) (b : Nat) (t : TypeId) (cs : Array Value) (d : TypeDesc) (hw : Region.wanted o (yielded ops a.tmps) = true) (ho : o.op = .load ty x) (hx : a.eval x = .pointer (some ⟨b, 0, none⟩))
    (hC : ∀ w, C w → Blk w b t cs) (hu : P.underlying ty = some d) (hd : (match d with | .struct _ | .array _ _ => true | _ => false) = true) (hi : (P.info? ty).map (·.size) = some cs.size)
    (h : wpQuiet P ops C Q rest (a.put o.dst (.agg cs))) : wpQuiet P ops C Q (o :: rest) a := by
  refine q_valC (.agg cs) hw (fun w hc => ?_) h
  unfold execOp
  simp only [ho, hx, Instr.loadAt, Instr.sureAddr, Sem.run_bind, Sem.run_pure, Result.andThen_ok, run_loadVar_row w b t ty cs (0, 0) d (hC w hc) hu hd hi]
/-- A call whose contract keeps the class. -/
theorem q_call {dst : Option Tmp} {f : FuncId} {xs : Array Operand} {ats : Array TypeId} {ty : TypeId} {pos : String} {after : Array Edge} {guard : Option (Nat × Bool)} (v : Value) (vs : Array Value)
    (hw : Region.wanted { dst, op := .call { callee := .value (.func f), args := xs, argTypes := ats }, type := ty, pos, after, guard } (yielded ops a.tmps) = true)
    (hvs : #[] ++ xs.map a.eval ++ #[] = vs) (hcall : ∀ args w, (callFunc f args).run P w = .ok (.enter f args) w)
    (hC : ∀ w, C w → Calls P f vs w fun e w' => e = .returned v ∧ C w') (h : wpQuiet P ops C Q rest (a.put dst v)) :
    wpQuiet P ops C Q ({ dst, op := .call { callee := .value (.func f), args := xs, argTypes := ats }, type := ty, pos, after, guard } :: rest) a := by
  unfold wpQuiet
  rw [if_pos hw]
  refine ⟨v, fun w hc => ?_, h⟩
  unfold Oper.quietAt
  have e : execOp a.eval { dst, op := .call { callee := .value (.func f), args := xs, argTypes := ats }, type := ty, pos, after, guard } = callFunc f (#[] ++ xs.map a.eval ++ #[]) := rfl
  rw [e, hcall, hvs]
  exact ⟨rfl, hC w hc⟩

/-- The region's law: one walk in the text's order, in the class's worlds. -/
theorem wp_region_class {P : Program} {id : Nat} {Q : Exit → Act → World → Prop} {a : Act} {w : World} {l : List Oper} (C : World → Prop) (hm : P.follows .mixedOrders = true) (hB : Region.lexB .any l.toArray = true) (hC : C w.drew)
    (h : wpQuiet P l.toArray C (fun a' => ∀ w', C w' → Q .normal a' w') l a) : (Code.region id l.toArray true).wp P Q a w :=
  wp_region_quiet (C := C) hm hB hC (by simpa using h)
end

section
variable {P : Program} {ops : Array Oper} {Q : Exit → Act → World → Prop} {a : Act} {w : World} {rest : List Oper} {o : Oper}
/-- A plain region's list, an operation under a guard that wants it: a whole row is read. -/
theorem wpList_load_rowG (hw : Region.wanted o (yielded ops a.tmps) = true) (ty : TypeId) (x : Operand) (ho : o.op = .load ty x)
    (g : Nat) (hx : a.eval x = .pointer (some ⟨g, 0, none⟩)) (t : TypeId) (cs : Array Value) (fr : Nat × Nat) (d : TypeDesc) (hg : w.heap[g]? = some (.cells cs t fr))
    (hu : P.underlying ty = some d) (hd : (match d with | .struct _ | .array _ _ => true | _ => false) = true) (hi : (P.info? ty).map (·.size) = some cs.size)
    (h : wpList P ops Q rest (a.put o.dst (.agg cs)) w) : wpList P ops Q (o :: rest) a w := by
  unfold wpList
  rw [if_pos hw]
  exact .inl (wp_load_row ty x ho g hx t cs fr d hg hu hd hi h)
/-- .. an operation that yields one value and leaves the world. -/
theorem wpList_valG (v : Value) (hw : Region.wanted o (yielded ops a.tmps) = true) (hv : (execOp a.eval o).run P w = .ok (.value v) w) (h : wpList P ops Q rest (a.put o.dst v) w) : wpList P ops Q (o :: rest) a w := by
  unfold wpList
  rw [if_pos hw]
  refine .inl ?_
  unfold Oper.wp
  rw [hv]
  exact h
end

/-- The class: block b is whole, and below B nothing has changed since w. -/
def Keeps (B b t : Nat) (cs : Array Value) (w w' : World) : Prop := Blk w' b t cs ∧ Below B w w' ∧ B ≤ w'.heap.size
theorem Keeps.call {P : Program} {f : FuncId} {vs : Array Value} {v : Value} {B b t : Nat} {cs : Array Value} {w0 w : World} (hk : Keeps B b t cs w0 w)
    (h : Calls P f vs w fun e w' => e = .returned v ∧ Below w.heap.size w w') : Calls P f vs w fun e w' => e = .returned v ∧ Keeps B b t cs w0 w' :=
  h.mono fun _ _ ⟨he, hb⟩ => ⟨he, hk.1.below hb hk.1.lt, hk.2.1.trans (hb.mono hk.2.2), Nat.le_trans hk.2.2 hb.size⟩
theorem Keeps.call_same {P : Program} {f : FuncId} {vs : Array Value} {v : Value} {B b t : Nat} {cs : Array Value} {w0 w : World} (hk : Keeps B b t cs w0 w)
    (h : Calls P f vs w fun e w' => e = .returned v ∧ w = w') : Calls P f vs w fun e w' => e = .returned v ∧ Keeps B b t cs w0 w' :=
  h.mono fun _ _ ⟨he, hb⟩ => ⟨he, hb ▸ hk⟩
theorem Keeps.drew {B b t : Nat} {cs : Array Value} {w0 w : World} (hk : Keeps B b t cs w0 w) : Keeps B b t cs w0 w.drew := ⟨hk.1, hk.2.1.drew, hk.2.2⟩
theorem Keeps.new {B t : Nat} {cs : Array Value} {w0 w : World} (hk : Below B w0 w) (hB : B ≤ w.heap.size) : Keeps B w.heap.size t cs w0 (w.alloc (.cells cs t)) :=
  ⟨Blk.new w t cs, hk.alloc hB _, by simp; omega⟩
theorem Keeps.alloc {B b t : Nat} {cs : Array Value} {w0 w : World} (hk : Keeps B b t cs w0 w) (o : Obj) : Keeps B b t cs w0 (w.alloc o) := ⟨hk.1.alloc o, hk.2.1.alloc hk.2.2 o, by have := hk.2.2; simp; omega⟩
/-- Two blocks. -/
theorem Keeps.call2 {P : Program} {f : FuncId} {vs : Array Value} {v : Value} {B b t b2 t2 : Nat} {cs cs2 : Array Value} {w0 w : World} (hk : Keeps B b t cs w0 w ∧ Keeps B b2 t2 cs2 w0 w)
    (h : Calls P f vs w fun e w' => e = .returned v ∧ Below w.heap.size w w') : Calls P f vs w fun e w' => e = .returned v ∧ (Keeps B b t cs w0 w' ∧ Keeps B b2 t2 cs2 w0 w') :=
  h.mono fun _ _ ⟨he, hb⟩ => ⟨he, ⟨hk.1.1.below hb hk.1.1.lt, hk.1.2.1.trans (hb.mono hk.1.2.2), Nat.le_trans hk.1.2.2 hb.size⟩, ⟨hk.2.1.below hb hk.2.1.lt, hk.2.2.1.trans (hb.mono hk.2.2.2), Nat.le_trans hk.2.2.2 hb.size⟩⟩
theorem Keeps.heap {B b t : Nat} {cs : Array Value} {w0 w : World} (hk : Keeps B b t cs w0 w) : w.heap[b]? = some (.cells cs t (0, 0)) := hk.1
end Go.Proofs.Ythnhpmeacboljaa
