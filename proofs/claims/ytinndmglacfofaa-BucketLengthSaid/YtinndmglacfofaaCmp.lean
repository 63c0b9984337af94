/- The comparison of two entries by their epochs: cmp.isNaN, cmp.Compare, All's closure; a call of it in a drawn region. -/
import Derived.Test.YtinndmglacfofaaRow
namespace Go.Proofs.Ytinndmglacfofaa
open Go Go.RowKit Go.Deep
set_option linter.unusedVariables false
set_option linter.unusedSimpArgs false

def cmpI (x y : Int) : Int := if x < y then -1 else if y < x then 1 else 0
theorem cmpI_lt {x y : Int} : cmpI x y < 0 ↔ x < y := by unfold cmpI; split <;> (try split) <;> omega
theorem isnan_any (x : Int) (w : World) : Calls Try.prog 32 #[.int .i64 x] w fun e w' => e = .returned (.bool false) ∧ w = w' := by
  go_enter Try.func32, Try.ntmps32
  go_wp2
  go_ret
  exact ⟨rfl, rfl⟩
theorem compare_any (x y : Int) (w : World) : Calls Try.prog 28 #[.int .i64 x, .int .i64 y] w fun e w' => e = .returned (.int .i64 (cmpI x y)) ∧ w = w' := by
  have N := Lib.hid isnan_any
  by_cases h1 : x < y
  · have hv : Hid (cmpI x y = -1) := Lib.hid (by unfold cmpI; rw [if_pos h1])
    go_enter Try.func28, Try.ntmps28
    go_wp2_with fail
    refine (N.out _ _).mono ?_
    rintro e w' ⟨rfl, rfl⟩
    go_wp2_with fail
    refine (N.out _ _).mono ?_
    rintro e w' ⟨rfl, rfl⟩
    go_wp2_with fail
    go_ret
    exact ⟨by rw [hv.out]; rfl, rfl⟩
  · by_cases h2 : y < x
    · have hv : Hid (cmpI x y = 1) := Lib.hid (by unfold cmpI; rw [if_neg h1, if_pos h2])
      go_enter Try.func28, Try.ntmps28
      go_wp2_with fail
      refine (N.out _ _).mono ?_
      rintro e w' ⟨rfl, rfl⟩
      go_wp2_with fail
      refine (N.out _ _).mono ?_
      rintro e w' ⟨rfl, rfl⟩
      go_wp2_with fail
      go_ret
      exact ⟨by rw [hv.out]; rfl, rfl⟩
    · have hv : Hid (cmpI x y = 0) := Lib.hid (by unfold cmpI; rw [if_neg h1, if_neg h2])
      go_enter Try.func28, Try.ntmps28
      go_wp2_with fail
      refine (N.out _ _).mono ?_
      rintro e w' ⟨rfl, rfl⟩
      go_wp2_with fail
      refine (N.out _ _).mono ?_
      rintro e w' ⟨rfl, rfl⟩
      go_wp2_with fail
      go_ret
      exact ⟨by rw [hv.out]; rfl, rfl⟩
/-- All's closure. -/
theorem cmpent_any (x y : Ent) (w : World) : Calls Try.prog 27 #[.agg (cellsE x), .agg (cellsE y)] w fun e w' => e = .returned (.int .i64 (cmpI x.1 y.1)) ∧ Below w.heap.size w w' := by
  have N := Lib.hid (compare_any x.1 y.1)
  have hx : ((w.alloc (.cells (cellsE x) 46)).alloc (.cells (cellsE y) 46)).cell? ⟨w.heap.size, 0, none⟩ = some (.int .i64 x.1) := cell_alloc_some _ ((Blk.new w 46 (cellsE x)).cell 0)
  have hy : ((w.alloc (.cells (cellsE x) 46)).alloc (.cells (cellsE y) 46)).cell? ⟨w.heap.size + 1, 0, none⟩ = some (.int .i64 y.1) := by
    have := (Blk.new (w.alloc (.cells (cellsE x) 46)) 46 (cellsE y)).cell 0
    rwa [World.size_alloc] at this
  have HB : Hid (Below w.heap.size w ((w.alloc (.cells (cellsE x) 46)).alloc (.cells (cellsE y) 46))) := Lib.hid (((Below.refl _ _).alloc (Nat.le_refl _) _).alloc (by simp) _)
  generalize cmpI x.1 y.1 = r at *
  go_enter Try.func27, Try.ntmps27
  go_wp2_with fail
  refine (N.out _).mono ?_
  rintro e w' ⟨rfl, rfl⟩
  go_wp2_with fail
  go_ret
  exact ⟨rfl, HB.out⟩

/-- What the sort is handed for 'cmp'. -/
def cmpF : Value := .func (.func 27) #[] #[]
/-- The class of worlds of a comparison: the row stands, nothing else that was has turned. -/
def CmpC (g cap n : Nat) (l : List Ent) (w0 w : World) : Prop := Row w g cap n l ∧ Kept (fun i => i = g) w0 w
section
variable {ops : Array Oper} {a : Act} {Qa : Act → Prop} {rest : List Oper} {g cap n : Nat} {l : List Ent} {w0 : World}
/-- The call of the comparison, in the class. -/
theorem q_cmp {dst : Option Tmp} {f x y : Operand} {ats : Array TypeId} {ty : TypeId} {pos : String} {after : Array Edge} {guard : Option (Nat × Bool)} (p q : Ent)
    (hw : Region.wanted { dst, op := .call { callee := .value f, args := #[x, y], argTypes := ats }, type := ty, pos, after, guard } (yielded ops a.tmps) = true)
    (hf : a.eval f = cmpF) (hx : a.eval x = .agg (cellsE p)) (hy : a.eval y = .agg (cellsE q)) (h : wpQuiet Try.prog ops (CmpC g cap n l w0) Qa rest (a.put dst (.int .i64 (cmpI p.1 q.1)))) :
    wpQuiet Try.prog ops (CmpC g cap n l w0) Qa ({ dst, op := .call { callee := .value f, args := #[x, y], argTypes := ats }, type := ty, pos, after, guard } :: rest) a := by
  unfold wpQuiet
  rw [if_pos hw]
  refine ⟨_, fun w hc => ?_, h⟩
  unfold Oper.quietAt
  have e : execOp a.eval { dst, op := .call { callee := .value f, args := #[x, y], argTypes := ats }, type := ty, pos, after, guard } = callFunc 27 #[.agg (cellsE p), .agg (cellsE q)] := by
    simp only [execOp, resolve, hf, cmpF, Deferred.ofValue, List.map_toArray, List.map_cons, List.map_nil, hx, hy]
    rfl
  rw [e, Try.call27]
  refine ⟨rfl, ?_⟩
  exact (cmpent_any p q w).mono fun e w' ⟨he, hb⟩ => ⟨he, hc.1.below hb, hc.2.trans (Kept.of_below (S := fun i => i = g) hb) (fun _ _ h => h)⟩
/-- A load of an element, in the class. -/
theorem q_elem {o : Oper} {x : Operand} {i : Nat} (v : Ent) (hw : Region.wanted o (yielded ops a.tmps) = true) (ho : o.op = .load 46 x) (hx : a.eval x = .pointer (some ⟨g, i * 2, none⟩)) (hi : l[i]? = some v)
    (h : wpQuiet Try.prog ops (CmpC g cap n l w0) Qa rest (a.put o.dst (.agg (cellsE v)))) : wpQuiet Try.prog ops (CmpC g cap n l w0) Qa (o :: rest) a :=
  q_load_ent 46 x g (i * 2) v _ hw ho hx (fun w hc => hc.1.at hi) Try.underlying46 rfl infoE h
end
end Go.Proofs.Ytinndmglacfofaa
