/- A call of a function value in a drawn region: quiet (the class is kept), and at the operation. No program in sight. -/
import Derived.Test.YtniehmlklbggdaaDoorFirst
namespace Go.Proofs.YtniehmlklbggdaaDoor
open Go Go.RowKit

section
variable {P : Program} {ops : Array Oper} {C : World → Prop} {Q : Act → Prop} {a : Act} {rest : List Oper}
theorem q_callv {dst : Option Tmp} {x : Operand} {f : FuncId} {caps : Array Value} {xs : Array Operand} {ats : Array TypeId} {ty : TypeId} {pos : String} {after : Array Edge} {guard : Option (Nat × Bool)} (v : Value) (vs : Array Value)
    (hw : Region.wanted { dst, op := .call { callee := .value x, args := xs, argTypes := ats }, type := ty, pos, after, guard } (yielded ops a.tmps) = true) (hx : a.eval x = .func (.func f) #[] caps)
    (hvs : #[] ++ xs.map a.eval ++ caps = vs) (hcall : ∀ args w, (callFunc f args).run P w = .ok (.enter f args) w)
    (hC : ∀ w, C w → Calls P f vs w fun e w' => e = .returned v ∧ C w') (h : wpQuiet P ops C Q rest (a.put dst v)) :
    wpQuiet P ops C Q ({ dst, op := .call { callee := .value x, args := xs, argTypes := ats }, type := ty, pos, after, guard } :: rest) a := by
  unfold wpQuiet
  rw [if_pos hw]
  refine ⟨v, fun w hc => ?_, h⟩
  unfold Oper.quietAt
  have e : execOp a.eval { dst, op := .call { callee := .value x, args := xs, argTypes := ats }, type := ty, pos, after, guard } = callFunc f (#[] ++ xs.map a.eval ++ caps) := by
    simp only [execOp, resolve, hx]
    rfl
  rw [e, hcall, hvs]
  exact ⟨rfl, hC w hc⟩
theorem wp_callv_at {o : Oper} {w : World} {K : Act → World → Prop} {Q : Exit → Act → World → Prop} {x : Operand} {f : FuncId} {caps : Array Value} {xs : Array Operand} {ats : Array TypeId} (ho : o.op = .call { callee := .value x, args := xs, argTypes := ats }) (hx : a.eval x = .func (.func f) #[] caps) (vs : Array Value)
    (hvs : #[] ++ xs.map a.eval ++ caps = vs) (hcall : ∀ args w, (callFunc f args).run P w = .ok (.enter f args) w) (hC : Calls P f vs w fun e w' => ∃ v, e = .returned v ∧ K (a.put o.dst v) w') : o.wp P a w K Q := by
  obtain ⟨dst, op, ty, pos, after, guard⟩ := o
  dsimp only at ho hC
  subst ho
  unfold Oper.wp
  have e : execOp a.eval { dst, op := .call { callee := .value x, args := xs, argTypes := ats }, type := ty, pos, after, guard } = callFunc f (#[] ++ xs.map a.eval ++ caps) := by
    simp only [execOp, resolve, hx]
    rfl
  rw [e, hcall, hvs]
  exact hC.mono fun e w' ⟨v, he, hk⟩ => by subst he; exact hk
end
end Go.Proofs.YtniehmlklbggdaaDoor
