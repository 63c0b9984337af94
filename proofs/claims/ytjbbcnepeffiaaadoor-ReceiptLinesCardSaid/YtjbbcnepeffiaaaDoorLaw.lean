/- Words of the laws: a receipt in its box, calls that keep it. -/
import Derived.Test.YtjbbcnepeffiaaaDoorLive
import Derived.Test.YtjbbcnepeffiaaaDoorRSame
namespace Go.Proofs.YtjbbcnepeffiaaaDoor
open Go Go.RowKit Go.Deep
set_option linter.unusedVariables false
set_option linter.unusedSimpArgs false
set_option maxRecDepth 100000

section
variable {P : Program} {f : FuncId} {args : Array Value} {w0 w : World} {v : Value} {rb rc : Nat} {r s : Rc}
theorem RF.call (h : RF w0 w rb r) (k : Calls P f args w fun e w' => e = .returned v ∧ Below w.heap.size w w') : Calls P f args w fun e w' => e = .returned v ∧ RF w0 w' rb r := k.mono fun _ _ ⟨e1, e2⟩ => ⟨e1, h.below e2⟩
/-- Two boxes. -/
structure RF2 (w0 w : World) (rb rc : Nat) (r s : Rc) : Prop where
  one : Blk w rb 26 (cellsRc r)
  two : Blk w rc 26 (cellsRc s)
  bel : Below w0.heap.size w0 w
theorem RF2.below {w' : World} (h : RF2 w0 w rb rc r s) (hb : Below w.heap.size w w') : RF2 w0 w' rb rc r s := ⟨h.one.below hb h.one.lt, h.two.below hb h.two.lt, h.bel.trans (hb.mono h.bel.size)⟩
theorem RF2.drew (h : RF2 w0 w rb rc r s) : RF2 w0 w.drew rb rc r s := h.below (Below.refl _ _).drew
theorem RF2.call (h : RF2 w0 w rb rc r s) (k : Calls P f args w fun e w' => e = .returned v ∧ Below w.heap.size w w') : Calls P f args w fun e w' => e = .returned v ∧ RF2 w0 w' rb rc r s := k.mono fun _ _ ⟨e1, e2⟩ => ⟨e1, h.below e2⟩
end
theorem few_yes {r : Rc} (h : fewB r = true) : r.an ≤ 60 ∧ r.pn ≤ 60 := by simpa [fewB] using h
theorem RcAt.lens {w : World} {S : Nat → Prop} {r : Rc} {la : List As} {lp : List Pm} (h : RcAt w S r la lp) : r.an ≤ 9223372036854775807 ∧ r.pn ≤ 9223372036854775807 := by
  have h1 := h.ac
  have h2 := h.pc
  unfold maxLen at h1 h2
  omega
theorem RcAt.some {w : World} {S : Nat → Prop} {r : Rc} {la : List As} {lp : List Pm} (h : RcAt w S r la lp) (hf : fewB r = true) : la.length ≤ 1000000 ∧ lp.length ≤ 1000000 := by
  have h1 := few_yes hf
  rw [h.an, h.pn]
  omega
theorem exec_eqS {P : Program} {a : Act} {dst : Option Tmp} {t yt ty : TypeId} {x y : Operand} {pos : String} {after : Array Edge} {guard : Option (Nat × Bool)} {w : World} {l m : List UInt8} (hx : a.eval x = .string (bs l)) (hy : a.eval y = .string (bs m)) :
    (execOp a.eval { dst, op := .binOp .eql t x y yt, type := ty, pos, after, guard }).run P w = .ok (.value (.bool (decide (l = m)))) w := by
  have e : ((bs l).toList == (bs m).toList) = decide (l = m) := by
    rw [ByteArray.toList_eq, ByteArray.toList_eq, bs_list, bs_list, Bool.eq_iff_iff]
    simp
  simp only [execOp, hx, hy, Sem.run_bind, eqGuard_at_string, binOp_string_eql, e, Result.andThen_ok, Sem.run_pure]
theorem q_eqS {P : Program} {C : World → Prop} {Qa : Act → Prop} {ops : Array Oper} {rest : List Oper} {a : Act} {dst : Option Tmp} {t yt ty : TypeId} {x y : Operand} {pos : String} {after : Array Edge} {guard : Option (Nat × Bool)} (l m : List UInt8) (b : Bool) (hb : decide (l = m) = b) (hw : Region.wanted { dst, op := .binOp .eql t x y yt, type := ty, pos, after, guard } (yielded ops a.tmps) = true) (hx : a.eval x = .string (bs l)) (hy : a.eval y = .string (bs m))
    (h : wpQuiet P ops C Qa rest (a.put dst (.bool b))) : wpQuiet P ops C Qa ({ dst, op := .binOp .eql t x y yt, type := ty, pos, after, guard } :: rest) a :=
  q_val (.bool b) hw (fun w => by rw [← hb]; exact exec_eqS hx hy) h
theorem q_eqB {P : Program} {C : World → Prop} {Qa : Act → Prop} {ops : Array Oper} {rest : List Oper} {a : Act} {dst : Option Tmp} {yt ty : TypeId} {x y : Operand} {pos : String} {after : Array Edge} {guard : Option (Nat × Bool)} (t : TypeId) (p q r : Bool) (hb : (p == q) = r) (ht : P.underlying t = some .bool) (hw : Region.wanted { dst, op := .binOp .eql t x y yt, type := ty, pos, after, guard } (yielded ops a.tmps) = true) (hx : a.eval x = .bool p) (hy : a.eval y = .bool q)
    (h : wpQuiet P ops C Qa rest (a.put dst (.bool r))) : wpQuiet P ops C Qa ({ dst, op := .binOp .eql t x y yt, type := ty, pos, after, guard } :: rest) a :=
  q_val (.bool r) hw (fun w => by
    have e : ∀ d : Nat, (Op.equalIn (d + 1) t (.bool p) (.bool q)).run P w = .ok r w := fun d => by rw [← hb]; cases p <;> cases q <;> simp [Op.equalIn, run_underlying ht]
    have e2 : (binOp .eql t (.bool p) (.bool q)).run P w = .ok (.bool r) w := by
      simp only [binOp]
      simp [Op.equal, Op.maxDepth, e 9999]
    simp only [execOp, hx, hy, Sem.run_bind, eqGuard_at_bool, e2, Result.andThen_ok, Sem.run_pure]) h
end Go.Proofs.YtjbbcnepeffiaaaDoor
