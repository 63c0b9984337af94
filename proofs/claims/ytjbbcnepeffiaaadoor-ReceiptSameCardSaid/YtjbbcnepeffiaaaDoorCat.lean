/- Sums of strings of which the bytes are named; the reference's Format between its regions. -/
import Derived.Test.YtjbbcnepeffiaaaDoorFormT
import Derived.Test.YtjbbcnepeffiaaaDoorDec
import Derived.Laws.Concat
namespace Go.Proofs.YtjbbcnepeffiaaaDoor
open Go Go.RowKit
set_option linter.unusedVariables false
set_option linter.unusedSimpArgs false
set_option maxRecDepth 100000

section
variable {P : Program}
theorem exec_add {a : Act} {dst : Option Tmp} {t yt ty : TypeId} {x y : Operand} {pos : String} {after : Array Edge} {guard : Option (Nat × Bool)} {w : World} {l m : List UInt8} (hx : a.eval x = .string (bs l)) (hy : a.eval y = .string (bs m)) (h : l.length + m.length ≤ 9223372036854775807) :
    (execOp a.eval { dst, op := .binOp .add t x y yt, type := ty, pos, after, guard }).run P w = .ok (.value (.string (bs (l ++ m)))) w := by
  have e := run_string_add_sum (P := P) w (bs l) (bs m) (by rw [bs_size, bs_size]; exact h)
  rw [bs_append] at e
  simp only [execOp, hx, hy, Sem.run_bind, eqGuard_add, binOp_string_add, e, Result.andThen_ok, Sem.run_pure]
theorem q_add {C : World → Prop} {Qa : Act → Prop} {ops : Array Oper} {rest : List Oper} {a : Act} {dst : Option Tmp} {t yt ty : TypeId} {x y : Operand} {pos : String} {after : Array Edge} {guard : Option (Nat × Bool)} (l m : List UInt8) (hw : Region.wanted { dst, op := .binOp .add t x y yt, type := ty, pos, after, guard } (yielded ops a.tmps) = true) (hx : a.eval x = .string (bs l)) (hy : a.eval y = .string (bs m)) (hl : l.length + m.length ≤ 9223372036854775807)
    (h : wpQuiet P ops C Qa rest (a.put dst (.string (bs (l ++ m))))) : wpQuiet P ops C Qa ({ dst, op := .binOp .add t x y yt, type := ty, pos, after, guard } :: rest) a :=
  q_val (.string (bs (l ++ m))) hw (fun w => exec_add hx hy hl) h
theorem wpList_add {ops : Array Oper} {rest : List Oper} {a : Act} {w : World} {Q : Exit → Act → World → Prop} {dst : Option Tmp} {t yt ty : TypeId} {x y : Operand} {pos : String} {after : Array Edge} {guard : Option (Nat × Bool)} (l m : List UInt8) (hw : Region.wanted { dst, op := .binOp .add t x y yt, type := ty, pos, after, guard } (yielded ops a.tmps) = true) (hx : a.eval x = .string (bs l)) (hy : a.eval y = .string (bs m)) (hl : l.length + m.length ≤ 9223372036854775807)
    (h : wpList P ops Q rest (a.put dst (.string (bs (l ++ m)))) w) : wpList P ops Q ({ dst, op := .binOp .add t x y yt, type := ty, pos, after, guard } :: rest) a w :=
  wpList_valG (.string (bs (l ++ m))) hw (exec_add hx hy hl) h
theorem q_cat {C : World → Prop} {Qa : Act → Prop} {ops : Array Oper} {rest : List Oper} {a : Act} {dst : Option Tmp} {t yt ty : TypeId} {x y : Operand} {pos : String} {after : Array Edge} {guard : Option (Nat × Bool)} (l m s : List UInt8) (hs : Hid (l ++ m = s ∧ s.length ≤ 9223372036854775807)) (hw : Region.wanted { dst, op := .binOp .add t x y yt, type := ty, pos, after, guard } (yielded ops a.tmps) = true) (hx : a.eval x = .string (bs l)) (hy : a.eval y = .string (bs m))
    (h : wpQuiet P ops C Qa rest (a.put dst (.string (bs s)))) : wpQuiet P ops C Qa ({ dst, op := .binOp .add t x y yt, type := ty, pos, after, guard } :: rest) a := by
  obtain ⟨rfl, hl⟩ := hs.out
  exact q_add l m hw hx hy (by rw [List.length_append] at hl; exact hl) h
theorem wpList_cat {ops : Array Oper} {rest : List Oper} {a : Act} {w : World} {Q : Exit → Act → World → Prop} {dst : Option Tmp} {t yt ty : TypeId} {x y : Operand} {pos : String} {after : Array Edge} {guard : Option (Nat × Bool)} (l m s : List UInt8) (hs : Hid (l ++ m = s ∧ s.length ≤ 9223372036854775807)) (hw : Region.wanted { dst, op := .binOp .add t x y yt, type := ty, pos, after, guard } (yielded ops a.tmps) = true) (hx : a.eval x = .string (bs l)) (hy : a.eval y = .string (bs m))
    (h : wpList P ops Q rest (a.put dst (.string (bs s))) w) : wpList P ops Q ({ dst, op := .binOp .add t x y yt, type := ty, pos, after, guard } :: rest) a w := by
  obtain ⟨rfl, hl⟩ := hs.out
  exact wpList_add l m hw hx hy (by rw [List.length_append] at hl; exact hl) h
theorem same_keeps {f : FuncId} {args : Array Value} {w : World} {v : Value} {C : World → Prop} (hC : C w) (h : Calls P f args w fun e w' => e = .returned v ∧ w = w') : Calls P f args w fun e w' => e = .returned v ∧ C w' :=
  h.mono fun _ _ ⟨e1, e2⟩ => ⟨e1, e2 ▸ hC⟩
end
/-- Where the reference's Format stands. -/
structure RF (w0 w : World) (rb : Nat) (r : Rc) : Prop where
  box : Blk w rb 26 (cellsRc r)
  bel : Below w0.heap.size w0 w
theorem RF.below {w0 w w' : World} {rb : Nat} {r : Rc} (h : RF w0 w rb r) (hb : Below w.heap.size w w') : RF w0 w' rb r := ⟨h.box.below hb h.box.lt, h.bel.trans (hb.mono h.bel.size)⟩
theorem RF.drew {w0 w : World} {rb : Nat} {r : Rc} (h : RF w0 w rb r) : RF w0 w.drew rb r := h.below (Below.refl _ _).drew
theorem RF.alloc {w0 w : World} {rb : Nat} {r : Rc} (h : RF w0 w rb r) (o : Obj) : RF w0 (w.alloc o) rb r := h.below ((Below.refl _ _).alloc (Nat.le_refl _) o)
theorem RF.cell {w0 w : World} {rb : Nat} {r : Rc} (h : RF w0 w rb r) (i : Nat) : w.cell? ⟨rb, i, none⟩ = (cellsRc r)[i]? := h.box.cell i
theorem kindL_yes {r : Rc} (h : 1 ≤ r.kd ∧ r.kd ≤ 7) : bs (kindL r.kd) = nm (r.kd - 1).toNat := by unfold kindL; rw [if_pos h]; rfl
theorem kindL_no {r : Rc} (h : ¬ (1 ≤ r.kd ∧ r.kd ≤ 7)) : kindL r.kd = malL := by unfold kindL; rw [if_neg h]
end Go.Proofs.YtjbbcnepeffiaaaDoor
