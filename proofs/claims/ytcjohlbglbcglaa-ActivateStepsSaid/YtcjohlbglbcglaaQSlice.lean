/- Slicing a slice, among the first operations of a drawn region. No program in sight. -/
import Derived.Test.YtcjohlbglbcglaaFirst
import Derived.Laws.Slices
namespace Go.Proofs.Ytcjohlbglbcglaa
open Go Go.RowKit
set_option linter.unusedVariables false
set_option linter.unusedSimpArgs false

section
variable {P : Program} {ops : Array Oper} {C : World → Prop} {Q : Act → Prop} {rest : List Oper} {o : Oper} {act : Act}
theorem run_sizeOf_one {e : TypeId} (h : (P.info? e).map (·.size) = some 1) (w : World) : (sizeOf e).run P w = .ok 1 w := by
  cases hi : P.info? e with
  | none => rw [hi] at h; cases h
  | some i =>
    rw [hi] at h
    have h : i.size = 1 := by simpa using h
    simp [sizeOf, typeInfo, hi, h]
/-- x[:B]. -/
theorem q_slice_h (ty : TypeId) (x y : Operand) {e : TypeId} (a : Option Addr) (len cap B : Nat) (hw : Region.wanted o (yielded ops act.tmps) = true) (ho : o.op = .slice ty x none (some y) none) (hx : act.eval x = .slice a len cap) (hy : act.eval y = .int .i64 (B : Int))
    (hu : P.underlying ty = some (.slice e)) (hs : (P.info? e).map (·.size) = some 1) (hB : B ≤ cap) (h : wpQuiet P ops C Q rest (act.put o.dst (.slice a B cap))) : wpQuiet P ops C Q (o :: rest) act := by
  refine q_val (.slice a B cap) hw (fun w => ?_) h
  have he : P.elem ty = e := by simp [Program.elem, hu]
  have hu2 : P.underlying ty = some (.slice (P.elem ty)) := by rw [he]; exact hu
  have h1 := run_slice_h (w := w) ty a len cap hu2 .i64 (B : Int) (by omega) (by omega)
  have h2 := run_sizeOf_one hs w
  rw [← he] at h2
  unfold execOp
  simp [ho, hx, hy, run_sliceAt_slice (h := hu2), h1, h2, sliced, Result.andThen]
  intro _
  cases a with
  | none => rfl
  | some p => simp [Addr.add]
/-- x[B:]. -/
theorem q_slice_l (ty : TypeId) (x y : Operand) {e : TypeId} (a : Option Addr) (len cap B : Nat) (hw : Region.wanted o (yielded ops act.tmps) = true) (ho : o.op = .slice ty x (some y) none none) (hx : act.eval x = .slice a len cap) (hy : act.eval y = .int .i64 (B : Int))
    (hu : P.underlying ty = some (.slice e)) (hs : (P.info? e).map (·.size) = some 1) (hB : B ≤ len) (h : wpQuiet P ops C Q rest (act.put o.dst (sliced a B len cap 1))) : wpQuiet P ops C Q (o :: rest) act := by
  refine q_val (sliced a B len cap 1) hw (fun w => ?_) h
  have he : P.elem ty = e := by simp [Program.elem, hu]
  have hu2 : P.underlying ty = some (.slice (P.elem ty)) := by rw [he]; exact hu
  have h1 := run_slice_l (w := w) ty a len cap hu2 .i64 (B : Int) (by omega) (by omega)
  have h2 := run_sizeOf_one hs w
  rw [← he] at h2
  unfold execOp
  simp [ho, hx, hy, run_sliceAt_slice (h := hu2), h1, h2, Result.andThen]
end
end Go.Proofs.Ytcjohlbglbcglaa
