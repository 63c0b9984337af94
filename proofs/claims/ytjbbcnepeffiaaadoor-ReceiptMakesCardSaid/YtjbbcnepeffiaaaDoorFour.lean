/- An array of four integers that came in, by value. -/
import Derived.Test.YtjbbcnepeffiaaaDoorRc
import Derived.Laws.IdiomArrays
import Derived.ChangeSlices
import Derived.ChangeArms
import Derived.WideShapes
namespace Go.Proofs.YtjbbcnepeffiaaaDoor
open Go Go.ChangeShapes Go.WideShapes Go.RowKit
set_option linter.unusedVariables false

structure X4 where
  x0 : Int
  x1 : Int
  x2 : Int
  x3 : Int
def cells4 (c : X4) : Array Value := #[.int .i64 c.x0, .int .i64 c.x1, .int .i64 c.x2, .int .i64 c.x3]
def Fits4 (c : X4) : Prop := I64 c.x0 ∧ I64 c.x1 ∧ I64 c.x2 ∧ I64 c.x3
section
variable {H : Type} {enc : TypeId × Value → H} {w : World} {base : Nat} {held : Bool}
theorem open_T38 {r : Reach} {b0 : Nat} {v : Value} {d : DataW H} {p : List MemPlace} (hv : Value.okWide Tryd.prog w r b0 38 v) (h : DataW.Trod enc Tryd.prog w base (fun _ => true) held 38 v d p) : ∃ c : X4, v = .agg (cells4 c) ∧ Fits4 c := by
  have hu := Tryd.underlying38
  simp only [Value.okWide, hu] at hv
  obtain ⟨cs, rfl, hsz, _⟩ := hv
  have h4 : Tryd.prog.cellsOf 38 = 4 := by kernel_rfl
  rw [h4] at hsz
  obtain ⟨l⟩ := cs
  have hl : l.length = 4 := by simpa using hsz
  obtain ⟨fuel, hf⟩ := h
  match l, hl with
  | [v0, v1, v2, v3], _ =>
    obtain ⟨y0, y1, y2, y3, m, _, t0, t1, t2, t3⟩ := trod_array4 hu (by kernel_rfl) (show DataW.trod enc Tryd.prog w base (fun _ => true) held fuel 38 [v0, v1, v2, v3] = _ from hf)
    obtain ⟨k0, e0, _, q0⟩ := DataW.trod_int Tryd.underlying3 t0
    obtain ⟨k1, e1, _, q1⟩ := DataW.trod_int Tryd.underlying3 t1
    obtain ⟨k2, e2, _, q2⟩ := DataW.trod_int Tryd.underlying3 t2
    obtain ⟨k3, e3, _, q3⟩ := DataW.trod_int Tryd.underlying3 t3
    injection e0 with e0
    injection e1 with e1
    injection e2 with e2
    injection e3 with e3
    subst e0 e1 e2 e3
    exact ⟨⟨k0, k1, k2, k3⟩, rfl, i64_of q0, i64_of q1, i64_of q2, i64_of q3⟩
end
end Go.Proofs.YtjbbcnepeffiaaaDoor
