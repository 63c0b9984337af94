/- An array of four bytes that came in, by value. -/
import Derived.Test.YtokkdeoimhibpaaWords
import Derived.Laws.IdiomArrays
import Derived.ChangeSlices
import Derived.ChangeArms
import Derived.WideShapes
namespace Go.Proofs.Ytokkdeoimhibpaa
open Go Go.ChangeShapes Go.WideShapes Go.RowKit
set_option linter.unusedVariables false

/-- The four bytes. -/
def cellsS (c : Nat → Int) : Array Value := #[.int .u8 (c 0), .int .u8 (c 1), .int .u8 (c 2), .int .u8 (c 3)]
def FitsS (c : Nat → Int) : Prop := ∀ i, i < 4 → 0 ≤ c i ∧ c i ≤ 255
theorem u8_wf {x : Int} (h : (Lit.int .u8 x).wf = true) : 0 ≤ x ∧ x ≤ 255 := by
  simp [Lit.wf, IntKind.min, IntKind.max, IntKind.signed, IntKind.bits] at h
  omega
section
variable {H : Type} {enc : TypeId × Value → H} {w : World} {base : Nat} {held : Bool}
theorem open_T41 {r : Reach} {b0 : Nat} {v : Value} {d : DataW H} {p : List MemPlace} (hv : Value.okWide Try.prog w r b0 41 v) (h : DataW.Trod enc Try.prog w base (fun _ => true) held 41 v d p) : ∃ c : Nat → Int, v = .agg (cellsS c) ∧ FitsS c := by
  have hu := Try.underlying41
  simp only [Value.okWide, hu] at hv
  obtain ⟨cs, rfl, hsz, _⟩ := hv
  have h4 : Try.prog.cellsOf 41 = 4 := by kernel_rfl
  rw [h4] at hsz
  obtain ⟨l⟩ := cs
  have hl : l.length = 4 := by simpa using hsz
  obtain ⟨fuel, hf⟩ := h
  match l, hl with
  | [v0, v1, v2, v3], _ =>
    obtain ⟨y0, y1, y2, y3, m, _, t0, t1, t2, t3⟩ := trod_array4 hu (by kernel_rfl) (show DataW.trod enc Try.prog w base (fun _ => true) held fuel 41 [v0, v1, v2, v3] = _ from hf)
    obtain ⟨k0, e0, _, q0⟩ := DataW.trod_int Try.underlying5 t0
    obtain ⟨k1, e1, _, q1⟩ := DataW.trod_int Try.underlying5 t1
    obtain ⟨k2, e2, _, q2⟩ := DataW.trod_int Try.underlying5 t2
    obtain ⟨k3, e3, _, q3⟩ := DataW.trod_int Try.underlying5 t3
    injection e0 with e0
    injection e1 with e1
    injection e2 with e2
    injection e3 with e3
    subst e0 e1 e2 e3
    refine ⟨fun i => if i = 0 then k0 else if i = 1 then k1 else if i = 2 then k2 else k3, rfl, fun i hi => ?_⟩
    have g0 := u8_wf q0
    have g1 := u8_wf q1
    have g2 := u8_wf q2
    have g3 := u8_wf q3
    dsimp only
    split
    · exact g0
    · split
      · exact g1
      · split
        · exact g2
        · exact g3
end
end Go.Proofs.Ytokkdeoimhibpaa
