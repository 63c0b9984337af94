/- An array of three numbers of 16 bits that came in, by value. -/
import Derived.Test.YtfcjgllljejfcaaWords
import Derived.Laws.IdiomArrays
import Derived.ChangeSlices
import Derived.ChangeArms
import Derived.WideShapes
namespace Go.Proofs.Ytfcjgllljejfcaa
open Go Go.ChangeShapes Go.WideShapes Go.RowKit
set_option linter.unusedVariables false

/-- The three numbers. -/
def cellsH (c : Nat → Int) : Array Value := #[.int .u16 (c 0), .int .u16 (c 1), .int .u16 (c 2)]
def FitsH (c : Nat → Int) : Prop := ∀ i, i < 3 → 0 ≤ c i ∧ c i ≤ 65535
theorem u16_wf {x : Int} (h : (Lit.int .u16 x).wf = true) : 0 ≤ x ∧ x ≤ 65535 := by
  simp [Lit.wf, IntKind.min, IntKind.max, IntKind.signed, IntKind.bits] at h
  omega
section
variable {H : Type} {enc : TypeId × Value → H} {w : World} {base : Nat} {held : Bool}
theorem open_T48 {r : Reach} {b0 : Nat} {v : Value} {d : DataW H} {p : List MemPlace} (hv : Value.okWide Try.prog w r b0 48 v) (h : DataW.Trod enc Try.prog w base (fun _ => true) held 48 v d p) : ∃ c : Nat → Int, v = .agg (cellsH c) ∧ FitsH c := by
  have hu := Try.underlying48
  simp only [Value.okWide, hu] at hv
  obtain ⟨cs, rfl, hsz, _⟩ := hv
  have h3 : Try.prog.cellsOf 48 = 3 := by kernel_rfl
  rw [h3] at hsz
  obtain ⟨l⟩ := cs
  have hl : l.length = 3 := by simpa using hsz
  obtain ⟨fuel, hf⟩ := h
  match l, hl with
  | [v0, v1, v2], _ =>
    obtain ⟨y0, y1, y2, m, _, t0, t1, t2⟩ := trod_array3 hu (by kernel_rfl) (show DataW.trod enc Try.prog w base (fun _ => true) held fuel 48 [v0, v1, v2] = _ from hf)
    obtain ⟨k0, e0, _, q0⟩ := DataW.trod_int Try.underlying47 t0
    obtain ⟨k1, e1, _, q1⟩ := DataW.trod_int Try.underlying47 t1
    obtain ⟨k2, e2, _, q2⟩ := DataW.trod_int Try.underlying47 t2
    injection e0 with e0
    injection e1 with e1
    injection e2 with e2
    subst e0 e1 e2
    refine ⟨fun i => if i = 0 then k0 else if i = 1 then k1 else k2, rfl, fun i hi => ?_⟩
    have g0 := u16_wf q0
    have g1 := u16_wf q1
    have g2 := u16_wf q2
    dsimp only
    split
    · exact g0
    · split
      · exact g1
      · exact g2
end
end Go.Proofs.Ytfcjgllljejfcaa
