/- Two amounts of 32 bits as an argument. -/
import Derived.Test.YtbieokgdjhkebaaTwo
import Derived.Laws.IdiomArrays
namespace Go.Proofs.Ytbieokgdjhkebaa
open Go Go.ChangeShapes Go.WideShapes Go.RowKit Go.Deep
set_option linter.unusedVariables false
set_option linter.unusedSimpArgs false
set_option maxRecDepth 100000

def cellsA (p : Int × Int) : Array Value := #[.int .u32 p.1, .int .u32 p.2]
def FitsA (p : Int × Int) : Prop := (Lit.int .u32 p.1).wf = true ∧ (Lit.int .u32 p.2).wf = true
theorem bounds_u32 {n : Int} (h : (Lit.int .u32 n).wf = true) : 0 ≤ n ∧ n ≤ 4294967295 := by
  simp [Lit.wf, IntKind.min, IntKind.max, IntKind.signed, IntKind.bits] at h
  omega
section
variable {H : Type} {enc : TypeId × Value → H} {w : World} {base : Nat} {spare : Nat → Bool} {held : Bool}
theorem trod_two {P : Program} {t e : TypeId} {fuel : Nat} {u v : Value} {x : DataW H × List MemPlace} (ht : P.underlying t = some (.array 2 e)) (hce : P.cellsOf e = 1)
    (h : DataW.trod enc P w base spare held fuel t [u, v] = some x) :
    ∃ n y z, DataW.trod enc P w base spare held n e [u] = some y ∧ DataW.trod enc P w base spare held n e [v] = some z := by
  rcases fuel with _ | n
  · simp [DataW.trod] at h
  · unfold DataW.trod at h
    rw [ht] at h
    have hr : List.range 2 = [0, 1] := rfl
    simp [hr, hce] at h
    obtain ⟨_, h⟩ := h
    cases h0 : DataW.trod enc P w base spare held n e [u] with
    | none => simp [h0] at h
    | some y =>
      cases h1 : DataW.trod enc P w base spare held n e [v] with
      | none => simp [h0, h1] at h
      | some z => exact ⟨n, y, z, h0, h1⟩
theorem open_T54 {r : Reach} {b0 : Nat} {v : Value} {d : DataW H} {p : List MemPlace} (hv : Value.okWide Try.prog w r b0 54 v) (h : DataW.Trod enc Try.prog w base (fun _ => true) held 54 v d p) : ∃ c : Int × Int, v = .agg (cellsA c) ∧ FitsA c := by
  have hu := Try.underlying54
  simp only [Value.okWide, hu] at hv
  obtain ⟨cs, rfl, hsz, _⟩ := hv
  have h4 : Try.prog.cellsOf 54 = 2 := by kernel_rfl
  rw [h4] at hsz
  obtain ⟨l⟩ := cs
  obtain ⟨fuel, hf⟩ := h
  have hl : l.length = 2 := by simpa using hsz
  match l, hl with
  | [v0, v1], _ =>
    obtain ⟨m, y0, y1, t0, t1⟩ := trod_two Try.underlying54 (by kernel_rfl) (show DataW.trod enc Try.prog w base (fun _ => true) held fuel 54 [v0, v1] = _ from hf)
    obtain ⟨k0, e0, _, q0⟩ := DataW.trod_int Try.underlying53 t0
    obtain ⟨k1, e1, _, q1⟩ := DataW.trod_int Try.underlying53 t1
    injection e0 with e0
    injection e1 with e1
    subst e0 e1
    exact ⟨(k0, k1), rfl, q0, q1⟩
end
end Go.Proofs.Ytbieokgdjhkebaa
