/- An array of two amounts that came in, by value. -/
import Derived.Test.YthhfpkhmhhcaiaaSplit
import Derived.Laws.IdiomArrays
import Derived.ChangeSlices
import Derived.ChangeArms
import Derived.WideShapes
namespace Go.Proofs.Ythhfpkhmhhcaiaa
open Go Go.ChangeShapes Go.WideShapes Go.RowKit
set_option linter.unusedVariables false

/-- The two amounts. -/
def cellsD (c : Nat → Int) : Array Value := #[.int .u64 (c 0), .int .u64 (c 1)]
def FitsD (c : Nat → Int) : Prop := ∀ i, i < 2 → 0 ≤ c i ∧ c i ≤ 18446744073709551615
section
variable {H : Type} {enc : TypeId × Value → H} {w : World} {base : Nat} {held : Bool}
theorem trod_two {P : Program} {spare : Nat → Bool} {t e : TypeId} {fuel : Nat} {u v : Value} {x : DataW H × List MemPlace} (ht : P.underlying t = some (.array 2 e)) (hce : P.cellsOf e = 1)
    (h : DataW.trod enc P w base spare held fuel t [u, v] = some x) :
    ∃ n y z, DataW.trod enc P w base spare held n e [u] = some y ∧ DataW.trod enc P w base spare held n e [v] = some z := by
  rcases fuel with _ | n
  · simp [DataW.trod] at h
  · unfold DataW.trod at h
    rw [ht] at h
    have hr : List.range 2 = [0, 1] := rfl
    simp [hr, hce] at h
    obtain ⟨_, h⟩ := h
    cases h0 : DataW.trod enc P w base spare held n e [u] with
    | none => simp [h0] at h
    | some y =>
      cases h1 : DataW.trod enc P w base spare held n e [v] with
      | none => simp [h0, h1] at h
      | some z => exact ⟨n, y, z, h0, h1⟩
theorem open_T26 {r : Reach} {b0 : Nat} {v : Value} {d : DataW H} {p : List MemPlace} (hv : Value.okWide Try.prog w r b0 26 v) (h : DataW.Trod enc Try.prog w base (fun _ => true) held 26 v d p) : ∃ c : Nat → Int, v = .agg (cellsD c) ∧ FitsD c := by
  have hu := Try.underlying26
  simp only [Value.okWide, hu] at hv
  obtain ⟨cs, rfl, hsz, _⟩ := hv
  have h4 : Try.prog.cellsOf 26 = 2 := by kernel_rfl
  rw [h4] at hsz
  obtain ⟨l⟩ := cs
  have hl : l.length = 2 := by simpa using hsz
  obtain ⟨fuel, hf⟩ := h
  match l, hl with
  | [v0, v1], _ =>
    obtain ⟨m, y0, y1, t0, t1⟩ := trod_two hu (by kernel_rfl) (show DataW.trod enc Try.prog w base (fun _ => true) held fuel 26 [v0, v1] = _ from hf)
    obtain ⟨k0, e0, _, q0⟩ := DataW.trod_int Try.underlying22 t0
    obtain ⟨k1, e1, _, q1⟩ := DataW.trod_int Try.underlying22 t1
    injection e0 with e0
    injection e1 with e1
    subst e0 e1
    refine ⟨fun i => if i = 0 then k0 else k1, rfl, fun i hi => ?_⟩
    have g0 := u64_of q0
    have g1 := u64_of q1
    dsimp only
    split
    · exact g0
    · exact g1
end
end Go.Proofs.Ythhfpkhmhhcaiaa
