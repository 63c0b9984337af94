/- A struct, a number and a bool as results; decS by cases. -/
import Derived.Test.YtniehmlklbggdaaDoorInv
import Derived.Test.YtniehmlklbggdaaDoorStructs
namespace Go.Proofs.YtniehmlklbggdaaDoor
open Go Go.RowKit
set_option linter.unusedVariables false
set_option linter.unusedSimpArgs false

theorem results_cell_tmp3 {fn : Func} {p u v : Tmp} {ty : TypeId} (h : fn.results = #[.cell p ty, .tmp u, .tmp v]) (tmps : Array Value) (P : Program) (w : World) :
    (results fn tmps).run P w = ((asAddr (tmps.getD p undef)).run P w).andThen fun a w₁ => ((loadVar ty a).run P w₁).andThen fun x w₂ => .ok (.tuple #[x, tmps.getD u undef, tmps.getD v undef]) w₂ := by
  simp only [results, h]
  simp [Sem.run_bind, Result.andThen]
theorem results_cell_row3 {P : Program} {fn : Func} {p u v : Tmp} {ty : TypeId} (h : fn.results = #[.cell p ty, .tmp u, .tmp v]) (tmps : Array Value) (w : World) (g : Nat) (t : TypeId) (cs : Array Value) (fr : Nat × Nat) (d : TypeDesc)
    (hp : tmps.getD p undef = .pointer (some ⟨g, 0, none⟩)) (hg : w.heap[g]? = some (.cells cs t fr))
    (hu : P.underlying ty = some d) (hd : (match d with | .struct _ | .array _ _ => true | _ => false) = true) (hi : (P.info? ty).map (·.size) = some cs.size) :
    (results fn tmps).run P w = .ok (.tuple #[.agg cs, tmps.getD u undef, tmps.getD v undef]) w := by
  rw [results_cell_tmp3 h, hp]
  simp [asAddr, run_loadVar_row w g t ty cs fr d hg hu hd hi, Result.andThen]
theorem decS_none {L : List Int} {a : Nat} (h : ods (L.getD a 0) = none) : decS L a = (oqZ, (a : Int) + 1) := by
  unfold decS
  rw [h]
theorem decS_some {L : List Int} {a : Nat} {l : List Od} (h : ods (L.getD a 0) = some l) (h2 : szs l + 1 ≤ L.length - a) : decS L a = (fillF l (L.drop (a + 1)) ⟨L.getD a 0, 0, 0, 0⟩, ((a + (szs l + 1) : Nat) : Int)) := by
  unfold decS
  rw [h]
  exact if_pos h2
theorem decS_short {L : List Int} {a : Nat} {l : List Od} (h : ods (L.getD a 0) = some l) (h2 : ¬ szs l + 1 ≤ L.length - a) : decS L a = (oqZ, (L.length : Int)) := by
  unfold decS
  rw [h]
  exact if_neg h2
end Go.Proofs.YtniehmlklbggdaaDoor
