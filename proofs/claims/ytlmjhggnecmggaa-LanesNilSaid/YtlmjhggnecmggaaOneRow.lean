/- Rows of one element. (Written by mknil.py.) -/
import Derived.Test.YtlmjhggnecmggaaLive
import Derived.OpenShut
import Derived.LoopN
namespace Go.Proofs.Ytlmjhggnecmggaa
open Go Go.RowKit Go.OpenShut
set_option linter.unusedVariables false
set_option linter.unusedSimpArgs false

/-- An owned row of one element. -/
theorem own_one {w : World} {base : Nat} {v : Value} {x : Int} {S : Nat → Prop} (h : w.ownsRow base 3 1 v 1 [.int .i64 x]) (hS : ∀ i, base ≤ i → S i → False) :
    ∃ g cp, v = .slice (some ⟨g, 0, none⟩) 1 cp ∧ base ≤ g ∧ g < w.heap.size ∧ w.cell? ⟨g, 0, none⟩ = some (.int .i64 x) ∧ w.frozen? ⟨g, 0, none⟩ = false ∧ base ≤ g ∧ ¬ S g := by
  have h0 := h
  rcases h.2 with ⟨_, h1⟩ | ⟨g, cp, cur, rfl, hb, hg, _⟩
  · omega
  · exact ⟨g, cp, rfl, hb, Blk.lt hg, (h0.cellAt 0 (by omega)).trans rfl, h0.frozenAt 0, hb, fun hs => hS g hb hs⟩
theorem ints_one {w : World} {g : Nat} {x : Int} (h : w.cell? ⟨g, 0, none⟩ = some (.int .i64 x)) : IntsAt w (fun _ => False) (some ⟨g, 0, none⟩) [x] := fun _ =>
  ⟨g, 0, rfl, fun h => h, cell_lt h, fun j hj => by
    have : j = 0 := by simpa using hj
    subst this
    simpa using h⟩
end Go.Proofs.Ytlmjhggnecmggaa
