/- A package variable that is an array of strings: its cells out of what the row lists. No program in sight. -/
import Derived.Test.YtjbbcnepeffiaaaDoorWords
import Derived.LaidMore
import Derived.Stop.Joined
import Derived.Lib.LaidTab
namespace Go.Proofs.YtjbbcnepeffiaaaDoor
open Go Go.RowKit Go.ChangeShapes Go.WideShapes

/-- The variable holds just these strings. -/
def StrsAt (P : Program) (w : World) (name : String) (ss : List ByteArray) : Prop := w.var? P name = some (ss.map Value.string).toArray
theorem cells_of_strs {H : Type} {enc : TypeId × Value → H} {P : Program} {w : World} {base : Nat} {sp : Nat → Bool} {held : Bool} {fuel : Nat} {t e : TypeId} {n : Nat} {cs : List Value} {ss : List ByteArray} {p : List MemPlace}
    (ht : P.underlying t = some (.array n e)) (he : P.underlying e = some .string) (hce : P.cellsOf e = 1) (hct : P.cellsOf t = n)
    (h : DataW.trod enc P w base sp held fuel t cs = some (.agg (ss.map fun s => .lit (.string s.data.toList)), p)) : cs = ss.map Value.string := by
  obtain ⟨xs, m, _, hx, hl, hxl, hi⟩ := DataW.trod_array ht h
  rw [hct] at hl
  simp only [hce, Nat.mul_one] at hi
  have hxs : xs.map (·.1) = ss.map fun s => (DataW.lit (.string s.data.toList) : DataW H) := by
    have := congrArg Prod.fst hx
    simpa using this.symm
  have hsl : ss.length = n := by
    have := congrArg List.length hxs
    simp at this
    omega
  refine List.ext_getElem? fun i => ?_
  by_cases hin : i < n
  · obtain ⟨s, hc, hy, _⟩ := DataW.trod_string he ((hi i hin).trans (List.getElem?_eq_getElem (by omega)))
    have h1 : cs[i]? = some (.string s) := by
      have := congrArg (·[0]?) hc
      simpa [List.getElem?_take, List.getElem?_drop] using this
    have h2 : (xs.map (·.1))[i]? = some (DataW.lit (.string s.data.toList) : DataW H) := by
      rw [List.getElem?_map, List.getElem?_eq_getElem (by omega), hy]
      rfl
    rw [hxs] at h2
    simp only [List.getElem?_map, Option.map_eq_some_iff, DataW.lit.injEq, Lit.string.injEq] at h2
    obtain ⟨s', hs', hd⟩ := h2
    have : s' = s := by
      cases s'; cases s
      simp only [Array.toList_inj] at hd
      subst hd
      rfl
    subst this
    simp [h1, hs']
  · rw [List.getElem?_eq_none (by omega), List.getElem?_eq_none (by simp; omega)]
theorem strsAt_of_head {P : Program} {W : World} {name : String} {ss : List ByteArray} {rest : List (String × DataW Unit)} {g : Nat} {t e : TypeId} {n : Nat}
    (hg : P.globalNamed name = some g) (hty : (P.globals[g]?).map (·.type) = some t) (ht : P.underlying t = some (.array n e)) (he : P.underlying e = some .string) (hce : P.cellsOf e = 1) (hct : P.cellsOf t = n)
    (h : laidMet P ((name, .agg (ss.map fun s => .lit (.string s.data.toList))) :: rest) W) : StrsAt P W name ss := by
  obtain ⟨ps, ⟨g', t', cs, fuel, p, q, hg', ht', hvar, hd, _, _⟩, _⟩ := h
  obtain rfl := Option.some.inj (hg.symm.trans hg')
  obtain rfl := Option.some.inj (hty.symm.trans ht')
  unfold StrsAt
  rw [hvar, ← cells_of_strs ht he hce hct hd]
theorem StrsAt.row {P : Program} {W : World} {name : String} {ss : List ByteArray} {g : Nat} (h : StrsAt P W name ss) (hg : P.globalNamed name = some g) : ∃ t fr, W.heap[g]? = some (.cells (ss.map Value.string).toArray t fr) := by
  unfold StrsAt World.var? at h
  rw [hg] at h
  simp only [Option.bind_some] at h
  split at h
  · rename_i cs t fr hh
    injection h with h
    subst h
    exact ⟨t, fr, hh⟩
  · cases h
end Go.Proofs.YtjbbcnepeffiaaaDoor
