/-
  No cell of these rows narrows 'for every input' (looked for: loops, veiled, ifaces, maps, wideKeys, modest, calm, conditions, laid).
  DERIVED. THE GIVEN ROWS OF THIS SEAT. 6 by the template 'for every input the law returns true; each argument reads behind the call as it read before'; 0 by the template 'total and deterministic' (their statements: YtianiiijaopdpaaGreatTotals.lean).
  GIVEN WITH THE SEED: the statements are not yours to turn. If you find one false, say at which input.
  Laid BY PROGRAM, IN A SANDBOX (cutbox-rows.mjs): the forced cells as the released guide's own fill.sh prints them over the translation f5df378779e21ab8… (all of the seat's roots in one cut). By AI agents, Wed Nov 11 2026. No macro, syntax, notation, axiom, sorry.
-/
import Derived.Test.YtianiiijaopdpaaGreatChecked
import GoSem.Claim
import GoSem.ClaimJoined
import GoSem.ClaimMapViews
import Derived.JoinedTies
import Derived.KernelRfl
namespace Go.Proofs.YtianiiijaopdpaaGreat
/- THE CELL 'sum', in the pinned program and in every row, IS THE sha256 OF THE DUMP (.gsa) THAT YtianiiijaopdpaaGreatProg.lean LOADS. Nothing in Lean hashes anything: it is a label: what it is worth is what the hold of that sum in a sandbox is worth. -/
noncomputable def Tryz.pinned : Pinned := { name := "ytianiiijaopdpaagreat", sum := "f5df378779e21ab8242ed0d7d88fb3177bed6454c81e7ac83832177bfc9b5a98", checked := Tryz.checked }
namespace Rows
def none {H : Type} : Left H := { results := [], args := [] }

/-- 'egresslaw22.EngineMatches': WHATEVER THE INPUT: true; the input reads as it did. -/
def engineMatchesSpec : ChangeSpec := { name := "engineMatches", fn := fun _ => fun
  | [d1, d2] => { results := [.lit (.bool true)], args := [d1, d2] }
  | _ => none }
def engineMatchesRow : OpenClaim := { program := "ytianiiijaopdpaagreat", sum := "f5df378779e21ab8242ed0d7d88fb3177bed6454c81e7ac83832177bfc9b5a98", func := "egress/egresslaw22.EngineMatches", spec := "engineMatches", inPlace := ["math/bits.Add64"], unfollowed := true, recurses := true, named := ["math/bits.divideError", "math/bits.overflowError"], plainKeys := false, apart := false }
def EngineMatchesSaid : Prop := engineMatchesRow.holds Tryz.pinned (OpenSpec.ofChange engineMatchesSpec)

/-- ITS FALSE NEIGHBOUR: 'it returns false'. Refute it at one input. -/
def engineMatchesWrong : ChangeSpec := { name := "engineMatches", fn := fun _ => fun
  | [d1, d2] => { results := [.lit (.bool false)], args := [d1, d2] }
  | _ => none }
def EngineMatchesWrongFalsely : Prop := engineMatchesRow.holds Tryz.pinned (OpenSpec.ofChange engineMatchesWrong)

/-- 'egresslaw22.EngineRejects': WHATEVER THE INPUT: true; the input reads as it did. -/
def engineRejectsSpec : ChangeSpec := { name := "engineRejects", fn := fun _ => fun
  | [d1, d2] => { results := [.lit (.bool true)], args := [d1, d2] }
  | _ => none }
def engineRejectsRow : OpenClaim := { program := "ytianiiijaopdpaagreat", sum := "f5df378779e21ab8242ed0d7d88fb3177bed6454c81e7ac83832177bfc9b5a98", func := "egress/egresslaw22.EngineRejects", spec := "engineRejects", inPlace := ["math/bits.Add64"], unfollowed := true, recurses := true, named := ["math/bits.divideError", "math/bits.overflowError"], plainKeys := false, apart := false }
def EngineRejectsSaid : Prop := engineRejectsRow.holds Tryz.pinned (OpenSpec.ofChange engineRejectsSpec)

/-- ITS FALSE NEIGHBOUR: 'it returns false'. Refute it at one input. -/
def engineRejectsWrong : ChangeSpec := { name := "engineRejects", fn := fun _ => fun
  | [d1, d2] => { results := [.lit (.bool false)], args := [d1, d2] }
  | _ => none }
def EngineRejectsWrongFalsely : Prop := engineRejectsRow.holds Tryz.pinned (OpenSpec.ofChange engineRejectsWrong)

/-- 'egresslaw22.EngineConserves': WHATEVER THE INPUT: true; the input reads as it did. -/
def engineConservesSpec : ChangeSpec := { name := "engineConserves", fn := fun _ => fun
  | [d1, d2] => { results := [.lit (.bool true)], args := [d1, d2] }
  | _ => none }
def engineConservesRow : OpenClaim := { program := "ytianiiijaopdpaagreat", sum := "f5df378779e21ab8242ed0d7d88fb3177bed6454c81e7ac83832177bfc9b5a98", func := "egress/egresslaw22.EngineConserves", spec := "engineConserves", inPlace := ["math/bits.Add64"], unfollowed := true, recurses := true, named := ["math/bits.divideError", "math/bits.overflowError"], plainKeys := false, apart := false }
def EngineConservesSaid : Prop := engineConservesRow.holds Tryz.pinned (OpenSpec.ofChange engineConservesSpec)

/-- ITS FALSE NEIGHBOUR: 'it returns false'. Refute it at one input. -/
def engineConservesWrong : ChangeSpec := { name := "engineConserves", fn := fun _ => fun
  | [d1, d2] => { results := [.lit (.bool false)], args := [d1, d2] }
  | _ => none }
def EngineConservesWrongFalsely : Prop := engineConservesRow.holds Tryz.pinned (OpenSpec.ofChange engineConservesWrong)

/-- 'egresslaw22.EngineBudgets': WHATEVER THE INPUT: true; the input reads as it did. -/
def engineBudgetsSpec : ChangeSpec := { name := "engineBudgets", fn := fun _ => fun
  | [d1, d2] => { results := [.lit (.bool true)], args := [d1, d2] }
  | _ => none }
def engineBudgetsRow : OpenClaim := { program := "ytianiiijaopdpaagreat", sum := "f5df378779e21ab8242ed0d7d88fb3177bed6454c81e7ac83832177bfc9b5a98", func := "egress/egresslaw22.EngineBudgets", spec := "engineBudgets", inPlace := ["math/bits.Add64"], unfollowed := true, recurses := true, named := ["math/bits.divideError", "math/bits.overflowError"], plainKeys := false, apart := false }
def EngineBudgetsSaid : Prop := engineBudgetsRow.holds Tryz.pinned (OpenSpec.ofChange engineBudgetsSpec)

/-- ITS FALSE NEIGHBOUR: 'it returns false'. Refute it at one input. -/
def engineBudgetsWrong : ChangeSpec := { name := "engineBudgets", fn := fun _ => fun
  | [d1, d2] => { results := [.lit (.bool false)], args := [d1, d2] }
  | _ => none }
def EngineBudgetsWrongFalsely : Prop := engineBudgetsRow.holds Tryz.pinned (OpenSpec.ofChange engineBudgetsWrong)

/-- 'egresslaw22.EngineParts': WHATEVER THE INPUT: true; the input reads as it did. -/
def enginePartsSpec : ChangeSpec := { name := "engineParts", fn := fun _ => fun
  | [d1, d2, d3] => { results := [.lit (.bool true)], args := [d1, d2, d3] }
  | _ => none }
def enginePartsRow : OpenClaim := { program := "ytianiiijaopdpaagreat", sum := "f5df378779e21ab8242ed0d7d88fb3177bed6454c81e7ac83832177bfc9b5a98", func := "egress/egresslaw22.EngineParts", spec := "engineParts", inPlace := ["math/bits.Add64"], unfollowed := true, recurses := true, named := ["math/bits.divideError", "math/bits.overflowError"], plainKeys := false, apart := false }
def EnginePartsSaid : Prop := enginePartsRow.holds Tryz.pinned (OpenSpec.ofChange enginePartsSpec)

/-- ITS FALSE NEIGHBOUR: 'it returns false'. Refute it at one input. -/
def enginePartsWrong : ChangeSpec := { name := "engineParts", fn := fun _ => fun
  | [d1, d2, d3] => { results := [.lit (.bool false)], args := [d1, d2, d3] }
  | _ => none }
def EnginePartsWrongFalsely : Prop := enginePartsRow.holds Tryz.pinned (OpenSpec.ofChange enginePartsWrong)

/-- 'egresslaw22.EngineKeeps': WHATEVER THE INPUT: true; the input reads as it did. -/
def engineKeepsSpec : ChangeSpec := { name := "engineKeeps", fn := fun _ => fun
  | [d1, d2, d3] => { results := [.lit (.bool true)], args := [d1, d2, d3] }
  | _ => none }
def engineKeepsRow : OpenClaim := { program := "ytianiiijaopdpaagreat", sum := "f5df378779e21ab8242ed0d7d88fb3177bed6454c81e7ac83832177bfc9b5a98", func := "egress/egresslaw22.EngineKeeps", spec := "engineKeeps", inPlace := ["math/bits.Add64"], unfollowed := true, recurses := true, named := ["math/bits.divideError", "math/bits.overflowError"], plainKeys := false, apart := false }
def EngineKeepsSaid : Prop := engineKeepsRow.holds Tryz.pinned (OpenSpec.ofChange engineKeepsSpec)

/-- ITS FALSE NEIGHBOUR: 'it returns false'. Refute it at one input. -/
def engineKeepsWrong : ChangeSpec := { name := "engineKeeps", fn := fun _ => fun
  | [d1, d2, d3] => { results := [.lit (.bool false)], args := [d1, d2, d3] }
  | _ => none }
def EngineKeepsWrongFalsely : Prop := engineKeepsRow.holds Tryz.pinned (OpenSpec.ofChange engineKeepsWrong)

/- THE SECOND FORM. 'bulk': how many values and letters a reading holds, each counted each time it is reached (what is shared counts as often as it is met; a slice's spare places count too). A statement '..UptoSaid' is the law's where the arguments, and the package variables that the reading takes, are together of bulk at most 1048576: NARROWER than '..Said'. Prove '..Said' where nothing that the law and all that it calls make is longer than what came in: it says more and counts as full. Else prove '..UptoSaid'. A law counts once. -/
mutual
def uptoBulk {H : Type} : DataW H → Nat
  | .lit (.string bytes) => bytes.length + 1
  | .lit _ => 1
  | .nil => 1
  | .ptr d => uptoBulk d + 1
  | .slice elems spare => uptoBulkAll elems + uptoBulkAll spare + 1
  | .agg parts => uptoBulkAll parts + 1
  | .iface _ d => uptoBulk d + 1
  | .map entries => uptoBulkEntries entries + 1
  | .held _ => 1
def uptoBulkAll {H : Type} : List (DataW H) → Nat
  | [] => 0
  | d :: r => uptoBulk d + uptoBulkAll r
def uptoBulkEntries {H : Type} : List (Lit × DataW H) → Nat
  | [] => 0
  | x :: r => uptoBulkEntry x + uptoBulkEntries r
def uptoBulkEntry {H : Type} : Lit × DataW H → Nat
  | (.string bytes, d) => bytes.length + uptoBulk d + 1
  | (_, d) => uptoBulk d + 1
 end
def uptoSmall : (H : Type) → List (DataW H) → Bool := fun _ ds => decide (uptoBulkAll ds ≤ 1048576)
def OpenSpec.upto (s : _root_.Go.ChangeSpec) : _root_.Go.OpenSpec := { _root_.Go.OpenSpec.ofChange s with cond := some uptoSmall }

/-- 'egresslaw22.EngineMatches', WHERE WHAT IT READS IS OF BULK AT MOST 1048576: true; the input reads as it did. -/
def engineMatchesUptoRow : OpenClaim := { program := "ytianiiijaopdpaagreat", sum := "f5df378779e21ab8242ed0d7d88fb3177bed6454c81e7ac83832177bfc9b5a98", func := "egress/egresslaw22.EngineMatches", spec := "engineMatches", inPlace := ["math/bits.Add64"], unfollowed := true, recurses := true, named := ["math/bits.divideError", "math/bits.overflowError"], plainKeys := false, apart := false, narrowed := true }
def EngineMatchesUptoSaid : Prop := engineMatchesUptoRow.holds Tryz.pinned (OpenSpec.upto engineMatchesSpec)

/-- 'egresslaw22.EngineRejects', WHERE WHAT IT READS IS OF BULK AT MOST 1048576: true; the input reads as it did. -/
def engineRejectsUptoRow : OpenClaim := { program := "ytianiiijaopdpaagreat", sum := "f5df378779e21ab8242ed0d7d88fb3177bed6454c81e7ac83832177bfc9b5a98", func := "egress/egresslaw22.EngineRejects", spec := "engineRejects", inPlace := ["math/bits.Add64"], unfollowed := true, recurses := true, named := ["math/bits.divideError", "math/bits.overflowError"], plainKeys := false, apart := false, narrowed := true }
def EngineRejectsUptoSaid : Prop := engineRejectsUptoRow.holds Tryz.pinned (OpenSpec.upto engineRejectsSpec)

/-- 'egresslaw22.EngineConserves', WHERE WHAT IT READS IS OF BULK AT MOST 1048576: true; the input reads as it did. -/
def engineConservesUptoRow : OpenClaim := { program := "ytianiiijaopdpaagreat", sum := "f5df378779e21ab8242ed0d7d88fb3177bed6454c81e7ac83832177bfc9b5a98", func := "egress/egresslaw22.EngineConserves", spec := "engineConserves", inPlace := ["math/bits.Add64"], unfollowed := true, recurses := true, named := ["math/bits.divideError", "math/bits.overflowError"], plainKeys := false, apart := false, narrowed := true }
def EngineConservesUptoSaid : Prop := engineConservesUptoRow.holds Tryz.pinned (OpenSpec.upto engineConservesSpec)

/-- 'egresslaw22.EngineBudgets', WHERE WHAT IT READS IS OF BULK AT MOST 1048576: true; the input reads as it did. -/
def engineBudgetsUptoRow : OpenClaim := { program := "ytianiiijaopdpaagreat", sum := "f5df378779e21ab8242ed0d7d88fb3177bed6454c81e7ac83832177bfc9b5a98", func := "egress/egresslaw22.EngineBudgets", spec := "engineBudgets", inPlace := ["math/bits.Add64"], unfollowed := true, recurses := true, named := ["math/bits.divideError", "math/bits.overflowError"], plainKeys := false, apart := false, narrowed := true }
def EngineBudgetsUptoSaid : Prop := engineBudgetsUptoRow.holds Tryz.pinned (OpenSpec.upto engineBudgetsSpec)

/-- 'egresslaw22.EngineParts', WHERE WHAT IT READS IS OF BULK AT MOST 1048576: true; the input reads as it did. -/
def enginePartsUptoRow : OpenClaim := { program := "ytianiiijaopdpaagreat", sum := "f5df378779e21ab8242ed0d7d88fb3177bed6454c81e7ac83832177bfc9b5a98", func := "egress/egresslaw22.EngineParts", spec := "engineParts", inPlace := ["math/bits.Add64"], unfollowed := true, recurses := true, named := ["math/bits.divideError", "math/bits.overflowError"], plainKeys := false, apart := false, narrowed := true }
def EnginePartsUptoSaid : Prop := enginePartsUptoRow.holds Tryz.pinned (OpenSpec.upto enginePartsSpec)

/-- 'egresslaw22.EngineKeeps', WHERE WHAT IT READS IS OF BULK AT MOST 1048576: true; the input reads as it did. -/
def engineKeepsUptoRow : OpenClaim := { program := "ytianiiijaopdpaagreat", sum := "f5df378779e21ab8242ed0d7d88fb3177bed6454c81e7ac83832177bfc9b5a98", func := "egress/egresslaw22.EngineKeeps", spec := "engineKeeps", inPlace := ["math/bits.Add64"], unfollowed := true, recurses := true, named := ["math/bits.divideError", "math/bits.overflowError"], plainKeys := false, apart := false, narrowed := true }
def EngineKeepsUptoSaid : Prop := engineKeepsUptoRow.holds Tryz.pinned (OpenSpec.upto engineKeepsSpec)

end Rows
end Go.Proofs.YtianiiijaopdpaaGreat
