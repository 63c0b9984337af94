/-
  DERIVED. GIVEN WITH THE SEED: THE CARDS: each row of YtfepfcalfhegfaaDoorRows.lean that lists a variable, with what it lists TIED to the program's text (the seventh form; the later family's looks); each row that meets fmt, with fmt's text TOLD by the authors' own Lean function (tested against real Go, not proved from fmt's source: count such statements apart). THE CARD IS WHAT COUNTS. Prove the row's statement (the work); the ties are given (YtfepfcalfhegfaaDoorTie.lean); close each card by the builder's one call (the guide's Derived/Test/ToyasCard.lean, 'card_holds'). Laid BY PROGRAM, IN A SANDBOX (cutbox-door.mjs). By AI agents, Wed Nov 11 2026. No macro, syntax, notation, axiom, sorry.
-/
import Derived.Test.YtfepfcalfhegfaaDoorRows
import GoSem.ClaimSeven
namespace Go.Proofs.YtfepfcalfhegfaaDoor
namespace Rows

/-- THE TIED CARD OF 'egresslaw19.OpEncodes'. -/
def opEncodesCard : Claim7 := { stood := { row := opEncodesRow, standIns := [], harness := (true, "6f7d3b6eec26091f86a36cf881800975ba89c9363ebda5e3f12be8b0e3cd1699"), looks := false }, kinds := [], alts := [], laidByText := true, laidKinds := [.data], laidTests := true, laidLooks := .later }
def OpEncodesCardSaid : Prop := Claim7.holds Tryd.pinned (.plain (OpenSpec.ofChange opEncodesSpec)) opEncodesCard

/-- THE TIED CARD OF 'egresslaw19.OpDecodes'. -/
def opDecodesCard : Claim7 := { stood := { row := opDecodesRow, standIns := [], harness := (true, "6f7d3b6eec26091f86a36cf881800975ba89c9363ebda5e3f12be8b0e3cd1699"), looks := false }, kinds := [], alts := [], laidByText := true, laidKinds := [.data], laidTests := true, laidLooks := .later }
def OpDecodesCardSaid : Prop := Claim7.holds Tryd.pinned (.plain (OpenSpec.ofChange opDecodesSpec)) opDecodesCard

/-- THE TIED CARD OF 'egresslaw19.OpInverse'. -/
def opInverseCard : Claim7 := { stood := { row := opInverseRow, standIns := [], harness := (true, "6f7d3b6eec26091f86a36cf881800975ba89c9363ebda5e3f12be8b0e3cd1699"), looks := false }, kinds := [], alts := [], laidByText := true, laidKinds := [.data], laidTests := true, laidLooks := .later }
def OpInverseCardSaid : Prop := Claim7.holds Tryd.pinned (.plain (OpenSpec.ofChange opInverseSpec)) opInverseCard

/-- THE TIED CARD OF 'egresslaw19.OpValid'. -/
def opValidCard : Claim7 := { stood := { row := opValidRow, standIns := [], harness := (true, "6f7d3b6eec26091f86a36cf881800975ba89c9363ebda5e3f12be8b0e3cd1699"), looks := false }, kinds := [], alts := [], laidByText := true, laidKinds := [.data], laidTests := true, laidLooks := .later }
def OpValidCardSaid : Prop := Claim7.holds Tryd.pinned (.plain (OpenSpec.ofChange opValidSpec)) opValidCard

/-- THE TIED CARD OF 'egresslaw19.OpCuts'. -/
def opCutsCard : Claim7 := { stood := { row := opCutsRow, standIns := [], harness := (true, "6f7d3b6eec26091f86a36cf881800975ba89c9363ebda5e3f12be8b0e3cd1699"), looks := false }, kinds := [], alts := [], laidByText := true, laidKinds := [.data], laidTests := true, laidLooks := .later }
def OpCutsCardSaid : Prop := Claim7.holds Tryd.pinned (.plain (OpenSpec.ofChange opCutsSpec)) opCutsCard

/-- THE TIED CARD OF 'egresslaw19.OpNames'. -/
def opNamesCard : Claim7 := { stood := { row := opNamesRow, standIns := [], harness := (true, "6f7d3b6eec26091f86a36cf881800975ba89c9363ebda5e3f12be8b0e3cd1699"), looks := false }, kinds := [], alts := [], laidByText := true, laidKinds := [.data], laidTests := true, laidLooks := .later }
def OpNamesCardSaid : Prop := Claim7.holds Tryd.pinned (.plain (OpenSpec.ofChange opNamesSpec)) opNamesCard

/-- THE SECOND FORM's CARD OF 'egresslaw19.OpEncodes'. -/
def opEncodesUptoCard : Claim7 := { stood := { row := opEncodesUptoRow, standIns := [], harness := (true, "6f7d3b6eec26091f86a36cf881800975ba89c9363ebda5e3f12be8b0e3cd1699"), looks := false }, kinds := [], alts := [], laidByText := true, laidKinds := [.data], laidTests := true, laidLooks := .later }
def OpEncodesUptoCardSaid : Prop := Claim7.holds Tryd.pinned (.plain (OpenSpec.upto opEncodesSpec)) opEncodesUptoCard

/-- THE SECOND FORM's CARD OF 'egresslaw19.OpDecodes'. -/
def opDecodesUptoCard : Claim7 := { stood := { row := opDecodesUptoRow, standIns := [], harness := (true, "6f7d3b6eec26091f86a36cf881800975ba89c9363ebda5e3f12be8b0e3cd1699"), looks := false }, kinds := [], alts := [], laidByText := true, laidKinds := [.data], laidTests := true, laidLooks := .later }
def OpDecodesUptoCardSaid : Prop := Claim7.holds Tryd.pinned (.plain (OpenSpec.upto opDecodesSpec)) opDecodesUptoCard

/-- THE SECOND FORM's CARD OF 'egresslaw19.OpInverse'. -/
def opInverseUptoCard : Claim7 := { stood := { row := opInverseUptoRow, standIns := [], harness := (true, "6f7d3b6eec26091f86a36cf881800975ba89c9363ebda5e3f12be8b0e3cd1699"), looks := false }, kinds := [], alts := [], laidByText := true, laidKinds := [.data], laidTests := true, laidLooks := .later }
def OpInverseUptoCardSaid : Prop := Claim7.holds Tryd.pinned (.plain (OpenSpec.upto opInverseSpec)) opInverseUptoCard

/-- THE SECOND FORM's CARD OF 'egresslaw19.OpValid'. -/
def opValidUptoCard : Claim7 := { stood := { row := opValidUptoRow, standIns := [], harness := (true, "6f7d3b6eec26091f86a36cf881800975ba89c9363ebda5e3f12be8b0e3cd1699"), looks := false }, kinds := [], alts := [], laidByText := true, laidKinds := [.data], laidTests := true, laidLooks := .later }
def OpValidUptoCardSaid : Prop := Claim7.holds Tryd.pinned (.plain (OpenSpec.upto opValidSpec)) opValidUptoCard

/-- THE SECOND FORM's CARD OF 'egresslaw19.OpCuts'. -/
def opCutsUptoCard : Claim7 := { stood := { row := opCutsUptoRow, standIns := [], harness := (true, "6f7d3b6eec26091f86a36cf881800975ba89c9363ebda5e3f12be8b0e3cd1699"), looks := false }, kinds := [], alts := [], laidByText := true, laidKinds := [.data], laidTests := true, laidLooks := .later }
def OpCutsUptoCardSaid : Prop := Claim7.holds Tryd.pinned (.plain (OpenSpec.upto opCutsSpec)) opCutsUptoCard

/-- THE SECOND FORM's CARD OF 'egresslaw19.OpNames'. -/
def opNamesUptoCard : Claim7 := { stood := { row := opNamesUptoRow, standIns := [], harness := (true, "6f7d3b6eec26091f86a36cf881800975ba89c9363ebda5e3f12be8b0e3cd1699"), looks := false }, kinds := [], alts := [], laidByText := true, laidKinds := [.data], laidTests := true, laidLooks := .later }
def OpNamesUptoCardSaid : Prop := Claim7.holds Tryd.pinned (.plain (OpenSpec.upto opNamesSpec)) opNamesUptoCard
end Rows
end Go.Proofs.YtfepfcalfhegfaaDoor
