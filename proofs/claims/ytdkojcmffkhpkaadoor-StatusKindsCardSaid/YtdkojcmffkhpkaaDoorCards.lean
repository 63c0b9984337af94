/-
  DERIVED. GIVEN WITH THE SEED: THE CARDS: each row of YtdkojcmffkhpkaaDoorRows.lean that lists a variable, with what it lists TIED to the program's text (the seventh form; the later family's looks); each row that meets fmt, with fmt's text TOLD by the authors' own Lean function (tested against real Go, not proved from fmt's source: count such statements apart). THE CARD IS WHAT COUNTS. Prove the row's statement (the work); the ties are given (YtdkojcmffkhpkaaDoorTie.lean); close each card by the builder's one call (the guide's Derived/Test/ToyasCard.lean, 'card_holds'). Laid BY PROGRAM, IN A SANDBOX (cutbox-door.mjs). By AI agents, Wed Nov 11 2026. No macro, syntax, notation, axiom, sorry.
-/
import Derived.Test.YtdkojcmffkhpkaaDoorRows
import GoSem.ClaimSeven
namespace Go.Proofs.YtdkojcmffkhpkaaDoor
namespace Rows

/-- THE TIED CARD OF 'egresslaw05.StatusNext'. -/
def statusNextCard : Claim7 := { stood := { row := statusNextRow, standIns := [], harness := (true, "629be9496dced1c9eb7494ea37f576b47c401dd5538a0944005e0eb0e32eb7b4"), looks := false }, kinds := [], alts := [], laidByText := true, laidKinds := [.data], laidTests := true, laidLooks := .later }
def StatusNextCardSaid : Prop := Claim7.holds Tryd.pinned (.plain (OpenSpec.ofChange statusNextSpec)) statusNextCard

/-- THE TIED CARD OF 'egresslaw05.StatusRuns'. -/
def statusRunsCard : Claim7 := { stood := { row := statusRunsRow, standIns := [], harness := (true, "629be9496dced1c9eb7494ea37f576b47c401dd5538a0944005e0eb0e32eb7b4"), looks := false }, kinds := [], alts := [], laidByText := true, laidKinds := [.data], laidTests := true, laidLooks := .later }
def StatusRunsCardSaid : Prop := Claim7.holds Tryd.pinned (.plain (OpenSpec.ofChange statusRunsSpec)) statusRunsCard

/-- THE TIED CARD OF 'egresslaw05.StatusKinds'. -/
def statusKindsCard : Claim7 := { stood := { row := statusKindsRow, standIns := [], harness := (true, "629be9496dced1c9eb7494ea37f576b47c401dd5538a0944005e0eb0e32eb7b4"), looks := false }, kinds := [], alts := [], laidByText := true, laidKinds := [.data], laidTests := true, laidLooks := .later }
def StatusKindsCardSaid : Prop := Claim7.holds Tryd.pinned (.plain (OpenSpec.ofChange statusKindsSpec)) statusKindsCard

/-- THE TIED CARD OF 'egresslaw05.StatusNames'. -/
def statusNamesCard : Claim7 := { stood := { row := statusNamesRow, standIns := [], harness := (true, "629be9496dced1c9eb7494ea37f576b47c401dd5538a0944005e0eb0e32eb7b4"), looks := false }, kinds := [], alts := [], laidByText := true, laidKinds := [.data], laidTests := true, laidLooks := .later }
def StatusNamesCardSaid : Prop := Claim7.holds Tryd.pinned (.plain (OpenSpec.ofChange statusNamesSpec)) statusNamesCard

/-- THE TIED CARD OF 'egresslaw05.StatusPaid'. -/
def statusPaidCard : Claim7 := { stood := { row := statusPaidRow, standIns := [], harness := (true, "629be9496dced1c9eb7494ea37f576b47c401dd5538a0944005e0eb0e32eb7b4"), looks := false }, kinds := [], alts := [], laidByText := true, laidKinds := [.data], laidTests := true, laidLooks := .later }
def StatusPaidCardSaid : Prop := Claim7.holds Tryd.pinned (.plain (OpenSpec.ofChange statusPaidSpec)) statusPaidCard

/-- THE TIED CARD OF 'egresslaw05.StatusSlash'. -/
def statusSlashCard : Claim7 := { stood := { row := statusSlashRow, standIns := [], harness := (true, "629be9496dced1c9eb7494ea37f576b47c401dd5538a0944005e0eb0e32eb7b4"), looks := false }, kinds := [], alts := [], laidByText := true, laidKinds := [.data], laidTests := true, laidLooks := .later }
def StatusSlashCardSaid : Prop := Claim7.holds Tryd.pinned (.plain (OpenSpec.ofChange statusSlashSpec)) statusSlashCard

/-- THE SECOND FORM's CARD OF 'egresslaw05.StatusNext'. -/
def statusNextUptoCard : Claim7 := { stood := { row := statusNextUptoRow, standIns := [], harness := (true, "629be9496dced1c9eb7494ea37f576b47c401dd5538a0944005e0eb0e32eb7b4"), looks := false }, kinds := [], alts := [], laidByText := true, laidKinds := [.data], laidTests := true, laidLooks := .later }
def StatusNextUptoCardSaid : Prop := Claim7.holds Tryd.pinned (.plain (OpenSpec.upto statusNextSpec)) statusNextUptoCard

/-- THE SECOND FORM's CARD OF 'egresslaw05.StatusRuns'. -/
def statusRunsUptoCard : Claim7 := { stood := { row := statusRunsUptoRow, standIns := [], harness := (true, "629be9496dced1c9eb7494ea37f576b47c401dd5538a0944005e0eb0e32eb7b4"), looks := false }, kinds := [], alts := [], laidByText := true, laidKinds := [.data], laidTests := true, laidLooks := .later }
def StatusRunsUptoCardSaid : Prop := Claim7.holds Tryd.pinned (.plain (OpenSpec.upto statusRunsSpec)) statusRunsUptoCard

/-- THE SECOND FORM's CARD OF 'egresslaw05.StatusKinds'. -/
def statusKindsUptoCard : Claim7 := { stood := { row := statusKindsUptoRow, standIns := [], harness := (true, "629be9496dced1c9eb7494ea37f576b47c401dd5538a0944005e0eb0e32eb7b4"), looks := false }, kinds := [], alts := [], laidByText := true, laidKinds := [.data], laidTests := true, laidLooks := .later }
def StatusKindsUptoCardSaid : Prop := Claim7.holds Tryd.pinned (.plain (OpenSpec.upto statusKindsSpec)) statusKindsUptoCard

/-- THE SECOND FORM's CARD OF 'egresslaw05.StatusNames'. -/
def statusNamesUptoCard : Claim7 := { stood := { row := statusNamesUptoRow, standIns := [], harness := (true, "629be9496dced1c9eb7494ea37f576b47c401dd5538a0944005e0eb0e32eb7b4"), looks := false }, kinds := [], alts := [], laidByText := true, laidKinds := [.data], laidTests := true, laidLooks := .later }
def StatusNamesUptoCardSaid : Prop := Claim7.holds Tryd.pinned (.plain (OpenSpec.upto statusNamesSpec)) statusNamesUptoCard

/-- THE SECOND FORM's CARD OF 'egresslaw05.StatusPaid'. -/
def statusPaidUptoCard : Claim7 := { stood := { row := statusPaidUptoRow, standIns := [], harness := (true, "629be9496dced1c9eb7494ea37f576b47c401dd5538a0944005e0eb0e32eb7b4"), looks := false }, kinds := [], alts := [], laidByText := true, laidKinds := [.data], laidTests := true, laidLooks := .later }
def StatusPaidUptoCardSaid : Prop := Claim7.holds Tryd.pinned (.plain (OpenSpec.upto statusPaidSpec)) statusPaidUptoCard

/-- THE SECOND FORM's CARD OF 'egresslaw05.StatusSlash'. -/
def statusSlashUptoCard : Claim7 := { stood := { row := statusSlashUptoRow, standIns := [], harness := (true, "629be9496dced1c9eb7494ea37f576b47c401dd5538a0944005e0eb0e32eb7b4"), looks := false }, kinds := [], alts := [], laidByText := true, laidKinds := [.data], laidTests := true, laidLooks := .later }
def StatusSlashUptoCardSaid : Prop := Claim7.holds Tryd.pinned (.plain (OpenSpec.upto statusSlashSpec)) statusSlashUptoCard
end Rows
end Go.Proofs.YtdkojcmffkhpkaaDoor
