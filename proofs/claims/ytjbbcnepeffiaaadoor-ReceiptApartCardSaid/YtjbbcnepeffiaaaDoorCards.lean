/-
  DERIVED. GIVEN WITH THE SEED: THE CARDS: each row of YtjbbcnepeffiaaaDoorRows.lean that lists a variable, with what it lists TIED to the program's text (the seventh form; the later family's looks); each row that meets fmt, with fmt's text TOLD by the authors' own Lean function (tested against real Go, not proved from fmt's source: count such statements apart). THE CARD IS WHAT COUNTS. Prove the row's statement (the work); the ties are given (YtjbbcnepeffiaaaDoorTie.lean); close each card by the builder's one call (the guide's Derived/Test/ToyasCard.lean, 'card_holds'). Laid BY PROGRAM, IN A SANDBOX (cutbox-door.mjs). By AI agents, Wed Nov 11 2026. No macro, syntax, notation, axiom, sorry.
-/
import Derived.Test.YtjbbcnepeffiaaaDoorRows
import GoSem.ClaimSeven
namespace Go.Proofs.YtjbbcnepeffiaaaDoor
namespace Rows

/-- THE TIED CARD OF 'egresslaw21.ReceiptSame'. -/
def receiptSameCard : Claim7 := { stood := { row := receiptSameRow, standIns := [], harness := (true, "ca4c56211f4f659def60dc85462085b3965b889d4985d39d5642dc4136a3ca32"), looks := false }, kinds := [], alts := [], laidByText := true, laidKinds := [.data, .data, .data, .data], laidTests := true, laidLooks := .later }
def ReceiptSameCardSaid : Prop := Claim7.holds Tryd.pinned (.plain (OpenSpec.ofChange receiptSameSpec)) receiptSameCard

/-- THE TIED CARD OF 'egresslaw21.ReceiptClones'. -/
def receiptClonesCard : Claim7 := { stood := { row := receiptClonesRow, standIns := [], harness := (true, "ca4c56211f4f659def60dc85462085b3965b889d4985d39d5642dc4136a3ca32"), looks := false }, kinds := [], alts := [], laidByText := true, laidKinds := [.data, .data, .data, .data], laidTests := true, laidLooks := .later }
def ReceiptClonesCardSaid : Prop := Claim7.holds Tryd.pinned (.plain (OpenSpec.ofChange receiptClonesSpec)) receiptClonesCard

/-- THE TIED CARD OF 'egresslaw21.ReceiptMakes'. -/
def receiptMakesCard : Claim7 := { stood := { row := receiptMakesRow, standIns := [], harness := (true, "ca4c56211f4f659def60dc85462085b3965b889d4985d39d5642dc4136a3ca32"), looks := false }, kinds := [], alts := [], laidByText := true, laidKinds := [.data, .data, .data, .data], laidTests := true, laidLooks := .later }
def ReceiptMakesCardSaid : Prop := Claim7.holds Tryd.pinned (.plain (OpenSpec.ofChange receiptMakesSpec)) receiptMakesCard

/-- THE TIED CARD OF 'egresslaw21.ReceiptPays'. -/
def receiptPaysCard : Claim7 := { stood := { row := receiptPaysRow, standIns := [], harness := (true, "ca4c56211f4f659def60dc85462085b3965b889d4985d39d5642dc4136a3ca32"), looks := false }, kinds := [], alts := [], laidByText := true, laidKinds := [.data, .data, .data, .data], laidTests := true, laidLooks := .later }
def ReceiptPaysCardSaid : Prop := Claim7.holds Tryd.pinned (.plain (OpenSpec.ofChange receiptPaysSpec)) receiptPaysCard

/-- THE TIED CARD OF 'egresslaw21.ReceiptLines'. -/
def receiptLinesCard : Claim7 := { stood := { row := receiptLinesRow, standIns := [], harness := (true, "ca4c56211f4f659def60dc85462085b3965b889d4985d39d5642dc4136a3ca32"), looks := false }, kinds := [], alts := [], laidByText := true, laidKinds := [.data, .data, .data, .data], laidTests := true, laidLooks := .later }
def ReceiptLinesCardSaid : Prop := Claim7.holds Tryd.pinned (.plain (OpenSpec.ofChange receiptLinesSpec)) receiptLinesCard

/-- THE TIED CARD OF 'egresslaw21.ReceiptApart'. -/
def receiptApartCard : Claim7 := { stood := { row := receiptApartRow, standIns := [], harness := (true, "ca4c56211f4f659def60dc85462085b3965b889d4985d39d5642dc4136a3ca32"), looks := false }, kinds := [], alts := [], laidByText := true, laidKinds := [.data, .data, .data, .data], laidTests := true, laidLooks := .later }
def ReceiptApartCardSaid : Prop := Claim7.holds Tryd.pinned (.plain (OpenSpec.ofChange receiptApartSpec)) receiptApartCard

/-- THE SECOND FORM's CARD OF 'egresslaw21.ReceiptSame'. -/
def receiptSameUptoCard : Claim7 := { stood := { row := receiptSameUptoRow, standIns := [], harness := (true, "ca4c56211f4f659def60dc85462085b3965b889d4985d39d5642dc4136a3ca32"), looks := false }, kinds := [], alts := [], laidByText := true, laidKinds := [.data, .data, .data, .data], laidTests := true, laidLooks := .later }
def ReceiptSameUptoCardSaid : Prop := Claim7.holds Tryd.pinned (.plain (OpenSpec.upto receiptSameSpec)) receiptSameUptoCard

/-- THE SECOND FORM's CARD OF 'egresslaw21.ReceiptClones'. -/
def receiptClonesUptoCard : Claim7 := { stood := { row := receiptClonesUptoRow, standIns := [], harness := (true, "ca4c56211f4f659def60dc85462085b3965b889d4985d39d5642dc4136a3ca32"), looks := false }, kinds := [], alts := [], laidByText := true, laidKinds := [.data, .data, .data, .data], laidTests := true, laidLooks := .later }
def ReceiptClonesUptoCardSaid : Prop := Claim7.holds Tryd.pinned (.plain (OpenSpec.upto receiptClonesSpec)) receiptClonesUptoCard

/-- THE SECOND FORM's CARD OF 'egresslaw21.ReceiptMakes'. -/
def receiptMakesUptoCard : Claim7 := { stood := { row := receiptMakesUptoRow, standIns := [], harness := (true, "ca4c56211f4f659def60dc85462085b3965b889d4985d39d5642dc4136a3ca32"), looks := false }, kinds := [], alts := [], laidByText := true, laidKinds := [.data, .data, .data, .data], laidTests := true, laidLooks := .later }
def ReceiptMakesUptoCardSaid : Prop := Claim7.holds Tryd.pinned (.plain (OpenSpec.upto receiptMakesSpec)) receiptMakesUptoCard

/-- THE SECOND FORM's CARD OF 'egresslaw21.ReceiptPays'. -/
def receiptPaysUptoCard : Claim7 := { stood := { row := receiptPaysUptoRow, standIns := [], harness := (true, "ca4c56211f4f659def60dc85462085b3965b889d4985d39d5642dc4136a3ca32"), looks := false }, kinds := [], alts := [], laidByText := true, laidKinds := [.data, .data, .data, .data], laidTests := true, laidLooks := .later }
def ReceiptPaysUptoCardSaid : Prop := Claim7.holds Tryd.pinned (.plain (OpenSpec.upto receiptPaysSpec)) receiptPaysUptoCard

/-- THE SECOND FORM's CARD OF 'egresslaw21.ReceiptLines'. -/
def receiptLinesUptoCard : Claim7 := { stood := { row := receiptLinesUptoRow, standIns := [], harness := (true, "ca4c56211f4f659def60dc85462085b3965b889d4985d39d5642dc4136a3ca32"), looks := false }, kinds := [], alts := [], laidByText := true, laidKinds := [.data, .data, .data, .data], laidTests := true, laidLooks := .later }
def ReceiptLinesUptoCardSaid : Prop := Claim7.holds Tryd.pinned (.plain (OpenSpec.upto receiptLinesSpec)) receiptLinesUptoCard

/-- THE SECOND FORM's CARD OF 'egresslaw21.ReceiptApart'. -/
def receiptApartUptoCard : Claim7 := { stood := { row := receiptApartUptoRow, standIns := [], harness := (true, "ca4c56211f4f659def60dc85462085b3965b889d4985d39d5642dc4136a3ca32"), looks := false }, kinds := [], alts := [], laidByText := true, laidKinds := [.data, .data, .data, .data], laidTests := true, laidLooks := .later }
def ReceiptApartUptoCardSaid : Prop := Claim7.holds Tryd.pinned (.plain (OpenSpec.upto receiptApartSpec)) receiptApartUptoCard
end Rows
end Go.Proofs.YtjbbcnepeffiaaaDoor
