/-
  NARROWER THAN 'FOR EVERY INPUT', by the rows' own cells (each row's printed sentence says how): OpEncodes: laid · OpDecodes: laid · OpInverse: laid · OpValid: laid · OpCuts: laid · OpNames: laid.
  DERIVED. THE GIVEN ROWS OF THIS SEAT. 6 by the template 'for every input the law returns true; each argument reads behind the call as it read before'; 0 by the template 'total and deterministic' (their statements: YtfepfcalfhegfaaDoorTotals.lean).
  GIVEN WITH THE SEED: the statements are not yours to turn. If you find one false, say at which input.
  Laid BY PROGRAM, IN A SANDBOX (cutbox-rows.mjs): the forced cells as the released guide's own fill.sh prints them over the translation 1a6e52e5bc560463… (all of the seat's roots in one cut). By AI agents, Wed Nov 11 2026. No macro, syntax, notation, axiom, sorry.
-/
import Derived.Test.YtfepfcalfhegfaaDoorChecked
import GoSem.Claim
import GoSem.ClaimJoined
import GoSem.ClaimMapViews
import Derived.JoinedTies
import Derived.KernelRfl
namespace Go.Proofs.YtfepfcalfhegfaaDoor
/- THE CELL 'sum', in the pinned program and in every row, IS THE sha256 OF THE DUMP (.gsa) THAT YtfepfcalfhegfaaDoorProg.lean LOADS. Nothing in Lean hashes anything: it is a label: what it is worth is what the hold of that sum in a sandbox is worth. -/
noncomputable def Tryd.pinned : Pinned := { name := "ytfepfcalfhegfaadoor", sum := "1a6e52e5bc560463542f9df2c8c7d25d108f42f7de7f79ae0ddbba0b5f6b23d8", checked := Tryd.checked }
namespace Rows
def none {H : Type} : Left H := { results := [], args := [] }

/- WHAT THE LISTED PACKAGE-LEVEL VARIABLES READ AS WHEN THE CALL BEGINS. Each datum BY PROGRAM (the guide's laid-datum.mjs) off the statement by which the dump's own 'gosem.cut.vars' lays the variable. In a bare row this is a premise. The card (YtfepfcalfhegfaaDoorCards.lean) ties it to the program's text. -/
def laid_egress_op_names {H : Type} : DataW H := .agg [.lit (.string [100, 101, 112, 111, 115, 105, 116]), .lit (.string [101, 120, 105, 116]), .lit (.string [101, 106, 101, 99, 116]), .lit (.string [115, 108, 97, 115, 104]), .lit (.string [99, 111, 110, 115, 111, 108, 105, 100, 97, 116, 101]), .lit (.string [112, 97, 114, 116, 105, 97, 108]), .lit (.string [116, 105, 99, 107])]

/-- 'egresslaw19.OpEncodes': WHATEVER THE INPUT: true; the input reads as it did. -/
def opEncodesSpec : ChangeSpec := { name := "opEncodes", fn := fun _ => fun
  | [d] => { results := [.lit (.bool true)], args := [d] }
  | _ => none }
def opEncodesRow : OpenClaim := { program := "ytfepfcalfhegfaadoor", sum := "1a6e52e5bc560463542f9df2c8c7d25d108f42f7de7f79ae0ddbba0b5f6b23d8", func := "egress/egresslaw19.OpEncodes", spec := "opEncodes", unfollowed := true, recurses := true, named := ["egress/op.names"], apart := false, laid := [("egress/op.names", laid_egress_op_names)] }
def OpEncodesSaid : Prop := opEncodesRow.holds Tryd.pinned (OpenSpec.ofChange opEncodesSpec)

/-- ITS FALSE NEIGHBOUR: 'it returns false'. Refute it at one input. -/
def opEncodesWrong : ChangeSpec := { name := "opEncodes", fn := fun _ => fun
  | [d] => { results := [.lit (.bool false)], args := [d] }
  | _ => none }
def OpEncodesWrongFalsely : Prop := opEncodesRow.holds Tryd.pinned (OpenSpec.ofChange opEncodesWrong)

/-- 'egresslaw19.OpDecodes': WHATEVER THE INPUT: true; the input reads as it did. -/
def opDecodesSpec : ChangeSpec := { name := "opDecodes", fn := fun _ => fun
  | [d1, d2] => { results := [.lit (.bool true)], args := [d1, d2] }
  | _ => none }
def opDecodesRow : OpenClaim := { program := "ytfepfcalfhegfaadoor", sum := "1a6e52e5bc560463542f9df2c8c7d25d108f42f7de7f79ae0ddbba0b5f6b23d8", func := "egress/egresslaw19.OpDecodes", spec := "opDecodes", unfollowed := true, recurses := true, named := ["egress/op.names"], apart := false, laid := [("egress/op.names", laid_egress_op_names)] }
def OpDecodesSaid : Prop := opDecodesRow.holds Tryd.pinned (OpenSpec.ofChange opDecodesSpec)

/-- ITS FALSE NEIGHBOUR: 'it returns false'. Refute it at one input. -/
def opDecodesWrong : ChangeSpec := { name := "opDecodes", fn := fun _ => fun
  | [d1, d2] => { results := [.lit (.bool false)], args := [d1, d2] }
  | _ => none }
def OpDecodesWrongFalsely : Prop := opDecodesRow.holds Tryd.pinned (OpenSpec.ofChange opDecodesWrong)

/-- 'egresslaw19.OpInverse': WHATEVER THE INPUT: true; the input reads as it did. -/
def opInverseSpec : ChangeSpec := { name := "opInverse", fn := fun _ => fun
  | [d1, d2, d3] => { results := [.lit (.bool true)], args := [d1, d2, d3] }
  | _ => none }
def opInverseRow : OpenClaim := { program := "ytfepfcalfhegfaadoor", sum := "1a6e52e5bc560463542f9df2c8c7d25d108f42f7de7f79ae0ddbba0b5f6b23d8", func := "egress/egresslaw19.OpInverse", spec := "opInverse", unfollowed := true, recurses := true, named := ["egress/op.names"], apart := false, laid := [("egress/op.names", laid_egress_op_names)] }
def OpInverseSaid : Prop := opInverseRow.holds Tryd.pinned (OpenSpec.ofChange opInverseSpec)

/-- ITS FALSE NEIGHBOUR: 'it returns false'. Refute it at one input. -/
def opInverseWrong : ChangeSpec := { name := "opInverse", fn := fun _ => fun
  | [d1, d2, d3] => { results := [.lit (.bool false)], args := [d1, d2, d3] }
  | _ => none }
def OpInverseWrongFalsely : Prop := opInverseRow.holds Tryd.pinned (OpenSpec.ofChange opInverseWrong)

/-- 'egresslaw19.OpValid': WHATEVER THE INPUT: true; the input reads as it did. -/
def opValidSpec : ChangeSpec := { name := "opValid", fn := fun _ => fun
  | [d] => { results := [.lit (.bool true)], args := [d] }
  | _ => none }
def opValidRow : OpenClaim := { program := "ytfepfcalfhegfaadoor", sum := "1a6e52e5bc560463542f9df2c8c7d25d108f42f7de7f79ae0ddbba0b5f6b23d8", func := "egress/egresslaw19.OpValid", spec := "opValid", unfollowed := true, recurses := true, named := ["egress/op.names"], apart := false, laid := [("egress/op.names", laid_egress_op_names)] }
def OpValidSaid : Prop := opValidRow.holds Tryd.pinned (OpenSpec.ofChange opValidSpec)

/-- ITS FALSE NEIGHBOUR: 'it returns false'. Refute it at one input. -/
def opValidWrong : ChangeSpec := { name := "opValid", fn := fun _ => fun
  | [d] => { results := [.lit (.bool false)], args := [d] }
  | _ => none }
def OpValidWrongFalsely : Prop := opValidRow.holds Tryd.pinned (OpenSpec.ofChange opValidWrong)

/-- 'egresslaw19.OpCuts': WHATEVER THE INPUT: true; the input reads as it did. -/
def opCutsSpec : ChangeSpec := { name := "opCuts", fn := fun _ => fun
  | [d1, d2] => { results := [.lit (.bool true)], args := [d1, d2] }
  | _ => none }
def opCutsRow : OpenClaim := { program := "ytfepfcalfhegfaadoor", sum := "1a6e52e5bc560463542f9df2c8c7d25d108f42f7de7f79ae0ddbba0b5f6b23d8", func := "egress/egresslaw19.OpCuts", spec := "opCuts", unfollowed := true, recurses := true, named := ["egress/op.names"], apart := false, laid := [("egress/op.names", laid_egress_op_names)] }
def OpCutsSaid : Prop := opCutsRow.holds Tryd.pinned (OpenSpec.ofChange opCutsSpec)

/-- ITS FALSE NEIGHBOUR: 'it returns false'. Refute it at one input. -/
def opCutsWrong : ChangeSpec := { name := "opCuts", fn := fun _ => fun
  | [d1, d2] => { results := [.lit (.bool false)], args := [d1, d2] }
  | _ => none }
def OpCutsWrongFalsely : Prop := opCutsRow.holds Tryd.pinned (OpenSpec.ofChange opCutsWrong)

/-- 'egresslaw19.OpNames': WHATEVER THE INPUT: true; the input reads as it did. -/
def opNamesSpec : ChangeSpec := { name := "opNames", fn := fun _ => fun
  | [d1, d2] => { results := [.lit (.bool true)], args := [d1, d2] }
  | _ => none }
def opNamesRow : OpenClaim := { program := "ytfepfcalfhegfaadoor", sum := "1a6e52e5bc560463542f9df2c8c7d25d108f42f7de7f79ae0ddbba0b5f6b23d8", func := "egress/egresslaw19.OpNames", spec := "opNames", unfollowed := true, recurses := true, named := ["egress/op.names"], apart := false, laid := [("egress/op.names", laid_egress_op_names)] }
def OpNamesSaid : Prop := opNamesRow.holds Tryd.pinned (OpenSpec.ofChange opNamesSpec)

/-- ITS FALSE NEIGHBOUR: 'it returns false'. Refute it at one input. -/
def opNamesWrong : ChangeSpec := { name := "opNames", fn := fun _ => fun
  | [d1, d2] => { results := [.lit (.bool false)], args := [d1, d2] }
  | _ => none }
def OpNamesWrongFalsely : Prop := opNamesRow.holds Tryd.pinned (OpenSpec.ofChange opNamesWrong)

/- THE SECOND FORM. 'bulk': how many values and letters a reading holds, each counted each time it is reached (what is shared counts as often as it is met; a slice's spare places count too). A statement '..UptoSaid' is the law's where the arguments, and the package variables that the reading takes, are together of bulk at most 1048576: NARROWER than '..Said'. Prove '..Said' where nothing that the law and all that it calls make is longer than what came in: it says more and counts as full. Else prove '..UptoSaid'. A law counts once. -/
mutual
def uptoBulk {H : Type} : DataW H → Nat
  | .lit (.string bytes) => bytes.length + 1
  | .lit _ => 1
  | .nil => 1
  | .ptr d => uptoBulk d + 1
  | .slice elems spare => uptoBulkAll elems + uptoBulkAll spare + 1
  | .agg parts => uptoBulkAll parts + 1
  | .iface _ d => uptoBulk d + 1
  | .map entries => uptoBulkEntries entries + 1
  | .held _ => 1
def uptoBulkAll {H : Type} : List (DataW H) → Nat
  | [] => 0
  | d :: r => uptoBulk d + uptoBulkAll r
def uptoBulkEntries {H : Type} : List (Lit × DataW H) → Nat
  | [] => 0
  | x :: r => uptoBulkEntry x + uptoBulkEntries r
def uptoBulkEntry {H : Type} : Lit × DataW H → Nat
  | (.string bytes, d) => bytes.length + uptoBulk d + 1
  | (_, d) => uptoBulk d + 1
 end
def uptoSmall : (H : Type) → List (DataW H) → Bool := fun _ ds => decide (uptoBulkAll ds ≤ 1048576)
def OpenSpec.upto (s : _root_.Go.ChangeSpec) : _root_.Go.OpenSpec := { _root_.Go.OpenSpec.ofChange s with cond := some uptoSmall }

/-- 'egresslaw19.OpEncodes', WHERE WHAT IT READS IS OF BULK AT MOST 1048576: true; the input reads as it did. -/
def opEncodesUptoRow : OpenClaim := { program := "ytfepfcalfhegfaadoor", sum := "1a6e52e5bc560463542f9df2c8c7d25d108f42f7de7f79ae0ddbba0b5f6b23d8", func := "egress/egresslaw19.OpEncodes", spec := "opEncodes", unfollowed := true, recurses := true, named := ["egress/op.names"], apart := false, laid := [("egress/op.names", laid_egress_op_names)], narrowed := true }
def OpEncodesUptoSaid : Prop := opEncodesUptoRow.holds Tryd.pinned (OpenSpec.upto opEncodesSpec)

/-- 'egresslaw19.OpDecodes', WHERE WHAT IT READS IS OF BULK AT MOST 1048576: true; the input reads as it did. -/
def opDecodesUptoRow : OpenClaim := { program := "ytfepfcalfhegfaadoor", sum := "1a6e52e5bc560463542f9df2c8c7d25d108f42f7de7f79ae0ddbba0b5f6b23d8", func := "egress/egresslaw19.OpDecodes", spec := "opDecodes", unfollowed := true, recurses := true, named := ["egress/op.names"], apart := false, laid := [("egress/op.names", laid_egress_op_names)], narrowed := true }
def OpDecodesUptoSaid : Prop := opDecodesUptoRow.holds Tryd.pinned (OpenSpec.upto opDecodesSpec)

/-- 'egresslaw19.OpInverse', WHERE WHAT IT READS IS OF BULK AT MOST 1048576: true; the input reads as it did. -/
def opInverseUptoRow : OpenClaim := { program := "ytfepfcalfhegfaadoor", sum := "1a6e52e5bc560463542f9df2c8c7d25d108f42f7de7f79ae0ddbba0b5f6b23d8", func := "egress/egresslaw19.OpInverse", spec := "opInverse", unfollowed := true, recurses := true, named := ["egress/op.names"], apart := false, laid := [("egress/op.names", laid_egress_op_names)], narrowed := true }
def OpInverseUptoSaid : Prop := opInverseUptoRow.holds Tryd.pinned (OpenSpec.upto opInverseSpec)

/-- 'egresslaw19.OpValid', WHERE WHAT IT READS IS OF BULK AT MOST 1048576: true; the input reads as it did. -/
def opValidUptoRow : OpenClaim := { program := "ytfepfcalfhegfaadoor", sum := "1a6e52e5bc560463542f9df2c8c7d25d108f42f7de7f79ae0ddbba0b5f6b23d8", func := "egress/egresslaw19.OpValid", spec := "opValid", unfollowed := true, recurses := true, named := ["egress/op.names"], apart := false, laid := [("egress/op.names", laid_egress_op_names)], narrowed := true }
def OpValidUptoSaid : Prop := opValidUptoRow.holds Tryd.pinned (OpenSpec.upto opValidSpec)

/-- 'egresslaw19.OpCuts', WHERE WHAT IT READS IS OF BULK AT MOST 1048576: true; the input reads as it did. -/
def opCutsUptoRow : OpenClaim := { program := "ytfepfcalfhegfaadoor", sum := "1a6e52e5bc560463542f9df2c8c7d25d108f42f7de7f79ae0ddbba0b5f6b23d8", func := "egress/egresslaw19.OpCuts", spec := "opCuts", unfollowed := true, recurses := true, named := ["egress/op.names"], apart := false, laid := [("egress/op.names", laid_egress_op_names)], narrowed := true }
def OpCutsUptoSaid : Prop := opCutsUptoRow.holds Tryd.pinned (OpenSpec.upto opCutsSpec)

/-- 'egresslaw19.OpNames', WHERE WHAT IT READS IS OF BULK AT MOST 1048576: true; the input reads as it did. -/
def opNamesUptoRow : OpenClaim := { program := "ytfepfcalfhegfaadoor", sum := "1a6e52e5bc560463542f9df2c8c7d25d108f42f7de7f79ae0ddbba0b5f6b23d8", func := "egress/egresslaw19.OpNames", spec := "opNames", unfollowed := true, recurses := true, named := ["egress/op.names"], apart := false, laid := [("egress/op.names", laid_egress_op_names)], narrowed := true }
def OpNamesUptoSaid : Prop := opNamesUptoRow.holds Tryd.pinned (OpenSpec.upto opNamesSpec)

end Rows
end Go.Proofs.YtfepfcalfhegfaaDoor
