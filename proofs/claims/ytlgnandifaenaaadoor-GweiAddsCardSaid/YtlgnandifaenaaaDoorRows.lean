/-
  NARROWER THAN 'FOR EVERY INPUT', by the rows' own cells (each row's printed sentence says how): GweiAdds: laid · GweiSubtracts: laid · GweiDivides: laid · GweiQuotients: laid · GweiCeils: laid · GweiStrings: laid.
  DERIVED. THE GIVEN ROWS OF THIS SEAT. 6 by the template 'for every input the law returns true; each argument reads behind the call as it read before'; 0 by the template 'total and deterministic' (their statements: YtlgnandifaenaaaDoorTotals.lean).
  GIVEN WITH THE SEED: the statements are not yours to turn. If you find one false, say at which input.
  Laid BY PROGRAM, IN A SANDBOX (cutbox-rows.mjs): the forced cells as the released guide's own fill.sh prints them over the translation f1012fcaa37aba0d… (all of the seat's roots in one cut). By AI agents, Wed Nov 11 2026. No macro, syntax, notation, axiom, sorry.
-/
import Derived.Test.YtlgnandifaenaaaDoorChecked
import GoSem.Claim
import GoSem.ClaimJoined
import GoSem.ClaimMapViews
import Derived.JoinedTies
import Derived.KernelRfl
namespace Go.Proofs.YtlgnandifaenaaaDoor
/- THE CELL 'sum', in the pinned program and in every row, IS THE sha256 OF THE DUMP (.gsa) THAT YtlgnandifaenaaaDoorProg.lean LOADS. Nothing in Lean hashes anything: it is a label: what it is worth is what the hold of that sum in a sandbox is worth. -/
noncomputable def Tryd.pinned : Pinned := { name := "ytlgnandifaenaaadoor", sum := "f1012fcaa37aba0d1e6872bc7ed3279ef4c0b009c5b41f27520404df96eec3d8", checked := Tryd.checked }
namespace Rows
def none {H : Type} : Left H := { results := [], args := [] }

/- WHAT THE LISTED PACKAGE-LEVEL VARIABLES READ AS WHEN THE CALL BEGINS. Each datum BY PROGRAM (the guide's laid-datum.mjs) off the statement by which the dump's own 'gosem.cut.vars' lays the variable. In a bare row this is a premise. The card (YtlgnandifaenaaaDoorCards.lean) ties it to the program's text. -/
def laid_math_bits_deBruijn32tab {H : Type} : DataW H := .agg [.lit (.int .u8 0), .lit (.int .u8 1), .lit (.int .u8 28), .lit (.int .u8 2), .lit (.int .u8 29), .lit (.int .u8 14), .lit (.int .u8 24), .lit (.int .u8 3), .lit (.int .u8 30), .lit (.int .u8 22), .lit (.int .u8 20), .lit (.int .u8 15), .lit (.int .u8 25), .lit (.int .u8 17), .lit (.int .u8 4), .lit (.int .u8 8), .lit (.int .u8 31), .lit (.int .u8 27), .lit (.int .u8 13), .lit (.int .u8 23), .lit (.int .u8 21), .lit (.int .u8 19), .lit (.int .u8 16), .lit (.int .u8 7), .lit (.int .u8 26), .lit (.int .u8 12), .lit (.int .u8 18), .lit (.int .u8 6), .lit (.int .u8 11), .lit (.int .u8 5), .lit (.int .u8 10), .lit (.int .u8 9)]
def laid_math_bits_deBruijn64tab {H : Type} : DataW H := .agg [.lit (.int .u8 0), .lit (.int .u8 1), .lit (.int .u8 56), .lit (.int .u8 2), .lit (.int .u8 57), .lit (.int .u8 49), .lit (.int .u8 28), .lit (.int .u8 3), .lit (.int .u8 61), .lit (.int .u8 58), .lit (.int .u8 42), .lit (.int .u8 50), .lit (.int .u8 38), .lit (.int .u8 29), .lit (.int .u8 17), .lit (.int .u8 4), .lit (.int .u8 62), .lit (.int .u8 47), .lit (.int .u8 59), .lit (.int .u8 36), .lit (.int .u8 45), .lit (.int .u8 43), .lit (.int .u8 51), .lit (.int .u8 22), .lit (.int .u8 53), .lit (.int .u8 39), .lit (.int .u8 33), .lit (.int .u8 30), .lit (.int .u8 24), .lit (.int .u8 18), .lit (.int .u8 12), .lit (.int .u8 5), .lit (.int .u8 63), .lit (.int .u8 55), .lit (.int .u8 48), .lit (.int .u8 27), .lit (.int .u8 60), .lit (.int .u8 41), .lit (.int .u8 37), .lit (.int .u8 16), .lit (.int .u8 46), .lit (.int .u8 35), .lit (.int .u8 44), .lit (.int .u8 21), .lit (.int .u8 52), .lit (.int .u8 32), .lit (.int .u8 23), .lit (.int .u8 11), .lit (.int .u8 54), .lit (.int .u8 26), .lit (.int .u8 40), .lit (.int .u8 15), .lit (.int .u8 34), .lit (.int .u8 20), .lit (.int .u8 31), .lit (.int .u8 10), .lit (.int .u8 25), .lit (.int .u8 14), .lit (.int .u8 19), .lit (.int .u8 9), .lit (.int .u8 13), .lit (.int .u8 8), .lit (.int .u8 7), .lit (.int .u8 6)]
def laid_internal_strconv_uint64pow10 {H : Type} : DataW H := .agg [.lit (.int .u64 1), .lit (.int .u64 10), .lit (.int .u64 100), .lit (.int .u64 1000), .lit (.int .u64 10000), .lit (.int .u64 100000), .lit (.int .u64 1000000), .lit (.int .u64 10000000), .lit (.int .u64 100000000), .lit (.int .u64 1000000000), .lit (.int .u64 10000000000), .lit (.int .u64 100000000000), .lit (.int .u64 1000000000000), .lit (.int .u64 10000000000000), .lit (.int .u64 100000000000000), .lit (.int .u64 1000000000000000), .lit (.int .u64 10000000000000000), .lit (.int .u64 100000000000000000), .lit (.int .u64 1000000000000000000), .lit (.int .u64 10000000000000000000)]
def laid_strconv_ErrRange {H : Type} : DataW H := .iface "*errors.errorString" (.ptr (.agg [.lit (.string [118, 97, 108, 117, 101, 32, 111, 117, 116, 32, 111, 102, 32, 114, 97, 110, 103, 101])]))
def laid_strconv_ErrSyntax {H : Type} : DataW H := .iface "*errors.errorString" (.ptr (.agg [.lit (.string [105, 110, 118, 97, 108, 105, 100, 32, 115, 121, 110, 116, 97, 120])]))

/-- 'egresslaw01.GweiAdds': WHATEVER THE INPUT: true; the input reads as it did. -/
def gweiAddsSpec : ChangeSpec := { name := "gweiAdds", fn := fun _ => fun
  | [d] => { results := [.lit (.bool true)], args := [d] }
  | _ => none }
def gweiAddsRow : OpenClaim := { program := "ytlgnandifaenaaadoor", sum := "f1012fcaa37aba0d1e6872bc7ed3279ef4c0b009c5b41f27520404df96eec3d8", func := "egress/egresslaw01.GweiAdds", spec := "gweiAdds", inPlace := ["math/bits.Add64"], named := ["math/bits.divideError", "math/bits.overflowError", "internal/strconv.uint64pow10", "math/bits.deBruijn32tab", "math/bits.deBruijn64tab"], apart := false, laid := [("math/bits.deBruijn32tab", laid_math_bits_deBruijn32tab), ("math/bits.deBruijn64tab", laid_math_bits_deBruijn64tab), ("internal/strconv.uint64pow10", laid_internal_strconv_uint64pow10)] }
def GweiAddsSaid : Prop := gweiAddsRow.holds Tryd.pinned (OpenSpec.ofChange gweiAddsSpec)

/-- ITS FALSE NEIGHBOUR: 'it returns false'. Refute it at one input. -/
def gweiAddsWrong : ChangeSpec := { name := "gweiAdds", fn := fun _ => fun
  | [d] => { results := [.lit (.bool false)], args := [d] }
  | _ => none }
def GweiAddsWrongFalsely : Prop := gweiAddsRow.holds Tryd.pinned (OpenSpec.ofChange gweiAddsWrong)

/-- 'egresslaw01.GweiSubtracts': WHATEVER THE INPUT: true; the input reads as it did. -/
def gweiSubtractsSpec : ChangeSpec := { name := "gweiSubtracts", fn := fun _ => fun
  | [d1, d2] => { results := [.lit (.bool true)], args := [d1, d2] }
  | _ => none }
def gweiSubtractsRow : OpenClaim := { program := "ytlgnandifaenaaadoor", sum := "f1012fcaa37aba0d1e6872bc7ed3279ef4c0b009c5b41f27520404df96eec3d8", func := "egress/egresslaw01.GweiSubtracts", spec := "gweiSubtracts", inPlace := ["math/bits.Add64"], named := ["math/bits.divideError", "math/bits.overflowError", "internal/strconv.uint64pow10", "math/bits.deBruijn32tab", "math/bits.deBruijn64tab"], apart := false, laid := [("math/bits.deBruijn32tab", laid_math_bits_deBruijn32tab), ("math/bits.deBruijn64tab", laid_math_bits_deBruijn64tab), ("internal/strconv.uint64pow10", laid_internal_strconv_uint64pow10)] }
def GweiSubtractsSaid : Prop := gweiSubtractsRow.holds Tryd.pinned (OpenSpec.ofChange gweiSubtractsSpec)

/-- ITS FALSE NEIGHBOUR: 'it returns false'. Refute it at one input. -/
def gweiSubtractsWrong : ChangeSpec := { name := "gweiSubtracts", fn := fun _ => fun
  | [d1, d2] => { results := [.lit (.bool false)], args := [d1, d2] }
  | _ => none }
def GweiSubtractsWrongFalsely : Prop := gweiSubtractsRow.holds Tryd.pinned (OpenSpec.ofChange gweiSubtractsWrong)

/-- 'egresslaw01.GweiDivides': WHATEVER THE INPUT: true; the input reads as it did. -/
def gweiDividesSpec : ChangeSpec := { name := "gweiDivides", fn := fun _ => fun
  | [d1, d2, d3] => { results := [.lit (.bool true)], args := [d1, d2, d3] }
  | _ => none }
def gweiDividesRow : OpenClaim := { program := "ytlgnandifaenaaadoor", sum := "f1012fcaa37aba0d1e6872bc7ed3279ef4c0b009c5b41f27520404df96eec3d8", func := "egress/egresslaw01.GweiDivides", spec := "gweiDivides", named := ["math/bits.divideError", "math/bits.overflowError", "internal/strconv.uint64pow10", "math/bits.deBruijn32tab", "math/bits.deBruijn64tab"], apart := false, laid := [("math/bits.deBruijn32tab", laid_math_bits_deBruijn32tab), ("math/bits.deBruijn64tab", laid_math_bits_deBruijn64tab), ("internal/strconv.uint64pow10", laid_internal_strconv_uint64pow10)] }
def GweiDividesSaid : Prop := gweiDividesRow.holds Tryd.pinned (OpenSpec.ofChange gweiDividesSpec)

/-- ITS FALSE NEIGHBOUR: 'it returns false'. Refute it at one input. -/
def gweiDividesWrong : ChangeSpec := { name := "gweiDivides", fn := fun _ => fun
  | [d1, d2, d3] => { results := [.lit (.bool false)], args := [d1, d2, d3] }
  | _ => none }
def GweiDividesWrongFalsely : Prop := gweiDividesRow.holds Tryd.pinned (OpenSpec.ofChange gweiDividesWrong)

/-- 'egresslaw01.GweiQuotients': WHATEVER THE INPUT: true; the input reads as it did. -/
def gweiQuotientsSpec : ChangeSpec := { name := "gweiQuotients", fn := fun _ => fun
  | [d1, d2, d3] => { results := [.lit (.bool true)], args := [d1, d2, d3] }
  | _ => none }
def gweiQuotientsRow : OpenClaim := { program := "ytlgnandifaenaaadoor", sum := "f1012fcaa37aba0d1e6872bc7ed3279ef4c0b009c5b41f27520404df96eec3d8", func := "egress/egresslaw01.GweiQuotients", spec := "gweiQuotients", named := ["math/bits.divideError", "math/bits.overflowError", "internal/strconv.uint64pow10", "math/bits.deBruijn32tab", "math/bits.deBruijn64tab"], apart := false, laid := [("math/bits.deBruijn32tab", laid_math_bits_deBruijn32tab), ("math/bits.deBruijn64tab", laid_math_bits_deBruijn64tab), ("internal/strconv.uint64pow10", laid_internal_strconv_uint64pow10)] }
def GweiQuotientsSaid : Prop := gweiQuotientsRow.holds Tryd.pinned (OpenSpec.ofChange gweiQuotientsSpec)

/-- ITS FALSE NEIGHBOUR: 'it returns false'. Refute it at one input. -/
def gweiQuotientsWrong : ChangeSpec := { name := "gweiQuotients", fn := fun _ => fun
  | [d1, d2, d3] => { results := [.lit (.bool false)], args := [d1, d2, d3] }
  | _ => none }
def GweiQuotientsWrongFalsely : Prop := gweiQuotientsRow.holds Tryd.pinned (OpenSpec.ofChange gweiQuotientsWrong)

/-- 'egresslaw01.GweiCeils': WHATEVER THE INPUT: true; the input reads as it did. -/
def gweiCeilsSpec : ChangeSpec := { name := "gweiCeils", fn := fun _ => fun
  | [d1, d2] => { results := [.lit (.bool true)], args := [d1, d2] }
  | _ => none }
def gweiCeilsRow : OpenClaim := { program := "ytlgnandifaenaaadoor", sum := "f1012fcaa37aba0d1e6872bc7ed3279ef4c0b009c5b41f27520404df96eec3d8", func := "egress/egresslaw01.GweiCeils", spec := "gweiCeils", named := ["math/bits.divideError", "math/bits.overflowError", "internal/strconv.uint64pow10", "math/bits.deBruijn32tab", "math/bits.deBruijn64tab"], apart := false, laid := [("math/bits.deBruijn32tab", laid_math_bits_deBruijn32tab), ("math/bits.deBruijn64tab", laid_math_bits_deBruijn64tab), ("internal/strconv.uint64pow10", laid_internal_strconv_uint64pow10)] }
def GweiCeilsSaid : Prop := gweiCeilsRow.holds Tryd.pinned (OpenSpec.ofChange gweiCeilsSpec)

/-- ITS FALSE NEIGHBOUR: 'it returns false'. Refute it at one input. -/
def gweiCeilsWrong : ChangeSpec := { name := "gweiCeils", fn := fun _ => fun
  | [d1, d2] => { results := [.lit (.bool false)], args := [d1, d2] }
  | _ => none }
def GweiCeilsWrongFalsely : Prop := gweiCeilsRow.holds Tryd.pinned (OpenSpec.ofChange gweiCeilsWrong)

/-- 'egresslaw01.GweiStrings': WHATEVER THE INPUT: true; the input reads as it did. -/
def gweiStringsSpec : ChangeSpec := { name := "gweiStrings", fn := fun _ => fun
  | [d1, d2] => { results := [.lit (.bool true)], args := [d1, d2] }
  | _ => none }
def gweiStringsRow : OpenClaim := { program := "ytlgnandifaenaaadoor", sum := "f1012fcaa37aba0d1e6872bc7ed3279ef4c0b009c5b41f27520404df96eec3d8", func := "egress/egresslaw01.GweiStrings", spec := "gweiStrings", recurses := true, named := ["math/bits.divideError", "math/bits.overflowError", "internal/strconv.uint64pow10", "math/bits.deBruijn32tab", "math/bits.deBruijn64tab", "strconv.ErrSyntax", "strconv.ErrRange"], apart := false, laid := [("math/bits.deBruijn32tab", laid_math_bits_deBruijn32tab), ("math/bits.deBruijn64tab", laid_math_bits_deBruijn64tab), ("internal/strconv.uint64pow10", laid_internal_strconv_uint64pow10), ("strconv.ErrRange", laid_strconv_ErrRange), ("strconv.ErrSyntax", laid_strconv_ErrSyntax)] }
def GweiStringsSaid : Prop := gweiStringsRow.holds Tryd.pinned (OpenSpec.ofChange gweiStringsSpec)

/-- ITS FALSE NEIGHBOUR: 'it returns false'. Refute it at one input. -/
def gweiStringsWrong : ChangeSpec := { name := "gweiStrings", fn := fun _ => fun
  | [d1, d2] => { results := [.lit (.bool false)], args := [d1, d2] }
  | _ => none }
def GweiStringsWrongFalsely : Prop := gweiStringsRow.holds Tryd.pinned (OpenSpec.ofChange gweiStringsWrong)

/- THE SECOND FORM. 'bulk': how many values and letters a reading holds, each counted each time it is reached (what is shared counts as often as it is met; a slice's spare places count too). A statement '..UptoSaid' is the law's where the arguments, and the package variables that the reading takes, are together of bulk at most 1048576: NARROWER than '..Said'. Prove '..Said' where nothing that the law and all that it calls make is longer than what came in: it says more and counts as full. Else prove '..UptoSaid'. A law counts once. -/
mutual
def uptoBulk {H : Type} : DataW H → Nat
  | .lit (.string bytes) => bytes.length + 1
  | .lit _ => 1
  | .nil => 1
  | .ptr d => uptoBulk d + 1
  | .slice elems spare => uptoBulkAll elems + uptoBulkAll spare + 1
  | .agg parts => uptoBulkAll parts + 1
  | .iface _ d => uptoBulk d + 1
  | .map entries => uptoBulkEntries entries + 1
  | .held _ => 1
def uptoBulkAll {H : Type} : List (DataW H) → Nat
  | [] => 0
  | d :: r => uptoBulk d + uptoBulkAll r
def uptoBulkEntries {H : Type} : List (Lit × DataW H) → Nat
  | [] => 0
  | x :: r => uptoBulkEntry x + uptoBulkEntries r
def uptoBulkEntry {H : Type} : Lit × DataW H → Nat
  | (.string bytes, d) => bytes.length + uptoBulk d + 1
  | (_, d) => uptoBulk d + 1
 end
def uptoSmall : (H : Type) → List (DataW H) → Bool := fun _ ds => decide (uptoBulkAll ds ≤ 1048576)
def OpenSpec.upto (s : _root_.Go.ChangeSpec) : _root_.Go.OpenSpec := { _root_.Go.OpenSpec.ofChange s with cond := some uptoSmall }

/-- 'egresslaw01.GweiAdds', WHERE WHAT IT READS IS OF BULK AT MOST 1048576: true; the input reads as it did. -/
def gweiAddsUptoRow : OpenClaim := { program := "ytlgnandifaenaaadoor", sum := "f1012fcaa37aba0d1e6872bc7ed3279ef4c0b009c5b41f27520404df96eec3d8", func := "egress/egresslaw01.GweiAdds", spec := "gweiAdds", inPlace := ["math/bits.Add64"], named := ["math/bits.divideError", "math/bits.overflowError", "internal/strconv.uint64pow10", "math/bits.deBruijn32tab", "math/bits.deBruijn64tab"], apart := false, laid := [("math/bits.deBruijn32tab", laid_math_bits_deBruijn32tab), ("math/bits.deBruijn64tab", laid_math_bits_deBruijn64tab), ("internal/strconv.uint64pow10", laid_internal_strconv_uint64pow10)], narrowed := true }
def GweiAddsUptoSaid : Prop := gweiAddsUptoRow.holds Tryd.pinned (OpenSpec.upto gweiAddsSpec)

/-- 'egresslaw01.GweiSubtracts', WHERE WHAT IT READS IS OF BULK AT MOST 1048576: true; the input reads as it did. -/
def gweiSubtractsUptoRow : OpenClaim := { program := "ytlgnandifaenaaadoor", sum := "f1012fcaa37aba0d1e6872bc7ed3279ef4c0b009c5b41f27520404df96eec3d8", func := "egress/egresslaw01.GweiSubtracts", spec := "gweiSubtracts", inPlace := ["math/bits.Add64"], named := ["math/bits.divideError", "math/bits.overflowError", "internal/strconv.uint64pow10", "math/bits.deBruijn32tab", "math/bits.deBruijn64tab"], apart := false, laid := [("math/bits.deBruijn32tab", laid_math_bits_deBruijn32tab), ("math/bits.deBruijn64tab", laid_math_bits_deBruijn64tab), ("internal/strconv.uint64pow10", laid_internal_strconv_uint64pow10)], narrowed := true }
def GweiSubtractsUptoSaid : Prop := gweiSubtractsUptoRow.holds Tryd.pinned (OpenSpec.upto gweiSubtractsSpec)

/-- 'egresslaw01.GweiDivides', WHERE WHAT IT READS IS OF BULK AT MOST 1048576: true; the input reads as it did. -/
def gweiDividesUptoRow : OpenClaim := { program := "ytlgnandifaenaaadoor", sum := "f1012fcaa37aba0d1e6872bc7ed3279ef4c0b009c5b41f27520404df96eec3d8", func := "egress/egresslaw01.GweiDivides", spec := "gweiDivides", named := ["math/bits.divideError", "math/bits.overflowError", "internal/strconv.uint64pow10", "math/bits.deBruijn32tab", "math/bits.deBruijn64tab"], apart := false, laid := [("math/bits.deBruijn32tab", laid_math_bits_deBruijn32tab), ("math/bits.deBruijn64tab", laid_math_bits_deBruijn64tab), ("internal/strconv.uint64pow10", laid_internal_strconv_uint64pow10)], narrowed := true }
def GweiDividesUptoSaid : Prop := gweiDividesUptoRow.holds Tryd.pinned (OpenSpec.upto gweiDividesSpec)

/-- 'egresslaw01.GweiQuotients', WHERE WHAT IT READS IS OF BULK AT MOST 1048576: true; the input reads as it did. -/
def gweiQuotientsUptoRow : OpenClaim := { program := "ytlgnandifaenaaadoor", sum := "f1012fcaa37aba0d1e6872bc7ed3279ef4c0b009c5b41f27520404df96eec3d8", func := "egress/egresslaw01.GweiQuotients", spec := "gweiQuotients", named := ["math/bits.divideError", "math/bits.overflowError", "internal/strconv.uint64pow10", "math/bits.deBruijn32tab", "math/bits.deBruijn64tab"], apart := false, laid := [("math/bits.deBruijn32tab", laid_math_bits_deBruijn32tab), ("math/bits.deBruijn64tab", laid_math_bits_deBruijn64tab), ("internal/strconv.uint64pow10", laid_internal_strconv_uint64pow10)], narrowed := true }
def GweiQuotientsUptoSaid : Prop := gweiQuotientsUptoRow.holds Tryd.pinned (OpenSpec.upto gweiQuotientsSpec)

/-- 'egresslaw01.GweiCeils', WHERE WHAT IT READS IS OF BULK AT MOST 1048576: true; the input reads as it did. -/
def gweiCeilsUptoRow : OpenClaim := { program := "ytlgnandifaenaaadoor", sum := "f1012fcaa37aba0d1e6872bc7ed3279ef4c0b009c5b41f27520404df96eec3d8", func := "egress/egresslaw01.GweiCeils", spec := "gweiCeils", named := ["math/bits.divideError", "math/bits.overflowError", "internal/strconv.uint64pow10", "math/bits.deBruijn32tab", "math/bits.deBruijn64tab"], apart := false, laid := [("math/bits.deBruijn32tab", laid_math_bits_deBruijn32tab), ("math/bits.deBruijn64tab", laid_math_bits_deBruijn64tab), ("internal/strconv.uint64pow10", laid_internal_strconv_uint64pow10)], narrowed := true }
def GweiCeilsUptoSaid : Prop := gweiCeilsUptoRow.holds Tryd.pinned (OpenSpec.upto gweiCeilsSpec)

/-- 'egresslaw01.GweiStrings', WHERE WHAT IT READS IS OF BULK AT MOST 1048576: true; the input reads as it did. -/
def gweiStringsUptoRow : OpenClaim := { program := "ytlgnandifaenaaadoor", sum := "f1012fcaa37aba0d1e6872bc7ed3279ef4c0b009c5b41f27520404df96eec3d8", func := "egress/egresslaw01.GweiStrings", spec := "gweiStrings", recurses := true, named := ["math/bits.divideError", "math/bits.overflowError", "internal/strconv.uint64pow10", "math/bits.deBruijn32tab", "math/bits.deBruijn64tab", "strconv.ErrSyntax", "strconv.ErrRange"], apart := false, laid := [("math/bits.deBruijn32tab", laid_math_bits_deBruijn32tab), ("math/bits.deBruijn64tab", laid_math_bits_deBruijn64tab), ("internal/strconv.uint64pow10", laid_internal_strconv_uint64pow10), ("strconv.ErrRange", laid_strconv_ErrRange), ("strconv.ErrSyntax", laid_strconv_ErrSyntax)], narrowed := true }
def GweiStringsUptoSaid : Prop := gweiStringsUptoRow.holds Tryd.pinned (OpenSpec.upto gweiStringsSpec)

end Rows
end Go.Proofs.YtlgnandifaenaaaDoor
