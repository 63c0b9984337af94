/-
  NARROWER THAN 'FOR EVERY INPUT', by the rows' own cells (each row's printed sentence says how): StatusNext: laid · StatusRuns: laid · StatusKinds: laid · StatusNames: laid · StatusPaid: laid · StatusSlash: laid.
  DERIVED. THE GIVEN ROWS OF THIS SEAT. 6 by the template 'for every input the law returns true; each argument reads behind the call as it read before'; 0 by the template 'total and deterministic' (their statements: YtdkojcmffkhpkaaDoorTotals.lean).
  GIVEN WITH THE SEED: the statements are not yours to turn. If you find one false, say at which input.
  Laid BY PROGRAM, IN A SANDBOX (cutbox-rows.mjs): the forced cells as the released guide's own fill.sh prints them over the translation 963c1b8489d7f2ed… (all of the seat's roots in one cut). By AI agents, Wed Nov 11 2026. No macro, syntax, notation, axiom, sorry.
-/
import Derived.Test.YtdkojcmffkhpkaaDoorChecked
import GoSem.Claim
import GoSem.ClaimJoined
import GoSem.ClaimMapViews
import Derived.JoinedTies
import Derived.KernelRfl
namespace Go.Proofs.YtdkojcmffkhpkaaDoor
/- THE CELL 'sum', in the pinned program and in every row, IS THE sha256 OF THE DUMP (.gsa) THAT YtdkojcmffkhpkaaDoorProg.lean LOADS. Nothing in Lean hashes anything: it is a label: what it is worth is what the hold of that sum in a sandbox is worth. -/
noncomputable def Tryd.pinned : Pinned := { name := "ytdkojcmffkhpkaadoor", sum := "963c1b8489d7f2ed1db7c07cdcd3d7069309ccbca0df4f2194020d155d5d41a6", checked := Tryd.checked }
namespace Rows
def none {H : Type} : Left H := { results := [], args := [] }

/- WHAT THE LISTED PACKAGE-LEVEL VARIABLES READ AS WHEN THE CALL BEGINS. Each datum BY PROGRAM (the guide's laid-datum.mjs) off the statement by which the dump's own 'gosem.cut.vars' lays the variable. In a bare row this is a premise. The card (YtdkojcmffkhpkaaDoorCards.lean) ties it to the program's text. -/
def laid_egress_status_names {H : Type} : DataW H := .agg [.lit (.string [112, 101, 110, 100, 105, 110, 103]), .lit (.string [97, 99, 116, 105, 118, 101]), .lit (.string [101, 120, 105, 116, 105, 110, 103]), .lit (.string [117, 110, 98, 111, 110, 100, 105, 110, 103]), .lit (.string [119, 105, 116, 104, 100, 114, 97, 119, 97, 98, 108, 101]), .lit (.string [112, 97, 105, 100]), .lit (.string [109, 101, 114, 103, 101, 100])]

/-- 'egresslaw05.StatusNext': WHATEVER THE INPUT: true; the input reads as it did. -/
def statusNextSpec : ChangeSpec := { name := "statusNext", fn := fun _ => fun
  | [d1, d2] => { results := [.lit (.bool true)], args := [d1, d2] }
  | _ => none }
def statusNextRow : OpenClaim := { program := "ytdkojcmffkhpkaadoor", sum := "963c1b8489d7f2ed1db7c07cdcd3d7069309ccbca0df4f2194020d155d5d41a6", func := "egress/egresslaw05.StatusNext", spec := "statusNext", named := ["egress/status.names"], plainKeys := false, apart := false, laid := [("egress/status.names", laid_egress_status_names)] }
def StatusNextSaid : Prop := statusNextRow.holds Tryd.pinned (OpenSpec.ofChange statusNextSpec)

/-- ITS FALSE NEIGHBOUR: 'it returns false'. Refute it at one input. -/
def statusNextWrong : ChangeSpec := { name := "statusNext", fn := fun _ => fun
  | [d1, d2] => { results := [.lit (.bool false)], args := [d1, d2] }
  | _ => none }
def StatusNextWrongFalsely : Prop := statusNextRow.holds Tryd.pinned (OpenSpec.ofChange statusNextWrong)

/-- 'egresslaw05.StatusRuns': WHATEVER THE INPUT: true; the input reads as it did. -/
def statusRunsSpec : ChangeSpec := { name := "statusRuns", fn := fun _ => fun
  | [d1, d2] => { results := [.lit (.bool true)], args := [d1, d2] }
  | _ => none }
def statusRunsRow : OpenClaim := { program := "ytdkojcmffkhpkaadoor", sum := "963c1b8489d7f2ed1db7c07cdcd3d7069309ccbca0df4f2194020d155d5d41a6", func := "egress/egresslaw05.StatusRuns", spec := "statusRuns", named := ["egress/status.names"], plainKeys := false, apart := false, laid := [("egress/status.names", laid_egress_status_names)] }
def StatusRunsSaid : Prop := statusRunsRow.holds Tryd.pinned (OpenSpec.ofChange statusRunsSpec)

/-- ITS FALSE NEIGHBOUR: 'it returns false'. Refute it at one input. -/
def statusRunsWrong : ChangeSpec := { name := "statusRuns", fn := fun _ => fun
  | [d1, d2] => { results := [.lit (.bool false)], args := [d1, d2] }
  | _ => none }
def StatusRunsWrongFalsely : Prop := statusRunsRow.holds Tryd.pinned (OpenSpec.ofChange statusRunsWrong)

/-- 'egresslaw05.StatusKinds': WHATEVER THE INPUT: true; the input reads as it did. -/
def statusKindsSpec : ChangeSpec := { name := "statusKinds", fn := fun _ => fun
  | [d1, d2] => { results := [.lit (.bool true)], args := [d1, d2] }
  | _ => none }
def statusKindsRow : OpenClaim := { program := "ytdkojcmffkhpkaadoor", sum := "963c1b8489d7f2ed1db7c07cdcd3d7069309ccbca0df4f2194020d155d5d41a6", func := "egress/egresslaw05.StatusKinds", spec := "statusKinds", named := ["egress/status.names"], plainKeys := false, apart := false, laid := [("egress/status.names", laid_egress_status_names)] }
def StatusKindsSaid : Prop := statusKindsRow.holds Tryd.pinned (OpenSpec.ofChange statusKindsSpec)

/-- ITS FALSE NEIGHBOUR: 'it returns false'. Refute it at one input. -/
def statusKindsWrong : ChangeSpec := { name := "statusKinds", fn := fun _ => fun
  | [d1, d2] => { results := [.lit (.bool false)], args := [d1, d2] }
  | _ => none }
def StatusKindsWrongFalsely : Prop := statusKindsRow.holds Tryd.pinned (OpenSpec.ofChange statusKindsWrong)

/-- 'egresslaw05.StatusNames': WHATEVER THE INPUT: true; the input reads as it did. -/
def statusNamesSpec : ChangeSpec := { name := "statusNames", fn := fun _ => fun
  | [d1, d2] => { results := [.lit (.bool true)], args := [d1, d2] }
  | _ => none }
def statusNamesRow : OpenClaim := { program := "ytdkojcmffkhpkaadoor", sum := "963c1b8489d7f2ed1db7c07cdcd3d7069309ccbca0df4f2194020d155d5d41a6", func := "egress/egresslaw05.StatusNames", spec := "statusNames", named := ["egress/status.names"], plainKeys := false, apart := false, laid := [("egress/status.names", laid_egress_status_names)] }
def StatusNamesSaid : Prop := statusNamesRow.holds Tryd.pinned (OpenSpec.ofChange statusNamesSpec)

/-- ITS FALSE NEIGHBOUR: 'it returns false'. Refute it at one input. -/
def statusNamesWrong : ChangeSpec := { name := "statusNames", fn := fun _ => fun
  | [d1, d2] => { results := [.lit (.bool false)], args := [d1, d2] }
  | _ => none }
def StatusNamesWrongFalsely : Prop := statusNamesRow.holds Tryd.pinned (OpenSpec.ofChange statusNamesWrong)

/-- 'egresslaw05.StatusPaid': WHATEVER THE INPUT: true; the input reads as it did. -/
def statusPaidSpec : ChangeSpec := { name := "statusPaid", fn := fun _ => fun
  | [d] => { results := [.lit (.bool true)], args := [d] }
  | _ => none }
def statusPaidRow : OpenClaim := { program := "ytdkojcmffkhpkaadoor", sum := "963c1b8489d7f2ed1db7c07cdcd3d7069309ccbca0df4f2194020d155d5d41a6", func := "egress/egresslaw05.StatusPaid", spec := "statusPaid", named := ["egress/status.names"], plainKeys := false, apart := false, laid := [("egress/status.names", laid_egress_status_names)] }
def StatusPaidSaid : Prop := statusPaidRow.holds Tryd.pinned (OpenSpec.ofChange statusPaidSpec)

/-- ITS FALSE NEIGHBOUR: 'it returns false'. Refute it at one input. -/
def statusPaidWrong : ChangeSpec := { name := "statusPaid", fn := fun _ => fun
  | [d] => { results := [.lit (.bool false)], args := [d] }
  | _ => none }
def StatusPaidWrongFalsely : Prop := statusPaidRow.holds Tryd.pinned (OpenSpec.ofChange statusPaidWrong)

/-- 'egresslaw05.StatusSlash': WHATEVER THE INPUT: true; the input reads as it did. -/
def statusSlashSpec : ChangeSpec := { name := "statusSlash", fn := fun _ => fun
  | [d] => { results := [.lit (.bool true)], args := [d] }
  | _ => none }
def statusSlashRow : OpenClaim := { program := "ytdkojcmffkhpkaadoor", sum := "963c1b8489d7f2ed1db7c07cdcd3d7069309ccbca0df4f2194020d155d5d41a6", func := "egress/egresslaw05.StatusSlash", spec := "statusSlash", named := ["egress/status.names"], plainKeys := false, apart := false, laid := [("egress/status.names", laid_egress_status_names)] }
def StatusSlashSaid : Prop := statusSlashRow.holds Tryd.pinned (OpenSpec.ofChange statusSlashSpec)

/-- ITS FALSE NEIGHBOUR: 'it returns false'. Refute it at one input. -/
def statusSlashWrong : ChangeSpec := { name := "statusSlash", fn := fun _ => fun
  | [d] => { results := [.lit (.bool false)], args := [d] }
  | _ => none }
def StatusSlashWrongFalsely : Prop := statusSlashRow.holds Tryd.pinned (OpenSpec.ofChange statusSlashWrong)

/- THE SECOND FORM. 'bulk': how many values and letters a reading holds, each counted each time it is reached (what is shared counts as often as it is met; a slice's spare places count too). A statement '..UptoSaid' is the law's where the arguments, and the package variables that the reading takes, are together of bulk at most 1048576: NARROWER than '..Said'. Prove '..Said' where nothing that the law and all that it calls make is longer than what came in: it says more and counts as full. Else prove '..UptoSaid'. A law counts once. -/
mutual
def uptoBulk {H : Type} : DataW H → Nat
  | .lit (.string bytes) => bytes.length + 1
  | .lit _ => 1
  | .nil => 1
  | .ptr d => uptoBulk d + 1
  | .slice elems spare => uptoBulkAll elems + uptoBulkAll spare + 1
  | .agg parts => uptoBulkAll parts + 1
  | .iface _ d => uptoBulk d + 1
  | .map entries => uptoBulkEntries entries + 1
  | .held _ => 1
def uptoBulkAll {H : Type} : List (DataW H) → Nat
  | [] => 0
  | d :: r => uptoBulk d + uptoBulkAll r
def uptoBulkEntries {H : Type} : List (Lit × DataW H) → Nat
  | [] => 0
  | x :: r => uptoBulkEntry x + uptoBulkEntries r
def uptoBulkEntry {H : Type} : Lit × DataW H → Nat
  | (.string bytes, d) => bytes.length + uptoBulk d + 1
  | (_, d) => uptoBulk d + 1
 end
def uptoSmall : (H : Type) → List (DataW H) → Bool := fun _ ds => decide (uptoBulkAll ds ≤ 1048576)
def OpenSpec.upto (s : _root_.Go.ChangeSpec) : _root_.Go.OpenSpec := { _root_.Go.OpenSpec.ofChange s with cond := some uptoSmall }

/-- 'egresslaw05.StatusNext', WHERE WHAT IT READS IS OF BULK AT MOST 1048576: true; the input reads as it did. -/
def statusNextUptoRow : OpenClaim := { program := "ytdkojcmffkhpkaadoor", sum := "963c1b8489d7f2ed1db7c07cdcd3d7069309ccbca0df4f2194020d155d5d41a6", func := "egress/egresslaw05.StatusNext", spec := "statusNext", named := ["egress/status.names"], plainKeys := false, apart := false, laid := [("egress/status.names", laid_egress_status_names)], narrowed := true }
def StatusNextUptoSaid : Prop := statusNextUptoRow.holds Tryd.pinned (OpenSpec.upto statusNextSpec)

/-- 'egresslaw05.StatusRuns', WHERE WHAT IT READS IS OF BULK AT MOST 1048576: true; the input reads as it did. -/
def statusRunsUptoRow : OpenClaim := { program := "ytdkojcmffkhpkaadoor", sum := "963c1b8489d7f2ed1db7c07cdcd3d7069309ccbca0df4f2194020d155d5d41a6", func := "egress/egresslaw05.StatusRuns", spec := "statusRuns", named := ["egress/status.names"], plainKeys := false, apart := false, laid := [("egress/status.names", laid_egress_status_names)], narrowed := true }
def StatusRunsUptoSaid : Prop := statusRunsUptoRow.holds Tryd.pinned (OpenSpec.upto statusRunsSpec)

/-- 'egresslaw05.StatusKinds', WHERE WHAT IT READS IS OF BULK AT MOST 1048576: true; the input reads as it did. -/
def statusKindsUptoRow : OpenClaim := { program := "ytdkojcmffkhpkaadoor", sum := "963c1b8489d7f2ed1db7c07cdcd3d7069309ccbca0df4f2194020d155d5d41a6", func := "egress/egresslaw05.StatusKinds", spec := "statusKinds", named := ["egress/status.names"], plainKeys := false, apart := false, laid := [("egress/status.names", laid_egress_status_names)], narrowed := true }
def StatusKindsUptoSaid : Prop := statusKindsUptoRow.holds Tryd.pinned (OpenSpec.upto statusKindsSpec)

/-- 'egresslaw05.StatusNames', WHERE WHAT IT READS IS OF BULK AT MOST 1048576: true; the input reads as it did. -/
def statusNamesUptoRow : OpenClaim := { program := "ytdkojcmffkhpkaadoor", sum := "963c1b8489d7f2ed1db7c07cdcd3d7069309ccbca0df4f2194020d155d5d41a6", func := "egress/egresslaw05.StatusNames", spec := "statusNames", named := ["egress/status.names"], plainKeys := false, apart := false, laid := [("egress/status.names", laid_egress_status_names)], narrowed := true }
def StatusNamesUptoSaid : Prop := statusNamesUptoRow.holds Tryd.pinned (OpenSpec.upto statusNamesSpec)

/-- 'egresslaw05.StatusPaid', WHERE WHAT IT READS IS OF BULK AT MOST 1048576: true; the input reads as it did. -/
def statusPaidUptoRow : OpenClaim := { program := "ytdkojcmffkhpkaadoor", sum := "963c1b8489d7f2ed1db7c07cdcd3d7069309ccbca0df4f2194020d155d5d41a6", func := "egress/egresslaw05.StatusPaid", spec := "statusPaid", named := ["egress/status.names"], plainKeys := false, apart := false, laid := [("egress/status.names", laid_egress_status_names)], narrowed := true }
def StatusPaidUptoSaid : Prop := statusPaidUptoRow.holds Tryd.pinned (OpenSpec.upto statusPaidSpec)

/-- 'egresslaw05.StatusSlash', WHERE WHAT IT READS IS OF BULK AT MOST 1048576: true; the input reads as it did. -/
def statusSlashUptoRow : OpenClaim := { program := "ytdkojcmffkhpkaadoor", sum := "963c1b8489d7f2ed1db7c07cdcd3d7069309ccbca0df4f2194020d155d5d41a6", func := "egress/egresslaw05.StatusSlash", spec := "statusSlash", named := ["egress/status.names"], plainKeys := false, apart := false, laid := [("egress/status.names", laid_egress_status_names)], narrowed := true }
def StatusSlashUptoSaid : Prop := statusSlashUptoRow.holds Tryd.pinned (OpenSpec.upto statusSlashSpec)

end Rows
end Go.Proofs.YtdkojcmffkhpkaaDoor
