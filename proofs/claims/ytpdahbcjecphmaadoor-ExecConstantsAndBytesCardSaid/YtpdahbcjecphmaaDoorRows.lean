/-
  NARROWER THAN 'FOR EVERY INPUT', by the rows' own cells (each row's printed sentence says how): ExecuteMatchesReference: laid · ExecuteFrame: laid · ExecCallAndBranch: laid · ExecConstantsAndBytes: laid · ExecStoreThenLoadWord: laid · ExecInstructionsIgnoreTime: laid.
  DERIVED. THE GIVEN ROWS OF THIS SEAT. 6 by the template 'for every input the law returns true; each argument reads behind the call as it read before'; 0 by the template 'total and deterministic' (their statements: YtpdahbcjecphmaaDoorTotals.lean).
  GIVEN WITH THE SEED: the statements are not yours to turn. If you find one false, say at which input.
  Laid BY PROGRAM, IN A SANDBOX (cutbox-rows.mjs): the forced cells as the released guide's own fill.sh prints them over the translation 0693f03a6fe05692… (all of the seat's roots in one cut). By AI agents, Wed Nov 11 2026. No macro, syntax, notation, axiom, sorry.
-/
import Derived.Test.YtpdahbcjecphmaaDoorChecked
import GoSem.Claim
import GoSem.ClaimJoined
import GoSem.ClaimMapViews
import Derived.JoinedTies
import Derived.KernelRfl
namespace Go.Proofs.YtpdahbcjecphmaaDoor
/- THE CELL 'sum', in the pinned program and in every row, IS THE sha256 OF THE DUMP (.gsa) THAT YtpdahbcjecphmaaDoorProg.lean LOADS. Nothing in Lean hashes anything: it is a label: what it is worth is what the hold of that sum in a sandbox is worth. -/
noncomputable def Tryd.pinned : Pinned := { name := "ytpdahbcjecphmaadoor", sum := "0693f03a6fe05692a356367c90c6377a7991ac0ec88d56f2bab1cc843f338325", checked := Tryd.checked }
namespace Rows
def none {H : Type} : Left H := { results := [], args := [] }

/- WHAT THE LISTED PACKAGE-LEVEL VARIABLES READ AS WHEN THE CALL BEGINS. Each datum BY PROGRAM (the guide's laid-datum.mjs) off the statement by which the dump's own 'gosem.cut.vars' lays the variable. In a bare row this is a premise. The card (YtpdahbcjecphmaaDoorCards.lean) ties it to the program's text. -/
def laid_gaoler_isa_formats {H : Type} : DataW H := .agg [.lit (.int .i64 0), .lit (.int .i64 1), .lit (.int .i64 1), .lit (.int .i64 1), .lit (.int .i64 1), .lit (.int .i64 1), .lit (.int .i64 1), .lit (.int .i64 1), .lit (.int .i64 1), .lit (.int .i64 2), .lit (.int .i64 3), .lit (.int .i64 2), .lit (.int .i64 2), .lit (.int .i64 2), .lit (.int .i64 2), .lit (.int .i64 2), .lit (.int .i64 2), .lit (.int .i64 2), .lit (.int .i64 3), .lit (.int .i64 2), .lit (.int .i64 4), .lit (.int .i64 5), .lit (.int .i64 6), .lit (.int .i64 4), .lit (.int .i64 4), .lit (.int .i64 7)]
def laid_gaoler_isa_operandsOf {H : Type} : DataW H := .agg [.agg [.lit (.bool false), .lit (.bool false), .lit (.bool false), .lit (.bool false), .lit (.bool false)], .agg [.lit (.bool true), .lit (.bool true), .lit (.bool true), .lit (.bool false), .lit (.bool false)], .agg [.lit (.bool true), .lit (.bool true), .lit (.bool false), .lit (.bool true), .lit (.bool false)], .agg [.lit (.bool true), .lit (.bool false), .lit (.bool false), .lit (.bool true), .lit (.bool false)], .agg [.lit (.bool false), .lit (.bool false), .lit (.bool false), .lit (.bool false), .lit (.bool false)], .agg [.lit (.bool true), .lit (.bool false), .lit (.bool false), .lit (.bool false), .lit (.bool true)], .agg [.lit (.bool false), .lit (.bool true), .lit (.bool false), .lit (.bool false), .lit (.bool true)], .agg [.lit (.bool false), .lit (.bool true), .lit (.bool false), .lit (.bool false), .lit (.bool false)]]

/-- 'gaolerlaw11.ExecuteMatchesReference': WHATEVER THE INPUT: true; the input reads as it did. -/
def executeMatchesReferenceSpec : ChangeSpec := { name := "executeMatchesReference", fn := fun _ => fun
  | [d1, d2, d3] => { results := [.lit (.bool true)], args := [d1, d2, d3] }
  | _ => none }
def executeMatchesReferenceRow : OpenClaim := { program := "ytpdahbcjecphmaadoor", sum := "0693f03a6fe05692a356367c90c6377a7991ac0ec88d56f2bab1cc843f338325", func := "gaoler/gaolerlaw11.ExecuteMatchesReference", spec := "executeMatchesReference", unfollowed := true, recurses := true, named := ["gaoler/isa.operandsOf", "gaoler/isa.formats"], apart := false, laid := [("gaoler/isa.formats", laid_gaoler_isa_formats), ("gaoler/isa.operandsOf", laid_gaoler_isa_operandsOf)] }
def ExecuteMatchesReferenceSaid : Prop := executeMatchesReferenceRow.holds Tryd.pinned (OpenSpec.ofChange executeMatchesReferenceSpec)

/-- ITS FALSE NEIGHBOUR: 'it returns false'. Refute it at one input. -/
def executeMatchesReferenceWrong : ChangeSpec := { name := "executeMatchesReference", fn := fun _ => fun
  | [d1, d2, d3] => { results := [.lit (.bool false)], args := [d1, d2, d3] }
  | _ => none }
def ExecuteMatchesReferenceWrongFalsely : Prop := executeMatchesReferenceRow.holds Tryd.pinned (OpenSpec.ofChange executeMatchesReferenceWrong)

/-- 'gaolerlaw11.ExecuteFrame': WHATEVER THE INPUT: true; the input reads as it did. -/
def executeFrameSpec : ChangeSpec := { name := "executeFrame", fn := fun _ => fun
  | [d1, d2] => { results := [.lit (.bool true)], args := [d1, d2] }
  | _ => none }
def executeFrameRow : OpenClaim := { program := "ytpdahbcjecphmaadoor", sum := "0693f03a6fe05692a356367c90c6377a7991ac0ec88d56f2bab1cc843f338325", func := "gaoler/gaolerlaw11.ExecuteFrame", spec := "executeFrame", unfollowed := true, recurses := true, named := ["gaoler/isa.operandsOf", "gaoler/isa.formats"], apart := false, laid := [("gaoler/isa.formats", laid_gaoler_isa_formats), ("gaoler/isa.operandsOf", laid_gaoler_isa_operandsOf)] }
def ExecuteFrameSaid : Prop := executeFrameRow.holds Tryd.pinned (OpenSpec.ofChange executeFrameSpec)

/-- ITS FALSE NEIGHBOUR: 'it returns false'. Refute it at one input. -/
def executeFrameWrong : ChangeSpec := { name := "executeFrame", fn := fun _ => fun
  | [d1, d2] => { results := [.lit (.bool false)], args := [d1, d2] }
  | _ => none }
def ExecuteFrameWrongFalsely : Prop := executeFrameRow.holds Tryd.pinned (OpenSpec.ofChange executeFrameWrong)

/-- 'gaolerlaw11.ExecCallAndBranch': WHATEVER THE INPUT: true; the input reads as it did. -/
def execCallAndBranchSpec : ChangeSpec := { name := "execCallAndBranch", fn := fun _ => fun
  | [d1, d2, d3, d4] => { results := [.lit (.bool true)], args := [d1, d2, d3, d4] }
  | _ => none }
def execCallAndBranchRow : OpenClaim := { program := "ytpdahbcjecphmaadoor", sum := "0693f03a6fe05692a356367c90c6377a7991ac0ec88d56f2bab1cc843f338325", func := "gaoler/gaolerlaw11.ExecCallAndBranch", spec := "execCallAndBranch", unfollowed := true, recurses := true, named := ["gaoler/isa.operandsOf", "gaoler/isa.formats"], apart := false, laid := [("gaoler/isa.formats", laid_gaoler_isa_formats), ("gaoler/isa.operandsOf", laid_gaoler_isa_operandsOf)] }
def ExecCallAndBranchSaid : Prop := execCallAndBranchRow.holds Tryd.pinned (OpenSpec.ofChange execCallAndBranchSpec)

/-- ITS FALSE NEIGHBOUR: 'it returns false'. Refute it at one input. -/
def execCallAndBranchWrong : ChangeSpec := { name := "execCallAndBranch", fn := fun _ => fun
  | [d1, d2, d3, d4] => { results := [.lit (.bool false)], args := [d1, d2, d3, d4] }
  | _ => none }
def ExecCallAndBranchWrongFalsely : Prop := execCallAndBranchRow.holds Tryd.pinned (OpenSpec.ofChange execCallAndBranchWrong)

/-- 'gaolerlaw11.ExecConstantsAndBytes': WHATEVER THE INPUT: true; the input reads as it did. -/
def execConstantsAndBytesSpec : ChangeSpec := { name := "execConstantsAndBytes", fn := fun _ => fun
  | [d1, d2, d3] => { results := [.lit (.bool true)], args := [d1, d2, d3] }
  | _ => none }
def execConstantsAndBytesRow : OpenClaim := { program := "ytpdahbcjecphmaadoor", sum := "0693f03a6fe05692a356367c90c6377a7991ac0ec88d56f2bab1cc843f338325", func := "gaoler/gaolerlaw11.ExecConstantsAndBytes", spec := "execConstantsAndBytes", unfollowed := true, recurses := true, named := ["gaoler/isa.operandsOf", "gaoler/isa.formats"], apart := false, laid := [("gaoler/isa.formats", laid_gaoler_isa_formats), ("gaoler/isa.operandsOf", laid_gaoler_isa_operandsOf)] }
def ExecConstantsAndBytesSaid : Prop := execConstantsAndBytesRow.holds Tryd.pinned (OpenSpec.ofChange execConstantsAndBytesSpec)

/-- ITS FALSE NEIGHBOUR: 'it returns false'. Refute it at one input. -/
def execConstantsAndBytesWrong : ChangeSpec := { name := "execConstantsAndBytes", fn := fun _ => fun
  | [d1, d2, d3] => { results := [.lit (.bool false)], args := [d1, d2, d3] }
  | _ => none }
def ExecConstantsAndBytesWrongFalsely : Prop := execConstantsAndBytesRow.holds Tryd.pinned (OpenSpec.ofChange execConstantsAndBytesWrong)

/-- 'gaolerlaw11.ExecStoreThenLoadWord': WHATEVER THE INPUT: true; the input reads as it did. -/
def execStoreThenLoadWordSpec : ChangeSpec := { name := "execStoreThenLoadWord", fn := fun _ => fun
  | [d1, d2, d3] => { results := [.lit (.bool true)], args := [d1, d2, d3] }
  | _ => none }
def execStoreThenLoadWordRow : OpenClaim := { program := "ytpdahbcjecphmaadoor", sum := "0693f03a6fe05692a356367c90c6377a7991ac0ec88d56f2bab1cc843f338325", func := "gaoler/gaolerlaw11.ExecStoreThenLoadWord", spec := "execStoreThenLoadWord", unfollowed := true, recurses := true, named := ["gaoler/isa.operandsOf", "gaoler/isa.formats"], apart := false, laid := [("gaoler/isa.formats", laid_gaoler_isa_formats), ("gaoler/isa.operandsOf", laid_gaoler_isa_operandsOf)] }
def ExecStoreThenLoadWordSaid : Prop := execStoreThenLoadWordRow.holds Tryd.pinned (OpenSpec.ofChange execStoreThenLoadWordSpec)

/-- ITS FALSE NEIGHBOUR: 'it returns false'. Refute it at one input. -/
def execStoreThenLoadWordWrong : ChangeSpec := { name := "execStoreThenLoadWord", fn := fun _ => fun
  | [d1, d2, d3] => { results := [.lit (.bool false)], args := [d1, d2, d3] }
  | _ => none }
def ExecStoreThenLoadWordWrongFalsely : Prop := execStoreThenLoadWordRow.holds Tryd.pinned (OpenSpec.ofChange execStoreThenLoadWordWrong)

/-- 'gaolerlaw11.ExecInstructionsIgnoreTime': WHATEVER THE INPUT: true; the input reads as it did. -/
def execInstructionsIgnoreTimeSpec : ChangeSpec := { name := "execInstructionsIgnoreTime", fn := fun _ => fun
  | [d1, d2, d3] => { results := [.lit (.bool true)], args := [d1, d2, d3] }
  | _ => none }
def execInstructionsIgnoreTimeRow : OpenClaim := { program := "ytpdahbcjecphmaadoor", sum := "0693f03a6fe05692a356367c90c6377a7991ac0ec88d56f2bab1cc843f338325", func := "gaoler/gaolerlaw11.ExecInstructionsIgnoreTime", spec := "execInstructionsIgnoreTime", unfollowed := true, recurses := true, named := ["gaoler/isa.operandsOf", "gaoler/isa.formats"], apart := false, laid := [("gaoler/isa.formats", laid_gaoler_isa_formats), ("gaoler/isa.operandsOf", laid_gaoler_isa_operandsOf)] }
def ExecInstructionsIgnoreTimeSaid : Prop := execInstructionsIgnoreTimeRow.holds Tryd.pinned (OpenSpec.ofChange execInstructionsIgnoreTimeSpec)

/-- ITS FALSE NEIGHBOUR: 'it returns false'. Refute it at one input. -/
def execInstructionsIgnoreTimeWrong : ChangeSpec := { name := "execInstructionsIgnoreTime", fn := fun _ => fun
  | [d1, d2, d3] => { results := [.lit (.bool false)], args := [d1, d2, d3] }
  | _ => none }
def ExecInstructionsIgnoreTimeWrongFalsely : Prop := execInstructionsIgnoreTimeRow.holds Tryd.pinned (OpenSpec.ofChange execInstructionsIgnoreTimeWrong)

/- THE SECOND FORM. 'bulk': how many values and letters a reading holds, each counted each time it is reached (what is shared counts as often as it is met; a slice's spare places count too). A statement '..UptoSaid' is the law's where the arguments, and the package variables that the reading takes, are together of bulk at most 1048576: NARROWER than '..Said'. Prove '..Said' where nothing that the law and all that it calls make is longer than what came in: it says more and counts as full. Else prove '..UptoSaid'. A law counts once. -/
mutual
def uptoBulk {H : Type} : DataW H → Nat
  | .lit (.string bytes) => bytes.length + 1
  | .lit _ => 1
  | .nil => 1
  | .ptr d => uptoBulk d + 1
  | .slice elems spare => uptoBulkAll elems + uptoBulkAll spare + 1
  | .agg parts => uptoBulkAll parts + 1
  | .iface _ d => uptoBulk d + 1
  | .map entries => uptoBulkEntries entries + 1
  | .held _ => 1
def uptoBulkAll {H : Type} : List (DataW H) → Nat
  | [] => 0
  | d :: r => uptoBulk d + uptoBulkAll r
def uptoBulkEntries {H : Type} : List (Lit × DataW H) → Nat
  | [] => 0
  | x :: r => uptoBulkEntry x + uptoBulkEntries r
def uptoBulkEntry {H : Type} : Lit × DataW H → Nat
  | (.string bytes, d) => bytes.length + uptoBulk d + 1
  | (_, d) => uptoBulk d + 1
 end
def uptoSmall : (H : Type) → List (DataW H) → Bool := fun _ ds => decide (uptoBulkAll ds ≤ 1048576)
def OpenSpec.upto (s : _root_.Go.ChangeSpec) : _root_.Go.OpenSpec := { _root_.Go.OpenSpec.ofChange s with cond := some uptoSmall }

/-- 'gaolerlaw11.ExecuteMatchesReference', WHERE WHAT IT READS IS OF BULK AT MOST 1048576: true; the input reads as it did. -/
def executeMatchesReferenceUptoRow : OpenClaim := { program := "ytpdahbcjecphmaadoor", sum := "0693f03a6fe05692a356367c90c6377a7991ac0ec88d56f2bab1cc843f338325", func := "gaoler/gaolerlaw11.ExecuteMatchesReference", spec := "executeMatchesReference", unfollowed := true, recurses := true, named := ["gaoler/isa.operandsOf", "gaoler/isa.formats"], apart := false, laid := [("gaoler/isa.formats", laid_gaoler_isa_formats), ("gaoler/isa.operandsOf", laid_gaoler_isa_operandsOf)], narrowed := true }
def ExecuteMatchesReferenceUptoSaid : Prop := executeMatchesReferenceUptoRow.holds Tryd.pinned (OpenSpec.upto executeMatchesReferenceSpec)

/-- 'gaolerlaw11.ExecuteFrame', WHERE WHAT IT READS IS OF BULK AT MOST 1048576: true; the input reads as it did. -/
def executeFrameUptoRow : OpenClaim := { program := "ytpdahbcjecphmaadoor", sum := "0693f03a6fe05692a356367c90c6377a7991ac0ec88d56f2bab1cc843f338325", func := "gaoler/gaolerlaw11.ExecuteFrame", spec := "executeFrame", unfollowed := true, recurses := true, named := ["gaoler/isa.operandsOf", "gaoler/isa.formats"], apart := false, laid := [("gaoler/isa.formats", laid_gaoler_isa_formats), ("gaoler/isa.operandsOf", laid_gaoler_isa_operandsOf)], narrowed := true }
def ExecuteFrameUptoSaid : Prop := executeFrameUptoRow.holds Tryd.pinned (OpenSpec.upto executeFrameSpec)

/-- 'gaolerlaw11.ExecCallAndBranch', WHERE WHAT IT READS IS OF BULK AT MOST 1048576: true; the input reads as it did. -/
def execCallAndBranchUptoRow : OpenClaim := { program := "ytpdahbcjecphmaadoor", sum := "0693f03a6fe05692a356367c90c6377a7991ac0ec88d56f2bab1cc843f338325", func := "gaoler/gaolerlaw11.ExecCallAndBranch", spec := "execCallAndBranch", unfollowed := true, recurses := true, named := ["gaoler/isa.operandsOf", "gaoler/isa.formats"], apart := false, laid := [("gaoler/isa.formats", laid_gaoler_isa_formats), ("gaoler/isa.operandsOf", laid_gaoler_isa_operandsOf)], narrowed := true }
def ExecCallAndBranchUptoSaid : Prop := execCallAndBranchUptoRow.holds Tryd.pinned (OpenSpec.upto execCallAndBranchSpec)

/-- 'gaolerlaw11.ExecConstantsAndBytes', WHERE WHAT IT READS IS OF BULK AT MOST 1048576: true; the input reads as it did. -/
def execConstantsAndBytesUptoRow : OpenClaim := { program := "ytpdahbcjecphmaadoor", sum := "0693f03a6fe05692a356367c90c6377a7991ac0ec88d56f2bab1cc843f338325", func := "gaoler/gaolerlaw11.ExecConstantsAndBytes", spec := "execConstantsAndBytes", unfollowed := true, recurses := true, named := ["gaoler/isa.operandsOf", "gaoler/isa.formats"], apart := false, laid := [("gaoler/isa.formats", laid_gaoler_isa_formats), ("gaoler/isa.operandsOf", laid_gaoler_isa_operandsOf)], narrowed := true }
def ExecConstantsAndBytesUptoSaid : Prop := execConstantsAndBytesUptoRow.holds Tryd.pinned (OpenSpec.upto execConstantsAndBytesSpec)

/-- 'gaolerlaw11.ExecStoreThenLoadWord', WHERE WHAT IT READS IS OF BULK AT MOST 1048576: true; the input reads as it did. -/
def execStoreThenLoadWordUptoRow : OpenClaim := { program := "ytpdahbcjecphmaadoor", sum := "0693f03a6fe05692a356367c90c6377a7991ac0ec88d56f2bab1cc843f338325", func := "gaoler/gaolerlaw11.ExecStoreThenLoadWord", spec := "execStoreThenLoadWord", unfollowed := true, recurses := true, named := ["gaoler/isa.operandsOf", "gaoler/isa.formats"], apart := false, laid := [("gaoler/isa.formats", laid_gaoler_isa_formats), ("gaoler/isa.operandsOf", laid_gaoler_isa_operandsOf)], narrowed := true }
def ExecStoreThenLoadWordUptoSaid : Prop := execStoreThenLoadWordUptoRow.holds Tryd.pinned (OpenSpec.upto execStoreThenLoadWordSpec)

/-- 'gaolerlaw11.ExecInstructionsIgnoreTime', WHERE WHAT IT READS IS OF BULK AT MOST 1048576: true; the input reads as it did. -/
def execInstructionsIgnoreTimeUptoRow : OpenClaim := { program := "ytpdahbcjecphmaadoor", sum := "0693f03a6fe05692a356367c90c6377a7991ac0ec88d56f2bab1cc843f338325", func := "gaoler/gaolerlaw11.ExecInstructionsIgnoreTime", spec := "execInstructionsIgnoreTime", unfollowed := true, recurses := true, named := ["gaoler/isa.operandsOf", "gaoler/isa.formats"], apart := false, laid := [("gaoler/isa.formats", laid_gaoler_isa_formats), ("gaoler/isa.operandsOf", laid_gaoler_isa_operandsOf)], narrowed := true }
def ExecInstructionsIgnoreTimeUptoSaid : Prop := execInstructionsIgnoreTimeUptoRow.holds Tryd.pinned (OpenSpec.upto execInstructionsIgnoreTimeSpec)

end Rows
end Go.Proofs.YtpdahbcjecphmaaDoor
