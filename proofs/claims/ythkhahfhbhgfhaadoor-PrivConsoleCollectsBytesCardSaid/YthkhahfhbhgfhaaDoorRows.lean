/-
  NARROWER THAN 'FOR EVERY INPUT', by the rows' own cells (each row's printed sentence says how): ExecuteFrame: laid · PrivilegedMatchesReference: laid · PrivilegedFrame: laid · PrivReadWriteCsr: laid · PrivEretReturns: laid · PrivConsoleCollectsBytes: laid.
  DERIVED. THE GIVEN ROWS OF THIS SEAT. 6 by the template 'for every input the law returns true; each argument reads behind the call as it read before'; 0 by the template 'total and deterministic' (their statements: YthkhahfhbhgfhaaDoorTotals.lean).
  GIVEN WITH THE SEED: the statements are not yours to turn. If you find one false, say at which input.
  Laid BY PROGRAM, IN A SANDBOX (cutbox-rows.mjs): the forced cells as the released guide's own fill.sh prints them over the translation a4a61338b8be4bb4… (all of the seat's roots in one cut). By AI agents, Wed Nov 11 2026. No macro, syntax, notation, axiom, sorry.
-/
import Derived.Test.YthkhahfhbhgfhaaDoorChecked
import GoSem.Claim
import GoSem.ClaimJoined
import GoSem.ClaimMapViews
import Derived.JoinedTies
import Derived.KernelRfl
namespace Go.Proofs.YthkhahfhbhgfhaaDoor
/- THE CELL 'sum', in the pinned program and in every row, IS THE sha256 OF THE DUMP (.gsa) THAT YthkhahfhbhgfhaaDoorProg.lean LOADS. Nothing in Lean hashes anything: it is a label: what it is worth is what the hold of that sum in a sandbox is worth. -/
noncomputable def Tryd.pinned : Pinned := { name := "ythkhahfhbhgfhaadoor", sum := "a4a61338b8be4bb413325116972ef9bfdb0a786a3322919e7a1dedbaa5883b48", checked := Tryd.checked }
namespace Rows
def none {H : Type} : Left H := { results := [], args := [] }

/- WHAT THE LISTED PACKAGE-LEVEL VARIABLES READ AS WHEN THE CALL BEGINS. Each datum BY PROGRAM (the guide's laid-datum.mjs) off the statement by which the dump's own 'gosem.cut.vars' lays the variable. In a bare row this is a premise. The card (YthkhahfhbhgfhaaDoorCards.lean) ties it to the program's text. -/
def laid_gaoler_isa_formats {H : Type} : DataW H := .agg [.lit (.int .i64 0), .lit (.int .i64 1), .lit (.int .i64 1), .lit (.int .i64 1), .lit (.int .i64 1), .lit (.int .i64 1), .lit (.int .i64 1), .lit (.int .i64 1), .lit (.int .i64 1), .lit (.int .i64 2), .lit (.int .i64 3), .lit (.int .i64 2), .lit (.int .i64 2), .lit (.int .i64 2), .lit (.int .i64 2), .lit (.int .i64 2), .lit (.int .i64 2), .lit (.int .i64 2), .lit (.int .i64 3), .lit (.int .i64 2), .lit (.int .i64 4), .lit (.int .i64 5), .lit (.int .i64 6), .lit (.int .i64 4), .lit (.int .i64 4), .lit (.int .i64 7)]
def laid_gaoler_isa_operandsOf {H : Type} : DataW H := .agg [.agg [.lit (.bool false), .lit (.bool false), .lit (.bool false), .lit (.bool false), .lit (.bool false)], .agg [.lit (.bool true), .lit (.bool true), .lit (.bool true), .lit (.bool false), .lit (.bool false)], .agg [.lit (.bool true), .lit (.bool true), .lit (.bool false), .lit (.bool true), .lit (.bool false)], .agg [.lit (.bool true), .lit (.bool false), .lit (.bool false), .lit (.bool true), .lit (.bool false)], .agg [.lit (.bool false), .lit (.bool false), .lit (.bool false), .lit (.bool false), .lit (.bool false)], .agg [.lit (.bool true), .lit (.bool false), .lit (.bool false), .lit (.bool false), .lit (.bool true)], .agg [.lit (.bool false), .lit (.bool true), .lit (.bool false), .lit (.bool false), .lit (.bool true)], .agg [.lit (.bool false), .lit (.bool true), .lit (.bool false), .lit (.bool false), .lit (.bool false)]]
def laid_gaoler_csr_masks {H : Type} : DataW H := .agg [.lit (.int .u32 14), .lit (.int .u32 4294967292), .lit (.int .u32 4294967295), .lit (.int .u32 4294967295), .lit (.int .u32 4294967292), .lit (.int .u32 4294967292), .lit (.int .u32 4294967295), .lit (.int .u32 0), .lit (.int .u32 0), .lit (.int .u32 4294967295), .lit (.int .u32 4294967295), .lit (.int .u32 4294967295)]

/-- 'gaolerlaw11.ExecuteFrame': WHATEVER THE INPUT: true; the input reads as it did. -/
def executeFrameSpec : ChangeSpec := { name := "executeFrame", fn := fun _ => fun
  | [d1, d2] => { results := [.lit (.bool true)], args := [d1, d2] }
  | _ => none }
def executeFrameRow : OpenClaim := { program := "ythkhahfhbhgfhaadoor", sum := "a4a61338b8be4bb413325116972ef9bfdb0a786a3322919e7a1dedbaa5883b48", func := "gaoler/gaolerlaw11.ExecuteFrame", spec := "executeFrame", unfollowed := true, recurses := true, named := ["gaoler/isa.operandsOf", "gaoler/isa.formats"], apart := false, laid := [("gaoler/isa.formats", laid_gaoler_isa_formats), ("gaoler/isa.operandsOf", laid_gaoler_isa_operandsOf)] }
def ExecuteFrameSaid : Prop := executeFrameRow.holds Tryd.pinned (OpenSpec.ofChange executeFrameSpec)

/-- ITS FALSE NEIGHBOUR: 'it returns false'. Refute it at one input. -/
def executeFrameWrong : ChangeSpec := { name := "executeFrame", fn := fun _ => fun
  | [d1, d2] => { results := [.lit (.bool false)], args := [d1, d2] }
  | _ => none }
def ExecuteFrameWrongFalsely : Prop := executeFrameRow.holds Tryd.pinned (OpenSpec.ofChange executeFrameWrong)

/-- 'gaolerlaw12.PrivilegedMatchesReference': WHATEVER THE INPUT: true; the input reads as it did. -/
def privilegedMatchesReferenceSpec : ChangeSpec := { name := "privilegedMatchesReference", fn := fun _ => fun
  | [d1, d2] => { results := [.lit (.bool true)], args := [d1, d2] }
  | _ => none }
def privilegedMatchesReferenceRow : OpenClaim := { program := "ythkhahfhbhgfhaadoor", sum := "a4a61338b8be4bb413325116972ef9bfdb0a786a3322919e7a1dedbaa5883b48", func := "gaoler/gaolerlaw12.PrivilegedMatchesReference", spec := "privilegedMatchesReference", unfollowed := true, recurses := true, named := ["gaoler/csr.masks"], apart := false, laid := [("gaoler/csr.masks", laid_gaoler_csr_masks)] }
def PrivilegedMatchesReferenceSaid : Prop := privilegedMatchesReferenceRow.holds Tryd.pinned (OpenSpec.ofChange privilegedMatchesReferenceSpec)

/-- ITS FALSE NEIGHBOUR: 'it returns false'. Refute it at one input. -/
def privilegedMatchesReferenceWrong : ChangeSpec := { name := "privilegedMatchesReference", fn := fun _ => fun
  | [d1, d2] => { results := [.lit (.bool false)], args := [d1, d2] }
  | _ => none }
def PrivilegedMatchesReferenceWrongFalsely : Prop := privilegedMatchesReferenceRow.holds Tryd.pinned (OpenSpec.ofChange privilegedMatchesReferenceWrong)

/-- 'gaolerlaw12.PrivilegedFrame': WHATEVER THE INPUT: true; the input reads as it did. -/
def privilegedFrameSpec : ChangeSpec := { name := "privilegedFrame", fn := fun _ => fun
  | [d1, d2] => { results := [.lit (.bool true)], args := [d1, d2] }
  | _ => none }
def privilegedFrameRow : OpenClaim := { program := "ythkhahfhbhgfhaadoor", sum := "a4a61338b8be4bb413325116972ef9bfdb0a786a3322919e7a1dedbaa5883b48", func := "gaoler/gaolerlaw12.PrivilegedFrame", spec := "privilegedFrame", unfollowed := true, recurses := true, named := ["gaoler/csr.masks"], apart := false, laid := [("gaoler/csr.masks", laid_gaoler_csr_masks)] }
def PrivilegedFrameSaid : Prop := privilegedFrameRow.holds Tryd.pinned (OpenSpec.ofChange privilegedFrameSpec)

/-- ITS FALSE NEIGHBOUR: 'it returns false'. Refute it at one input. -/
def privilegedFrameWrong : ChangeSpec := { name := "privilegedFrame", fn := fun _ => fun
  | [d1, d2] => { results := [.lit (.bool false)], args := [d1, d2] }
  | _ => none }
def PrivilegedFrameWrongFalsely : Prop := privilegedFrameRow.holds Tryd.pinned (OpenSpec.ofChange privilegedFrameWrong)

/-- 'gaolerlaw12.PrivReadWriteCsr': WHATEVER THE INPUT: true; the input reads as it did. -/
def privReadWriteCsrSpec : ChangeSpec := { name := "privReadWriteCsr", fn := fun _ => fun
  | [d1, d2, d3] => { results := [.lit (.bool true)], args := [d1, d2, d3] }
  | _ => none }
def privReadWriteCsrRow : OpenClaim := { program := "ythkhahfhbhgfhaadoor", sum := "a4a61338b8be4bb413325116972ef9bfdb0a786a3322919e7a1dedbaa5883b48", func := "gaoler/gaolerlaw12.PrivReadWriteCsr", spec := "privReadWriteCsr", unfollowed := true, recurses := true, named := ["gaoler/csr.masks"], apart := false, laid := [("gaoler/csr.masks", laid_gaoler_csr_masks)] }
def PrivReadWriteCsrSaid : Prop := privReadWriteCsrRow.holds Tryd.pinned (OpenSpec.ofChange privReadWriteCsrSpec)

/-- ITS FALSE NEIGHBOUR: 'it returns false'. Refute it at one input. -/
def privReadWriteCsrWrong : ChangeSpec := { name := "privReadWriteCsr", fn := fun _ => fun
  | [d1, d2, d3] => { results := [.lit (.bool false)], args := [d1, d2, d3] }
  | _ => none }
def PrivReadWriteCsrWrongFalsely : Prop := privReadWriteCsrRow.holds Tryd.pinned (OpenSpec.ofChange privReadWriteCsrWrong)

/-- 'gaolerlaw12.PrivEretReturns': WHATEVER THE INPUT: true; the input reads as it did. -/
def privEretReturnsSpec : ChangeSpec := { name := "privEretReturns", fn := fun _ => fun
  | [d] => { results := [.lit (.bool true)], args := [d] }
  | _ => none }
def privEretReturnsRow : OpenClaim := { program := "ythkhahfhbhgfhaadoor", sum := "a4a61338b8be4bb413325116972ef9bfdb0a786a3322919e7a1dedbaa5883b48", func := "gaoler/gaolerlaw12.PrivEretReturns", spec := "privEretReturns", unfollowed := true, recurses := true, named := ["gaoler/csr.masks"], apart := false, laid := [("gaoler/csr.masks", laid_gaoler_csr_masks)] }
def PrivEretReturnsSaid : Prop := privEretReturnsRow.holds Tryd.pinned (OpenSpec.ofChange privEretReturnsSpec)

/-- ITS FALSE NEIGHBOUR: 'it returns false'. Refute it at one input. -/
def privEretReturnsWrong : ChangeSpec := { name := "privEretReturns", fn := fun _ => fun
  | [d] => { results := [.lit (.bool false)], args := [d] }
  | _ => none }
def PrivEretReturnsWrongFalsely : Prop := privEretReturnsRow.holds Tryd.pinned (OpenSpec.ofChange privEretReturnsWrong)

/-- 'gaolerlaw12.PrivConsoleCollectsBytes': WHATEVER THE INPUT: true; the input reads as it did. -/
def privConsoleCollectsBytesSpec : ChangeSpec := { name := "privConsoleCollectsBytes", fn := fun _ => fun
  | [d1, d2] => { results := [.lit (.bool true)], args := [d1, d2] }
  | _ => none }
def privConsoleCollectsBytesRow : OpenClaim := { program := "ythkhahfhbhgfhaadoor", sum := "a4a61338b8be4bb413325116972ef9bfdb0a786a3322919e7a1dedbaa5883b48", func := "gaoler/gaolerlaw12.PrivConsoleCollectsBytes", spec := "privConsoleCollectsBytes", unfollowed := true, recurses := true, named := ["gaoler/csr.masks"], apart := false, laid := [("gaoler/csr.masks", laid_gaoler_csr_masks)] }
def PrivConsoleCollectsBytesSaid : Prop := privConsoleCollectsBytesRow.holds Tryd.pinned (OpenSpec.ofChange privConsoleCollectsBytesSpec)

/-- ITS FALSE NEIGHBOUR: 'it returns false'. Refute it at one input. -/
def privConsoleCollectsBytesWrong : ChangeSpec := { name := "privConsoleCollectsBytes", fn := fun _ => fun
  | [d1, d2] => { results := [.lit (.bool false)], args := [d1, d2] }
  | _ => none }
def PrivConsoleCollectsBytesWrongFalsely : Prop := privConsoleCollectsBytesRow.holds Tryd.pinned (OpenSpec.ofChange privConsoleCollectsBytesWrong)

/- THE SECOND FORM. 'bulk': how many values and letters a reading holds, each counted each time it is reached (what is shared counts as often as it is met; a slice's spare places count too). A statement '..UptoSaid' is the law's where the arguments, and the package variables that the reading takes, are together of bulk at most 1048576: NARROWER than '..Said'. Prove '..Said' where nothing that the law and all that it calls make is longer than what came in: it says more and counts as full. Else prove '..UptoSaid'. A law counts once. -/
mutual
def uptoBulk {H : Type} : DataW H → Nat
  | .lit (.string bytes) => bytes.length + 1
  | .lit _ => 1
  | .nil => 1
  | .ptr d => uptoBulk d + 1
  | .slice elems spare => uptoBulkAll elems + uptoBulkAll spare + 1
  | .agg parts => uptoBulkAll parts + 1
  | .iface _ d => uptoBulk d + 1
  | .map entries => uptoBulkEntries entries + 1
  | .held _ => 1
def uptoBulkAll {H : Type} : List (DataW H) → Nat
  | [] => 0
  | d :: r => uptoBulk d + uptoBulkAll r
def uptoBulkEntries {H : Type} : List (Lit × DataW H) → Nat
  | [] => 0
  | x :: r => uptoBulkEntry x + uptoBulkEntries r
def uptoBulkEntry {H : Type} : Lit × DataW H → Nat
  | (.string bytes, d) => bytes.length + uptoBulk d + 1
  | (_, d) => uptoBulk d + 1
 end
def uptoSmall : (H : Type) → List (DataW H) → Bool := fun _ ds => decide (uptoBulkAll ds ≤ 1048576)
def OpenSpec.upto (s : _root_.Go.ChangeSpec) : _root_.Go.OpenSpec := { _root_.Go.OpenSpec.ofChange s with cond := some uptoSmall }

/-- 'gaolerlaw11.ExecuteFrame', WHERE WHAT IT READS IS OF BULK AT MOST 1048576: true; the input reads as it did. -/
def executeFrameUptoRow : OpenClaim := { program := "ythkhahfhbhgfhaadoor", sum := "a4a61338b8be4bb413325116972ef9bfdb0a786a3322919e7a1dedbaa5883b48", func := "gaoler/gaolerlaw11.ExecuteFrame", spec := "executeFrame", unfollowed := true, recurses := true, named := ["gaoler/isa.operandsOf", "gaoler/isa.formats"], apart := false, laid := [("gaoler/isa.formats", laid_gaoler_isa_formats), ("gaoler/isa.operandsOf", laid_gaoler_isa_operandsOf)], narrowed := true }
def ExecuteFrameUptoSaid : Prop := executeFrameUptoRow.holds Tryd.pinned (OpenSpec.upto executeFrameSpec)

/-- 'gaolerlaw12.PrivilegedMatchesReference', WHERE WHAT IT READS IS OF BULK AT MOST 1048576: true; the input reads as it did. -/
def privilegedMatchesReferenceUptoRow : OpenClaim := { program := "ythkhahfhbhgfhaadoor", sum := "a4a61338b8be4bb413325116972ef9bfdb0a786a3322919e7a1dedbaa5883b48", func := "gaoler/gaolerlaw12.PrivilegedMatchesReference", spec := "privilegedMatchesReference", unfollowed := true, recurses := true, named := ["gaoler/csr.masks"], apart := false, laid := [("gaoler/csr.masks", laid_gaoler_csr_masks)], narrowed := true }
def PrivilegedMatchesReferenceUptoSaid : Prop := privilegedMatchesReferenceUptoRow.holds Tryd.pinned (OpenSpec.upto privilegedMatchesReferenceSpec)

/-- 'gaolerlaw12.PrivilegedFrame', WHERE WHAT IT READS IS OF BULK AT MOST 1048576: true; the input reads as it did. -/
def privilegedFrameUptoRow : OpenClaim := { program := "ythkhahfhbhgfhaadoor", sum := "a4a61338b8be4bb413325116972ef9bfdb0a786a3322919e7a1dedbaa5883b48", func := "gaoler/gaolerlaw12.PrivilegedFrame", spec := "privilegedFrame", unfollowed := true, recurses := true, named := ["gaoler/csr.masks"], apart := false, laid := [("gaoler/csr.masks", laid_gaoler_csr_masks)], narrowed := true }
def PrivilegedFrameUptoSaid : Prop := privilegedFrameUptoRow.holds Tryd.pinned (OpenSpec.upto privilegedFrameSpec)

/-- 'gaolerlaw12.PrivReadWriteCsr', WHERE WHAT IT READS IS OF BULK AT MOST 1048576: true; the input reads as it did. -/
def privReadWriteCsrUptoRow : OpenClaim := { program := "ythkhahfhbhgfhaadoor", sum := "a4a61338b8be4bb413325116972ef9bfdb0a786a3322919e7a1dedbaa5883b48", func := "gaoler/gaolerlaw12.PrivReadWriteCsr", spec := "privReadWriteCsr", unfollowed := true, recurses := true, named := ["gaoler/csr.masks"], apart := false, laid := [("gaoler/csr.masks", laid_gaoler_csr_masks)], narrowed := true }
def PrivReadWriteCsrUptoSaid : Prop := privReadWriteCsrUptoRow.holds Tryd.pinned (OpenSpec.upto privReadWriteCsrSpec)

/-- 'gaolerlaw12.PrivEretReturns', WHERE WHAT IT READS IS OF BULK AT MOST 1048576: true; the input reads as it did. -/
def privEretReturnsUptoRow : OpenClaim := { program := "ythkhahfhbhgfhaadoor", sum := "a4a61338b8be4bb413325116972ef9bfdb0a786a3322919e7a1dedbaa5883b48", func := "gaoler/gaolerlaw12.PrivEretReturns", spec := "privEretReturns", unfollowed := true, recurses := true, named := ["gaoler/csr.masks"], apart := false, laid := [("gaoler/csr.masks", laid_gaoler_csr_masks)], narrowed := true }
def PrivEretReturnsUptoSaid : Prop := privEretReturnsUptoRow.holds Tryd.pinned (OpenSpec.upto privEretReturnsSpec)

/-- 'gaolerlaw12.PrivConsoleCollectsBytes', WHERE WHAT IT READS IS OF BULK AT MOST 1048576: true; the input reads as it did. -/
def privConsoleCollectsBytesUptoRow : OpenClaim := { program := "ythkhahfhbhgfhaadoor", sum := "a4a61338b8be4bb413325116972ef9bfdb0a786a3322919e7a1dedbaa5883b48", func := "gaoler/gaolerlaw12.PrivConsoleCollectsBytes", spec := "privConsoleCollectsBytes", unfollowed := true, recurses := true, named := ["gaoler/csr.masks"], apart := false, laid := [("gaoler/csr.masks", laid_gaoler_csr_masks)], narrowed := true }
def PrivConsoleCollectsBytesUptoSaid : Prop := privConsoleCollectsBytesUptoRow.holds Tryd.pinned (OpenSpec.upto privConsoleCollectsBytesSpec)

end Rows
end Go.Proofs.YthkhahfhbhgfhaaDoor
