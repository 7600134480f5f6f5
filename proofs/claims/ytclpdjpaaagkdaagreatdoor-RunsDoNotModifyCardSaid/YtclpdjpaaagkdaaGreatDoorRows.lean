/-
  NARROWER THAN 'FOR EVERY INPUT', by the rows' own cells (each row's printed sentence says how): RunMatchesReference: laid · RunsCompose: laid · RunUntilStopsFirst: laid · RunTrapsAreCounted: laid · RunsDoNotModify: laid.
  DERIVED. THE GIVEN ROWS OF THIS SEAT. 5 by the template 'for every input the law returns true; each argument reads behind the call as it read before'; 0 by the template 'total and deterministic' (their statements: YtclpdjpaaagkdaaGreatDoorTotals.lean).
  GIVEN WITH THE SEED: the statements are not yours to turn. If you find one false, say at which input.
  Laid BY PROGRAM, IN A SANDBOX (cutbox-rows.mjs): the forced cells as the released guide's own fill.sh prints them over the translation 49ca96732a8b991a… (all of the seat's roots in one cut). By AI agents, Wed Nov 11 2026. No macro, syntax, notation, axiom, sorry.
-/
import Derived.Test.YtclpdjpaaagkdaaGreatDoorChecked
import GoSem.Claim
import GoSem.ClaimJoined
import GoSem.ClaimMapViews
import Derived.JoinedTies
import Derived.KernelRfl
namespace Go.Proofs.YtclpdjpaaagkdaaGreatDoor
/- THE CELL 'sum', in the pinned program and in every row, IS THE sha256 OF THE DUMP (.gsa) THAT YtclpdjpaaagkdaaGreatDoorProg.lean LOADS. Nothing in Lean hashes anything: it is a label: what it is worth is what the hold of that sum in a sandbox is worth. -/
noncomputable def Tryz.pinned : Pinned := { name := "ytclpdjpaaagkdaagreatdoor", sum := "49ca96732a8b991adbc66b70b0c7e69fe3c6f4c6b8996ce4eaa10beb2bd53fb6", checked := Tryz.checked }
namespace Rows
def none {H : Type} : Left H := { results := [], args := [] }

/- WHAT THE LISTED PACKAGE-LEVEL VARIABLES READ AS WHEN THE CALL BEGINS. Each datum BY PROGRAM (the guide's laid-datum.mjs) off the statement by which the dump's own 'gosem.cut.vars' lays the variable. In a bare row this is a premise. The card (YtclpdjpaaagkdaaGreatDoorCards.lean) ties it to the program's text. -/
def laid_gaoler_csr_masks {H : Type} : DataW H := .agg [.lit (.int .u32 14), .lit (.int .u32 4294967292), .lit (.int .u32 4294967295), .lit (.int .u32 4294967295), .lit (.int .u32 4294967292), .lit (.int .u32 4294967292), .lit (.int .u32 4294967295), .lit (.int .u32 0), .lit (.int .u32 0), .lit (.int .u32 4294967295), .lit (.int .u32 4294967295), .lit (.int .u32 4294967295)]
def laid_gaoler_isa_formats {H : Type} : DataW H := .agg [.lit (.int .i64 0), .lit (.int .i64 1), .lit (.int .i64 1), .lit (.int .i64 1), .lit (.int .i64 1), .lit (.int .i64 1), .lit (.int .i64 1), .lit (.int .i64 1), .lit (.int .i64 1), .lit (.int .i64 2), .lit (.int .i64 3), .lit (.int .i64 2), .lit (.int .i64 2), .lit (.int .i64 2), .lit (.int .i64 2), .lit (.int .i64 2), .lit (.int .i64 2), .lit (.int .i64 2), .lit (.int .i64 3), .lit (.int .i64 2), .lit (.int .i64 4), .lit (.int .i64 5), .lit (.int .i64 6), .lit (.int .i64 4), .lit (.int .i64 4), .lit (.int .i64 7)]
def laid_gaoler_isa_operandsOf {H : Type} : DataW H := .agg [.agg [.lit (.bool false), .lit (.bool false), .lit (.bool false), .lit (.bool false), .lit (.bool false)], .agg [.lit (.bool true), .lit (.bool true), .lit (.bool true), .lit (.bool false), .lit (.bool false)], .agg [.lit (.bool true), .lit (.bool true), .lit (.bool false), .lit (.bool true), .lit (.bool false)], .agg [.lit (.bool true), .lit (.bool false), .lit (.bool false), .lit (.bool true), .lit (.bool false)], .agg [.lit (.bool false), .lit (.bool false), .lit (.bool false), .lit (.bool false), .lit (.bool false)], .agg [.lit (.bool true), .lit (.bool false), .lit (.bool false), .lit (.bool false), .lit (.bool true)], .agg [.lit (.bool false), .lit (.bool true), .lit (.bool false), .lit (.bool false), .lit (.bool true)], .agg [.lit (.bool false), .lit (.bool true), .lit (.bool false), .lit (.bool false), .lit (.bool false)]]

/-- 'gaolerlaw14.RunMatchesReference': WHATEVER THE INPUT: true; the input reads as it did. -/
def runMatchesReferenceSpec : ChangeSpec := { name := "runMatchesReference", fn := fun _ => fun
  | [d1, d2, d3] => { results := [.lit (.bool true)], args := [d1, d2, d3] }
  | _ => none }
def runMatchesReferenceRow : OpenClaim := { program := "ytclpdjpaaagkdaagreatdoor", sum := "49ca96732a8b991adbc66b70b0c7e69fe3c6f4c6b8996ce4eaa10beb2bd53fb6", func := "gaoler/gaolerlaw14.RunMatchesReference", spec := "runMatchesReference", unfollowed := true, recurses := true, named := ["gaoler/isa.operandsOf", "gaoler/isa.formats", "gaoler/csr.masks"], apart := false, laid := [("gaoler/csr.masks", laid_gaoler_csr_masks), ("gaoler/isa.formats", laid_gaoler_isa_formats), ("gaoler/isa.operandsOf", laid_gaoler_isa_operandsOf)] }
def RunMatchesReferenceSaid : Prop := runMatchesReferenceRow.holds Tryz.pinned (OpenSpec.ofChange runMatchesReferenceSpec)

/-- ITS FALSE NEIGHBOUR: 'it returns false'. Refute it at one input. -/
def runMatchesReferenceWrong : ChangeSpec := { name := "runMatchesReference", fn := fun _ => fun
  | [d1, d2, d3] => { results := [.lit (.bool false)], args := [d1, d2, d3] }
  | _ => none }
def RunMatchesReferenceWrongFalsely : Prop := runMatchesReferenceRow.holds Tryz.pinned (OpenSpec.ofChange runMatchesReferenceWrong)

/-- 'gaolerlaw14.RunsCompose': WHATEVER THE INPUT: true; the input reads as it did. -/
def runsComposeSpec : ChangeSpec := { name := "runsCompose", fn := fun _ => fun
  | [d1, d2, d3] => { results := [.lit (.bool true)], args := [d1, d2, d3] }
  | _ => none }
def runsComposeRow : OpenClaim := { program := "ytclpdjpaaagkdaagreatdoor", sum := "49ca96732a8b991adbc66b70b0c7e69fe3c6f4c6b8996ce4eaa10beb2bd53fb6", func := "gaoler/gaolerlaw14.RunsCompose", spec := "runsCompose", unfollowed := true, recurses := true, named := ["gaoler/isa.operandsOf", "gaoler/isa.formats", "gaoler/csr.masks"], apart := false, laid := [("gaoler/csr.masks", laid_gaoler_csr_masks), ("gaoler/isa.formats", laid_gaoler_isa_formats), ("gaoler/isa.operandsOf", laid_gaoler_isa_operandsOf)] }
def RunsComposeSaid : Prop := runsComposeRow.holds Tryz.pinned (OpenSpec.ofChange runsComposeSpec)

/-- ITS FALSE NEIGHBOUR: 'it returns false'. Refute it at one input. -/
def runsComposeWrong : ChangeSpec := { name := "runsCompose", fn := fun _ => fun
  | [d1, d2, d3] => { results := [.lit (.bool false)], args := [d1, d2, d3] }
  | _ => none }
def RunsComposeWrongFalsely : Prop := runsComposeRow.holds Tryz.pinned (OpenSpec.ofChange runsComposeWrong)

/-- 'gaolerlaw14.RunUntilStopsFirst': WHATEVER THE INPUT: true; the input reads as it did. -/
def runUntilStopsFirstSpec : ChangeSpec := { name := "runUntilStopsFirst", fn := fun _ => fun
  | [d1, d2, d3] => { results := [.lit (.bool true)], args := [d1, d2, d3] }
  | _ => none }
def runUntilStopsFirstRow : OpenClaim := { program := "ytclpdjpaaagkdaagreatdoor", sum := "49ca96732a8b991adbc66b70b0c7e69fe3c6f4c6b8996ce4eaa10beb2bd53fb6", func := "gaoler/gaolerlaw14.RunUntilStopsFirst", spec := "runUntilStopsFirst", unfollowed := true, recurses := true, named := ["gaoler/isa.operandsOf", "gaoler/isa.formats", "gaoler/csr.masks"], apart := false, laid := [("gaoler/csr.masks", laid_gaoler_csr_masks), ("gaoler/isa.formats", laid_gaoler_isa_formats), ("gaoler/isa.operandsOf", laid_gaoler_isa_operandsOf)] }
def RunUntilStopsFirstSaid : Prop := runUntilStopsFirstRow.holds Tryz.pinned (OpenSpec.ofChange runUntilStopsFirstSpec)

/-- ITS FALSE NEIGHBOUR: 'it returns false'. Refute it at one input. -/
def runUntilStopsFirstWrong : ChangeSpec := { name := "runUntilStopsFirst", fn := fun _ => fun
  | [d1, d2, d3] => { results := [.lit (.bool false)], args := [d1, d2, d3] }
  | _ => none }
def RunUntilStopsFirstWrongFalsely : Prop := runUntilStopsFirstRow.holds Tryz.pinned (OpenSpec.ofChange runUntilStopsFirstWrong)

/-- 'gaolerlaw14.RunTrapsAreCounted': WHATEVER THE INPUT: true; the input reads as it did. -/
def runTrapsAreCountedSpec : ChangeSpec := { name := "runTrapsAreCounted", fn := fun _ => fun
  | [d1, d2] => { results := [.lit (.bool true)], args := [d1, d2] }
  | _ => none }
def runTrapsAreCountedRow : OpenClaim := { program := "ytclpdjpaaagkdaagreatdoor", sum := "49ca96732a8b991adbc66b70b0c7e69fe3c6f4c6b8996ce4eaa10beb2bd53fb6", func := "gaoler/gaolerlaw14.RunTrapsAreCounted", spec := "runTrapsAreCounted", unfollowed := true, recurses := true, named := ["gaoler/isa.operandsOf", "gaoler/isa.formats", "gaoler/csr.masks"], apart := false, laid := [("gaoler/csr.masks", laid_gaoler_csr_masks), ("gaoler/isa.formats", laid_gaoler_isa_formats), ("gaoler/isa.operandsOf", laid_gaoler_isa_operandsOf)] }
def RunTrapsAreCountedSaid : Prop := runTrapsAreCountedRow.holds Tryz.pinned (OpenSpec.ofChange runTrapsAreCountedSpec)

/-- ITS FALSE NEIGHBOUR: 'it returns false'. Refute it at one input. -/
def runTrapsAreCountedWrong : ChangeSpec := { name := "runTrapsAreCounted", fn := fun _ => fun
  | [d1, d2] => { results := [.lit (.bool false)], args := [d1, d2] }
  | _ => none }
def RunTrapsAreCountedWrongFalsely : Prop := runTrapsAreCountedRow.holds Tryz.pinned (OpenSpec.ofChange runTrapsAreCountedWrong)

/-- 'gaolerlaw14.RunsDoNotModify': WHATEVER THE INPUT: true; the input reads as it did. -/
def runsDoNotModifySpec : ChangeSpec := { name := "runsDoNotModify", fn := fun _ => fun
  | [d1, d2] => { results := [.lit (.bool true)], args := [d1, d2] }
  | _ => none }
def runsDoNotModifyRow : OpenClaim := { program := "ytclpdjpaaagkdaagreatdoor", sum := "49ca96732a8b991adbc66b70b0c7e69fe3c6f4c6b8996ce4eaa10beb2bd53fb6", func := "gaoler/gaolerlaw14.RunsDoNotModify", spec := "runsDoNotModify", unfollowed := true, recurses := true, named := ["gaoler/isa.operandsOf", "gaoler/isa.formats", "gaoler/csr.masks"], apart := false, laid := [("gaoler/csr.masks", laid_gaoler_csr_masks), ("gaoler/isa.formats", laid_gaoler_isa_formats), ("gaoler/isa.operandsOf", laid_gaoler_isa_operandsOf)] }
def RunsDoNotModifySaid : Prop := runsDoNotModifyRow.holds Tryz.pinned (OpenSpec.ofChange runsDoNotModifySpec)

/-- ITS FALSE NEIGHBOUR: 'it returns false'. Refute it at one input. -/
def runsDoNotModifyWrong : ChangeSpec := { name := "runsDoNotModify", fn := fun _ => fun
  | [d1, d2] => { results := [.lit (.bool false)], args := [d1, d2] }
  | _ => none }
def RunsDoNotModifyWrongFalsely : Prop := runsDoNotModifyRow.holds Tryz.pinned (OpenSpec.ofChange runsDoNotModifyWrong)

/- THE SECOND FORM. 'bulk': how many values and letters a reading holds, each counted each time it is reached (what is shared counts as often as it is met; a slice's spare places count too). A statement '..UptoSaid' is the law's where the arguments, and the package variables that the reading takes, are together of bulk at most 1048576: NARROWER than '..Said'. Prove '..Said' where nothing that the law and all that it calls make is longer than what came in: it says more and counts as full. Else prove '..UptoSaid'. A law counts once. -/
mutual
def uptoBulk {H : Type} : DataW H → Nat
  | .lit (.string bytes) => bytes.length + 1
  | .lit _ => 1
  | .nil => 1
  | .ptr d => uptoBulk d + 1
  | .slice elems spare => uptoBulkAll elems + uptoBulkAll spare + 1
  | .agg parts => uptoBulkAll parts + 1
  | .iface _ d => uptoBulk d + 1
  | .map entries => uptoBulkEntries entries + 1
  | .held _ => 1
def uptoBulkAll {H : Type} : List (DataW H) → Nat
  | [] => 0
  | d :: r => uptoBulk d + uptoBulkAll r
def uptoBulkEntries {H : Type} : List (Lit × DataW H) → Nat
  | [] => 0
  | x :: r => uptoBulkEntry x + uptoBulkEntries r
def uptoBulkEntry {H : Type} : Lit × DataW H → Nat
  | (.string bytes, d) => bytes.length + uptoBulk d + 1
  | (_, d) => uptoBulk d + 1
 end
def uptoSmall : (H : Type) → List (DataW H) → Bool := fun _ ds => decide (uptoBulkAll ds ≤ 1048576)
def OpenSpec.upto (s : _root_.Go.ChangeSpec) : _root_.Go.OpenSpec := { _root_.Go.OpenSpec.ofChange s with cond := some uptoSmall }

/-- 'gaolerlaw14.RunMatchesReference', WHERE WHAT IT READS IS OF BULK AT MOST 1048576: true; the input reads as it did. -/
def runMatchesReferenceUptoRow : OpenClaim := { program := "ytclpdjpaaagkdaagreatdoor", sum := "49ca96732a8b991adbc66b70b0c7e69fe3c6f4c6b8996ce4eaa10beb2bd53fb6", func := "gaoler/gaolerlaw14.RunMatchesReference", spec := "runMatchesReference", unfollowed := true, recurses := true, named := ["gaoler/isa.operandsOf", "gaoler/isa.formats", "gaoler/csr.masks"], apart := false, laid := [("gaoler/csr.masks", laid_gaoler_csr_masks), ("gaoler/isa.formats", laid_gaoler_isa_formats), ("gaoler/isa.operandsOf", laid_gaoler_isa_operandsOf)], narrowed := true }
def RunMatchesReferenceUptoSaid : Prop := runMatchesReferenceUptoRow.holds Tryz.pinned (OpenSpec.upto runMatchesReferenceSpec)

/-- 'gaolerlaw14.RunsCompose', WHERE WHAT IT READS IS OF BULK AT MOST 1048576: true; the input reads as it did. -/
def runsComposeUptoRow : OpenClaim := { program := "ytclpdjpaaagkdaagreatdoor", sum := "49ca96732a8b991adbc66b70b0c7e69fe3c6f4c6b8996ce4eaa10beb2bd53fb6", func := "gaoler/gaolerlaw14.RunsCompose", spec := "runsCompose", unfollowed := true, recurses := true, named := ["gaoler/isa.operandsOf", "gaoler/isa.formats", "gaoler/csr.masks"], apart := false, laid := [("gaoler/csr.masks", laid_gaoler_csr_masks), ("gaoler/isa.formats", laid_gaoler_isa_formats), ("gaoler/isa.operandsOf", laid_gaoler_isa_operandsOf)], narrowed := true }
def RunsComposeUptoSaid : Prop := runsComposeUptoRow.holds Tryz.pinned (OpenSpec.upto runsComposeSpec)

/-- 'gaolerlaw14.RunUntilStopsFirst', WHERE WHAT IT READS IS OF BULK AT MOST 1048576: true; the input reads as it did. -/
def runUntilStopsFirstUptoRow : OpenClaim := { program := "ytclpdjpaaagkdaagreatdoor", sum := "49ca96732a8b991adbc66b70b0c7e69fe3c6f4c6b8996ce4eaa10beb2bd53fb6", func := "gaoler/gaolerlaw14.RunUntilStopsFirst", spec := "runUntilStopsFirst", unfollowed := true, recurses := true, named := ["gaoler/isa.operandsOf", "gaoler/isa.formats", "gaoler/csr.masks"], apart := false, laid := [("gaoler/csr.masks", laid_gaoler_csr_masks), ("gaoler/isa.formats", laid_gaoler_isa_formats), ("gaoler/isa.operandsOf", laid_gaoler_isa_operandsOf)], narrowed := true }
def RunUntilStopsFirstUptoSaid : Prop := runUntilStopsFirstUptoRow.holds Tryz.pinned (OpenSpec.upto runUntilStopsFirstSpec)

/-- 'gaolerlaw14.RunTrapsAreCounted', WHERE WHAT IT READS IS OF BULK AT MOST 1048576: true; the input reads as it did. -/
def runTrapsAreCountedUptoRow : OpenClaim := { program := "ytclpdjpaaagkdaagreatdoor", sum := "49ca96732a8b991adbc66b70b0c7e69fe3c6f4c6b8996ce4eaa10beb2bd53fb6", func := "gaoler/gaolerlaw14.RunTrapsAreCounted", spec := "runTrapsAreCounted", unfollowed := true, recurses := true, named := ["gaoler/isa.operandsOf", "gaoler/isa.formats", "gaoler/csr.masks"], apart := false, laid := [("gaoler/csr.masks", laid_gaoler_csr_masks), ("gaoler/isa.formats", laid_gaoler_isa_formats), ("gaoler/isa.operandsOf", laid_gaoler_isa_operandsOf)], narrowed := true }
def RunTrapsAreCountedUptoSaid : Prop := runTrapsAreCountedUptoRow.holds Tryz.pinned (OpenSpec.upto runTrapsAreCountedSpec)

/-- 'gaolerlaw14.RunsDoNotModify', WHERE WHAT IT READS IS OF BULK AT MOST 1048576: true; the input reads as it did. -/
def runsDoNotModifyUptoRow : OpenClaim := { program := "ytclpdjpaaagkdaagreatdoor", sum := "49ca96732a8b991adbc66b70b0c7e69fe3c6f4c6b8996ce4eaa10beb2bd53fb6", func := "gaoler/gaolerlaw14.RunsDoNotModify", spec := "runsDoNotModify", unfollowed := true, recurses := true, named := ["gaoler/isa.operandsOf", "gaoler/isa.formats", "gaoler/csr.masks"], apart := false, laid := [("gaoler/csr.masks", laid_gaoler_csr_masks), ("gaoler/isa.formats", laid_gaoler_isa_formats), ("gaoler/isa.operandsOf", laid_gaoler_isa_operandsOf)], narrowed := true }
def RunsDoNotModifyUptoSaid : Prop := runsDoNotModifyUptoRow.holds Tryz.pinned (OpenSpec.upto runsDoNotModifySpec)

end Rows
end Go.Proofs.YtclpdjpaaagkdaaGreatDoor
