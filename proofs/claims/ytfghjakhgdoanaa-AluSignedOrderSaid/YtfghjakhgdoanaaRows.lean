/-
  No cell of these rows narrows 'for every input' (looked for: loops, veiled, ifaces, maps, wideKeys, modest, calm, conditions, laid).
  DERIVED. THE GIVEN ROWS OF THIS SEAT. 4 by the template 'for every input the law returns true; each argument reads behind the call as it read before'; 0 by the template 'total and deterministic' (their statements: YtfghjakhgdoanaaTotals.lean).
  GIVEN WITH THE SEED: the statements are not yours to turn. If you find one false, say at which input.
  Laid BY PROGRAM, IN A SANDBOX (cutbox-rows.mjs): the forced cells as the released guide's own fill.sh prints them over the translation 3e531402fbe65422… (all of the seat's roots in one cut). By AI agents, Wed Nov 11 2026. No macro, syntax, notation, axiom, sorry.
-/
import Derived.Test.YtfghjakhgdoanaaChecked
import GoSem.Claim
import GoSem.ClaimJoined
import GoSem.ClaimMapViews
import Derived.JoinedTies
import Derived.KernelRfl
namespace Go.Proofs.Ytfghjakhgdoanaa
/- THE CELL 'sum', in the pinned program and in every row, IS THE sha256 OF THE DUMP (.gsa) THAT YtfghjakhgdoanaaProg.lean LOADS. Nothing in Lean hashes anything: it is a label: what it is worth is what the hold of that sum in a sandbox is worth. -/
noncomputable def Try.pinned : Pinned := { name := "ytfghjakhgdoanaa", sum := "3e531402fbe65422017a6ca4c0c8a92dd7aa2939650a13fea1f4803b5fd0f19b", checked := Try.checked }
namespace Rows
def none {H : Type} : Left H := { results := [], args := [] }

/-- 'gaolerlaw08.AluMatchesReference': WHATEVER THE INPUT: true; the input reads as it did. -/
def aluMatchesReferenceSpec : ChangeSpec := { name := "aluMatchesReference", fn := fun _ => fun
  | [d1, d2, d3] => { results := [.lit (.bool true)], args := [d1, d2, d3] }
  | _ => none }
def aluMatchesReferenceRow : OpenClaim := { program := "ytfghjakhgdoanaa", sum := "3e531402fbe65422017a6ca4c0c8a92dd7aa2939650a13fea1f4803b5fd0f19b", func := "gaoler/gaolerlaw08.AluMatchesReference", spec := "aluMatchesReference", unfollowed := true, recurses := true, apart := false }
def AluMatchesReferenceSaid : Prop := aluMatchesReferenceRow.holds Try.pinned (OpenSpec.ofChange aluMatchesReferenceSpec)

/-- ITS FALSE NEIGHBOUR: 'it returns false'. Refute it at one input. -/
def aluMatchesReferenceWrong : ChangeSpec := { name := "aluMatchesReference", fn := fun _ => fun
  | [d1, d2, d3] => { results := [.lit (.bool false)], args := [d1, d2, d3] }
  | _ => none }
def AluMatchesReferenceWrongFalsely : Prop := aluMatchesReferenceRow.holds Try.pinned (OpenSpec.ofChange aluMatchesReferenceWrong)

/-- 'gaolerlaw08.AluArithmeticLaws': WHATEVER THE INPUT: true; the input reads as it did. -/
def aluArithmeticLawsSpec : ChangeSpec := { name := "aluArithmeticLaws", fn := fun _ => fun
  | [d1, d2, d3] => { results := [.lit (.bool true)], args := [d1, d2, d3] }
  | _ => none }
def aluArithmeticLawsRow : OpenClaim := { program := "ytfghjakhgdoanaa", sum := "3e531402fbe65422017a6ca4c0c8a92dd7aa2939650a13fea1f4803b5fd0f19b", func := "gaoler/gaolerlaw08.AluArithmeticLaws", spec := "aluArithmeticLaws", unfollowed := true, recurses := true, apart := false }
def AluArithmeticLawsSaid : Prop := aluArithmeticLawsRow.holds Try.pinned (OpenSpec.ofChange aluArithmeticLawsSpec)

/-- ITS FALSE NEIGHBOUR: 'it returns false'. Refute it at one input. -/
def aluArithmeticLawsWrong : ChangeSpec := { name := "aluArithmeticLaws", fn := fun _ => fun
  | [d1, d2, d3] => { results := [.lit (.bool false)], args := [d1, d2, d3] }
  | _ => none }
def AluArithmeticLawsWrongFalsely : Prop := aluArithmeticLawsRow.holds Try.pinned (OpenSpec.ofChange aluArithmeticLawsWrong)

/-- 'gaolerlaw08.AluSignedOrder': WHATEVER THE INPUT: true; the input reads as it did. -/
def aluSignedOrderSpec : ChangeSpec := { name := "aluSignedOrder", fn := fun _ => fun
  | [d1, d2, d3] => { results := [.lit (.bool true)], args := [d1, d2, d3] }
  | _ => none }
def aluSignedOrderRow : OpenClaim := { program := "ytfghjakhgdoanaa", sum := "3e531402fbe65422017a6ca4c0c8a92dd7aa2939650a13fea1f4803b5fd0f19b", func := "gaoler/gaolerlaw08.AluSignedOrder", spec := "aluSignedOrder", unfollowed := true, recurses := true, apart := false }
def AluSignedOrderSaid : Prop := aluSignedOrderRow.holds Try.pinned (OpenSpec.ofChange aluSignedOrderSpec)

/-- ITS FALSE NEIGHBOUR: 'it returns false'. Refute it at one input. -/
def aluSignedOrderWrong : ChangeSpec := { name := "aluSignedOrder", fn := fun _ => fun
  | [d1, d2, d3] => { results := [.lit (.bool false)], args := [d1, d2, d3] }
  | _ => none }
def AluSignedOrderWrongFalsely : Prop := aluSignedOrderRow.holds Try.pinned (OpenSpec.ofChange aluSignedOrderWrong)

/-- 'gaolerlaw08.AluShiftsCompose': WHATEVER THE INPUT: true; the input reads as it did. -/
def aluShiftsComposeSpec : ChangeSpec := { name := "aluShiftsCompose", fn := fun _ => fun
  | [d1, d2, d3] => { results := [.lit (.bool true)], args := [d1, d2, d3] }
  | _ => none }
def aluShiftsComposeRow : OpenClaim := { program := "ytfghjakhgdoanaa", sum := "3e531402fbe65422017a6ca4c0c8a92dd7aa2939650a13fea1f4803b5fd0f19b", func := "gaoler/gaolerlaw08.AluShiftsCompose", spec := "aluShiftsCompose", unfollowed := true, recurses := true, apart := false }
def AluShiftsComposeSaid : Prop := aluShiftsComposeRow.holds Try.pinned (OpenSpec.ofChange aluShiftsComposeSpec)

/-- ITS FALSE NEIGHBOUR: 'it returns false'. Refute it at one input. -/
def aluShiftsComposeWrong : ChangeSpec := { name := "aluShiftsCompose", fn := fun _ => fun
  | [d1, d2, d3] => { results := [.lit (.bool false)], args := [d1, d2, d3] }
  | _ => none }
def AluShiftsComposeWrongFalsely : Prop := aluShiftsComposeRow.holds Try.pinned (OpenSpec.ofChange aluShiftsComposeWrong)

/- THE SECOND FORM. 'bulk': how many values and letters a reading holds, each counted each time it is reached (what is shared counts as often as it is met; a slice's spare places count too). A statement '..UptoSaid' is the law's where the arguments, and the package variables that the reading takes, are together of bulk at most 1048576: NARROWER than '..Said'. Prove '..Said' where nothing that the law and all that it calls make is longer than what came in: it says more and counts as full. Else prove '..UptoSaid'. A law counts once. -/
mutual
def uptoBulk {H : Type} : DataW H → Nat
  | .lit (.string bytes) => bytes.length + 1
  | .lit _ => 1
  | .nil => 1
  | .ptr d => uptoBulk d + 1
  | .slice elems spare => uptoBulkAll elems + uptoBulkAll spare + 1
  | .agg parts => uptoBulkAll parts + 1
  | .iface _ d => uptoBulk d + 1
  | .map entries => uptoBulkEntries entries + 1
  | .held _ => 1
def uptoBulkAll {H : Type} : List (DataW H) → Nat
  | [] => 0
  | d :: r => uptoBulk d + uptoBulkAll r
def uptoBulkEntries {H : Type} : List (Lit × DataW H) → Nat
  | [] => 0
  | x :: r => uptoBulkEntry x + uptoBulkEntries r
def uptoBulkEntry {H : Type} : Lit × DataW H → Nat
  | (.string bytes, d) => bytes.length + uptoBulk d + 1
  | (_, d) => uptoBulk d + 1
 end
def uptoSmall : (H : Type) → List (DataW H) → Bool := fun _ ds => decide (uptoBulkAll ds ≤ 1048576)
def OpenSpec.upto (s : _root_.Go.ChangeSpec) : _root_.Go.OpenSpec := { _root_.Go.OpenSpec.ofChange s with cond := some uptoSmall }

/-- 'gaolerlaw08.AluMatchesReference', WHERE WHAT IT READS IS OF BULK AT MOST 1048576: true; the input reads as it did. -/
def aluMatchesReferenceUptoRow : OpenClaim := { program := "ytfghjakhgdoanaa", sum := "3e531402fbe65422017a6ca4c0c8a92dd7aa2939650a13fea1f4803b5fd0f19b", func := "gaoler/gaolerlaw08.AluMatchesReference", spec := "aluMatchesReference", unfollowed := true, recurses := true, apart := false, narrowed := true }
def AluMatchesReferenceUptoSaid : Prop := aluMatchesReferenceUptoRow.holds Try.pinned (OpenSpec.upto aluMatchesReferenceSpec)

/-- 'gaolerlaw08.AluArithmeticLaws', WHERE WHAT IT READS IS OF BULK AT MOST 1048576: true; the input reads as it did. -/
def aluArithmeticLawsUptoRow : OpenClaim := { program := "ytfghjakhgdoanaa", sum := "3e531402fbe65422017a6ca4c0c8a92dd7aa2939650a13fea1f4803b5fd0f19b", func := "gaoler/gaolerlaw08.AluArithmeticLaws", spec := "aluArithmeticLaws", unfollowed := true, recurses := true, apart := false, narrowed := true }
def AluArithmeticLawsUptoSaid : Prop := aluArithmeticLawsUptoRow.holds Try.pinned (OpenSpec.upto aluArithmeticLawsSpec)

/-- 'gaolerlaw08.AluSignedOrder', WHERE WHAT IT READS IS OF BULK AT MOST 1048576: true; the input reads as it did. -/
def aluSignedOrderUptoRow : OpenClaim := { program := "ytfghjakhgdoanaa", sum := "3e531402fbe65422017a6ca4c0c8a92dd7aa2939650a13fea1f4803b5fd0f19b", func := "gaoler/gaolerlaw08.AluSignedOrder", spec := "aluSignedOrder", unfollowed := true, recurses := true, apart := false, narrowed := true }
def AluSignedOrderUptoSaid : Prop := aluSignedOrderUptoRow.holds Try.pinned (OpenSpec.upto aluSignedOrderSpec)

/-- 'gaolerlaw08.AluShiftsCompose', WHERE WHAT IT READS IS OF BULK AT MOST 1048576: true; the input reads as it did. -/
def aluShiftsComposeUptoRow : OpenClaim := { program := "ytfghjakhgdoanaa", sum := "3e531402fbe65422017a6ca4c0c8a92dd7aa2939650a13fea1f4803b5fd0f19b", func := "gaoler/gaolerlaw08.AluShiftsCompose", spec := "aluShiftsCompose", unfollowed := true, recurses := true, apart := false, narrowed := true }
def AluShiftsComposeUptoSaid : Prop := aluShiftsComposeUptoRow.holds Try.pinned (OpenSpec.upto aluShiftsComposeSpec)

end Rows
end Go.Proofs.Ytfghjakhgdoanaa
