/-
  No cell of these rows narrows 'for every input' (looked for: loops, veiled, ifaces, maps, wideKeys, modest, calm, conditions, laid).
  DERIVED. THE GIVEN ROWS OF THIS SEAT. 4 by the template 'for every input the law returns true; each argument reads behind the call as it read before'; 0 by the template 'total and deterministic' (their statements: YtnbedmjchgfknaaTotals.lean).
  GIVEN WITH THE SEED: the statements are not yours to turn. If you find one false, say at which input.
  Laid BY PROGRAM, IN A SANDBOX (cutbox-rows.mjs): the forced cells as the released guide's own fill.sh prints them over the translation c5cefc0c67603be8… (all of the seat's roots in one cut). By AI agents, Wed Nov 11 2026. No macro, syntax, notation, axiom, sorry.
-/
import Derived.Test.YtnbedmjchgfknaaChecked
import GoSem.Claim
import GoSem.ClaimJoined
import GoSem.ClaimMapViews
import Derived.JoinedTies
import Derived.KernelRfl
namespace Go.Proofs.Ytnbedmjchgfknaa
/- THE CELL 'sum', in the pinned program and in every row, IS THE sha256 OF THE DUMP (.gsa) THAT YtnbedmjchgfknaaProg.lean LOADS. Nothing in Lean hashes anything: it is a label: what it is worth is what the hold of that sum in a sandbox is worth. -/
noncomputable def Try.pinned : Pinned := { name := "ytnbedmjchgfknaa", sum := "c5cefc0c67603be80940c0a57ed38195dc2d0421a38b81acc234e65d4856b6da", checked := Try.checked }
namespace Rows
def none {H : Type} : Left H := { results := [], args := [] }

/-- 'gaolerlaw09.TrapMatchesReference': WHATEVER THE INPUT: true; the input reads as it did. -/
def trapMatchesReferenceSpec : ChangeSpec := { name := "trapMatchesReference", fn := fun _ => fun
  | [d1, d2] => { results := [.lit (.bool true)], args := [d1, d2] }
  | _ => none }
def trapMatchesReferenceRow : OpenClaim := { program := "ytnbedmjchgfknaa", sum := "c5cefc0c67603be80940c0a57ed38195dc2d0421a38b81acc234e65d4856b6da", func := "gaoler/gaolerlaw09.TrapMatchesReference", spec := "trapMatchesReference", unfollowed := true, recurses := true, apart := false }
def TrapMatchesReferenceSaid : Prop := trapMatchesReferenceRow.holds Try.pinned (OpenSpec.ofChange trapMatchesReferenceSpec)

/-- ITS FALSE NEIGHBOUR: 'it returns false'. Refute it at one input. -/
def trapMatchesReferenceWrong : ChangeSpec := { name := "trapMatchesReference", fn := fun _ => fun
  | [d1, d2] => { results := [.lit (.bool false)], args := [d1, d2] }
  | _ => none }
def TrapMatchesReferenceWrongFalsely : Prop := trapMatchesReferenceRow.holds Try.pinned (OpenSpec.ofChange trapMatchesReferenceWrong)

/-- 'gaolerlaw09.TrapReturnAfterTrap': WHATEVER THE INPUT: true; the input reads as it did. -/
def trapReturnAfterTrapSpec : ChangeSpec := { name := "trapReturnAfterTrap", fn := fun _ => fun
  | [d1, d2] => { results := [.lit (.bool true)], args := [d1, d2] }
  | _ => none }
def trapReturnAfterTrapRow : OpenClaim := { program := "ytnbedmjchgfknaa", sum := "c5cefc0c67603be80940c0a57ed38195dc2d0421a38b81acc234e65d4856b6da", func := "gaoler/gaolerlaw09.TrapReturnAfterTrap", spec := "trapReturnAfterTrap", unfollowed := true, recurses := true, apart := false }
def TrapReturnAfterTrapSaid : Prop := trapReturnAfterTrapRow.holds Try.pinned (OpenSpec.ofChange trapReturnAfterTrapSpec)

/-- ITS FALSE NEIGHBOUR: 'it returns false'. Refute it at one input. -/
def trapReturnAfterTrapWrong : ChangeSpec := { name := "trapReturnAfterTrap", fn := fun _ => fun
  | [d1, d2] => { results := [.lit (.bool false)], args := [d1, d2] }
  | _ => none }
def TrapReturnAfterTrapWrongFalsely : Prop := trapReturnAfterTrapRow.holds Try.pinned (OpenSpec.ofChange trapReturnAfterTrapWrong)

/-- 'gaolerlaw09.TrapNestedTrap': WHATEVER THE INPUT: true; the input reads as it did. -/
def trapNestedTrapSpec : ChangeSpec := { name := "trapNestedTrap", fn := fun _ => fun
  | [d1, d2, d3] => { results := [.lit (.bool true)], args := [d1, d2, d3] }
  | _ => none }
def trapNestedTrapRow : OpenClaim := { program := "ytnbedmjchgfknaa", sum := "c5cefc0c67603be80940c0a57ed38195dc2d0421a38b81acc234e65d4856b6da", func := "gaoler/gaolerlaw09.TrapNestedTrap", spec := "trapNestedTrap", unfollowed := true, recurses := true, apart := false }
def TrapNestedTrapSaid : Prop := trapNestedTrapRow.holds Try.pinned (OpenSpec.ofChange trapNestedTrapSpec)

/-- ITS FALSE NEIGHBOUR: 'it returns false'. Refute it at one input. -/
def trapNestedTrapWrong : ChangeSpec := { name := "trapNestedTrap", fn := fun _ => fun
  | [d1, d2, d3] => { results := [.lit (.bool false)], args := [d1, d2, d3] }
  | _ => none }
def TrapNestedTrapWrongFalsely : Prop := trapNestedTrapRow.holds Try.pinned (OpenSpec.ofChange trapNestedTrapWrong)

/-- 'gaolerlaw09.TrapDependencies': WHATEVER THE INPUT: true; the input reads as it did. -/
def trapDependenciesSpec : ChangeSpec := { name := "trapDependencies", fn := fun _ => fun
  | [d1, d2, d3, d4] => { results := [.lit (.bool true)], args := [d1, d2, d3, d4] }
  | _ => none }
def trapDependenciesRow : OpenClaim := { program := "ytnbedmjchgfknaa", sum := "c5cefc0c67603be80940c0a57ed38195dc2d0421a38b81acc234e65d4856b6da", func := "gaoler/gaolerlaw09.TrapDependencies", spec := "trapDependencies", unfollowed := true, recurses := true, apart := false }
def TrapDependenciesSaid : Prop := trapDependenciesRow.holds Try.pinned (OpenSpec.ofChange trapDependenciesSpec)

/-- ITS FALSE NEIGHBOUR: 'it returns false'. Refute it at one input. -/
def trapDependenciesWrong : ChangeSpec := { name := "trapDependencies", fn := fun _ => fun
  | [d1, d2, d3, d4] => { results := [.lit (.bool false)], args := [d1, d2, d3, d4] }
  | _ => none }
def TrapDependenciesWrongFalsely : Prop := trapDependenciesRow.holds Try.pinned (OpenSpec.ofChange trapDependenciesWrong)

/- THE SECOND FORM. 'bulk': how many values and letters a reading holds, each counted each time it is reached (what is shared counts as often as it is met; a slice's spare places count too). A statement '..UptoSaid' is the law's where the arguments, and the package variables that the reading takes, are together of bulk at most 1048576: NARROWER than '..Said'. Prove '..Said' where nothing that the law and all that it calls make is longer than what came in: it says more and counts as full. Else prove '..UptoSaid'. A law counts once. -/
mutual
def uptoBulk {H : Type} : DataW H → Nat
  | .lit (.string bytes) => bytes.length + 1
  | .lit _ => 1
  | .nil => 1
  | .ptr d => uptoBulk d + 1
  | .slice elems spare => uptoBulkAll elems + uptoBulkAll spare + 1
  | .agg parts => uptoBulkAll parts + 1
  | .iface _ d => uptoBulk d + 1
  | .map entries => uptoBulkEntries entries + 1
  | .held _ => 1
def uptoBulkAll {H : Type} : List (DataW H) → Nat
  | [] => 0
  | d :: r => uptoBulk d + uptoBulkAll r
def uptoBulkEntries {H : Type} : List (Lit × DataW H) → Nat
  | [] => 0
  | x :: r => uptoBulkEntry x + uptoBulkEntries r
def uptoBulkEntry {H : Type} : Lit × DataW H → Nat
  | (.string bytes, d) => bytes.length + uptoBulk d + 1
  | (_, d) => uptoBulk d + 1
 end
def uptoSmall : (H : Type) → List (DataW H) → Bool := fun _ ds => decide (uptoBulkAll ds ≤ 1048576)
def OpenSpec.upto (s : _root_.Go.ChangeSpec) : _root_.Go.OpenSpec := { _root_.Go.OpenSpec.ofChange s with cond := some uptoSmall }

/-- 'gaolerlaw09.TrapMatchesReference', WHERE WHAT IT READS IS OF BULK AT MOST 1048576: true; the input reads as it did. -/
def trapMatchesReferenceUptoRow : OpenClaim := { program := "ytnbedmjchgfknaa", sum := "c5cefc0c67603be80940c0a57ed38195dc2d0421a38b81acc234e65d4856b6da", func := "gaoler/gaolerlaw09.TrapMatchesReference", spec := "trapMatchesReference", unfollowed := true, recurses := true, apart := false, narrowed := true }
def TrapMatchesReferenceUptoSaid : Prop := trapMatchesReferenceUptoRow.holds Try.pinned (OpenSpec.upto trapMatchesReferenceSpec)

/-- 'gaolerlaw09.TrapReturnAfterTrap', WHERE WHAT IT READS IS OF BULK AT MOST 1048576: true; the input reads as it did. -/
def trapReturnAfterTrapUptoRow : OpenClaim := { program := "ytnbedmjchgfknaa", sum := "c5cefc0c67603be80940c0a57ed38195dc2d0421a38b81acc234e65d4856b6da", func := "gaoler/gaolerlaw09.TrapReturnAfterTrap", spec := "trapReturnAfterTrap", unfollowed := true, recurses := true, apart := false, narrowed := true }
def TrapReturnAfterTrapUptoSaid : Prop := trapReturnAfterTrapUptoRow.holds Try.pinned (OpenSpec.upto trapReturnAfterTrapSpec)

/-- 'gaolerlaw09.TrapNestedTrap', WHERE WHAT IT READS IS OF BULK AT MOST 1048576: true; the input reads as it did. -/
def trapNestedTrapUptoRow : OpenClaim := { program := "ytnbedmjchgfknaa", sum := "c5cefc0c67603be80940c0a57ed38195dc2d0421a38b81acc234e65d4856b6da", func := "gaoler/gaolerlaw09.TrapNestedTrap", spec := "trapNestedTrap", unfollowed := true, recurses := true, apart := false, narrowed := true }
def TrapNestedTrapUptoSaid : Prop := trapNestedTrapUptoRow.holds Try.pinned (OpenSpec.upto trapNestedTrapSpec)

/-- 'gaolerlaw09.TrapDependencies', WHERE WHAT IT READS IS OF BULK AT MOST 1048576: true; the input reads as it did. -/
def trapDependenciesUptoRow : OpenClaim := { program := "ytnbedmjchgfknaa", sum := "c5cefc0c67603be80940c0a57ed38195dc2d0421a38b81acc234e65d4856b6da", func := "gaoler/gaolerlaw09.TrapDependencies", spec := "trapDependencies", unfollowed := true, recurses := true, apart := false, narrowed := true }
def TrapDependenciesUptoSaid : Prop := trapDependenciesUptoRow.holds Try.pinned (OpenSpec.upto trapDependenciesSpec)

end Rows
end Go.Proofs.Ytnbedmjchgfknaa
