/-
  No cell of these rows narrows 'for every input' (looked for: loops, veiled, ifaces, maps, wideKeys, modest, calm, conditions, laid).
  DERIVED. THE GIVEN ROWS OF THIS SEAT. 5 by the template 'for every input the law returns true; each argument reads behind the call as it read before'; 0 by the template 'total and deterministic' (their statements: YtdklififnofedaaTotals.lean).
  GIVEN WITH THE SEED: the statements are not yours to turn. If you find one false, say at which input.
  Laid BY PROGRAM, IN A SANDBOX (cutbox-rows.mjs): the forced cells as the released guide's own fill.sh prints them over the translation 5e07cb433085a2bf… (all of the seat's roots in one cut). By AI agents, Wed Nov 11 2026. No macro, syntax, notation, axiom, sorry.
-/
import Derived.Test.YtdklififnofedaaChecked
import GoSem.Claim
import GoSem.ClaimJoined
import GoSem.ClaimMapViews
import Derived.JoinedTies
import Derived.KernelRfl
namespace Go.Proofs.Ytdklififnofedaa
/- THE CELL 'sum', in the pinned program and in every row, IS THE sha256 OF THE DUMP (.gsa) THAT YtdklififnofedaaProg.lean LOADS. Nothing in Lean hashes anything: it is a label: what it is worth is what the hold of that sum in a sandbox is worth. -/
noncomputable def Try.pinned : Pinned := { name := "ytdklififnofedaa", sum := "5e07cb433085a2bfd368b61a1b5fc65186546b3c7c832021a4ab4eb0b0f1f729", checked := Try.checked }
namespace Rows
def none {H : Type} : Left H := { results := [], args := [] }

/-- 'gaolerlaw06.RelocMatchesReference': WHATEVER THE INPUT: true; the input reads as it did. -/
def relocMatchesReferenceSpec : ChangeSpec := { name := "relocMatchesReference", fn := fun _ => fun
  | [d1, d2, d3, d4, d5, d6, d7] => { results := [.lit (.bool true)], args := [d1, d2, d3, d4, d5, d6, d7] }
  | _ => none }
def relocMatchesReferenceRow : OpenClaim := { program := "ytdklififnofedaa", sum := "5e07cb433085a2bfd368b61a1b5fc65186546b3c7c832021a4ab4eb0b0f1f729", func := "gaoler/gaolerlaw06.RelocMatchesReference", spec := "relocMatchesReference", apart := false }
def RelocMatchesReferenceSaid : Prop := relocMatchesReferenceRow.holds Try.pinned (OpenSpec.ofChange relocMatchesReferenceSpec)

/-- ITS FALSE NEIGHBOUR: 'it returns false'. Refute it at one input. -/
def relocMatchesReferenceWrong : ChangeSpec := { name := "relocMatchesReference", fn := fun _ => fun
  | [d1, d2, d3, d4, d5, d6, d7] => { results := [.lit (.bool false)], args := [d1, d2, d3, d4, d5, d6, d7] }
  | _ => none }
def RelocMatchesReferenceWrongFalsely : Prop := relocMatchesReferenceRow.holds Try.pinned (OpenSpec.ofChange relocMatchesReferenceWrong)

/-- 'gaolerlaw06.RelocComposedRelocation': WHATEVER THE INPUT: true; the input reads as it did. -/
def relocComposedRelocationSpec : ChangeSpec := { name := "relocComposedRelocation", fn := fun _ => fun
  | [d1, d2, d3, d4, d5] => { results := [.lit (.bool true)], args := [d1, d2, d3, d4, d5] }
  | _ => none }
def relocComposedRelocationRow : OpenClaim := { program := "ytdklififnofedaa", sum := "5e07cb433085a2bfd368b61a1b5fc65186546b3c7c832021a4ab4eb0b0f1f729", func := "gaoler/gaolerlaw06.RelocComposedRelocation", spec := "relocComposedRelocation", apart := false }
def RelocComposedRelocationSaid : Prop := relocComposedRelocationRow.holds Try.pinned (OpenSpec.ofChange relocComposedRelocationSpec)

/-- ITS FALSE NEIGHBOUR: 'it returns false'. Refute it at one input. -/
def relocComposedRelocationWrong : ChangeSpec := { name := "relocComposedRelocation", fn := fun _ => fun
  | [d1, d2, d3, d4, d5] => { results := [.lit (.bool false)], args := [d1, d2, d3, d4, d5] }
  | _ => none }
def RelocComposedRelocationWrongFalsely : Prop := relocComposedRelocationRow.holds Try.pinned (OpenSpec.ofChange relocComposedRelocationWrong)

/-- 'gaolerlaw06.RelocTranslationIsMonotone': WHATEVER THE INPUT: true; the input reads as it did. -/
def relocTranslationIsMonotoneSpec : ChangeSpec := { name := "relocTranslationIsMonotone", fn := fun _ => fun
  | [d1, d2, d3, d4, d5] => { results := [.lit (.bool true)], args := [d1, d2, d3, d4, d5] }
  | _ => none }
def relocTranslationIsMonotoneRow : OpenClaim := { program := "ytdklififnofedaa", sum := "5e07cb433085a2bfd368b61a1b5fc65186546b3c7c832021a4ab4eb0b0f1f729", func := "gaoler/gaolerlaw06.RelocTranslationIsMonotone", spec := "relocTranslationIsMonotone", apart := false }
def RelocTranslationIsMonotoneSaid : Prop := relocTranslationIsMonotoneRow.holds Try.pinned (OpenSpec.ofChange relocTranslationIsMonotoneSpec)

/-- ITS FALSE NEIGHBOUR: 'it returns false'. Refute it at one input. -/
def relocTranslationIsMonotoneWrong : ChangeSpec := { name := "relocTranslationIsMonotone", fn := fun _ => fun
  | [d1, d2, d3, d4, d5] => { results := [.lit (.bool false)], args := [d1, d2, d3, d4, d5] }
  | _ => none }
def RelocTranslationIsMonotoneWrongFalsely : Prop := relocTranslationIsMonotoneRow.holds Try.pinned (OpenSpec.ofChange relocTranslationIsMonotoneWrong)

/-- 'gaolerlaw06.RelocPartitionsAreDisjoint': WHATEVER THE INPUT: true; the input reads as it did. -/
def relocPartitionsAreDisjointSpec : ChangeSpec := { name := "relocPartitionsAreDisjoint", fn := fun _ => fun
  | [d1, d2, d3, d4, d5, d6, d7] => { results := [.lit (.bool true)], args := [d1, d2, d3, d4, d5, d6, d7] }
  | _ => none }
def relocPartitionsAreDisjointRow : OpenClaim := { program := "ytdklififnofedaa", sum := "5e07cb433085a2bfd368b61a1b5fc65186546b3c7c832021a4ab4eb0b0f1f729", func := "gaoler/gaolerlaw06.RelocPartitionsAreDisjoint", spec := "relocPartitionsAreDisjoint", apart := false }
def RelocPartitionsAreDisjointSaid : Prop := relocPartitionsAreDisjointRow.holds Try.pinned (OpenSpec.ofChange relocPartitionsAreDisjointSpec)

/-- ITS FALSE NEIGHBOUR: 'it returns false'. Refute it at one input. -/
def relocPartitionsAreDisjointWrong : ChangeSpec := { name := "relocPartitionsAreDisjoint", fn := fun _ => fun
  | [d1, d2, d3, d4, d5, d6, d7] => { results := [.lit (.bool false)], args := [d1, d2, d3, d4, d5, d6, d7] }
  | _ => none }
def RelocPartitionsAreDisjointWrongFalsely : Prop := relocPartitionsAreDisjointRow.holds Try.pinned (OpenSpec.ofChange relocPartitionsAreDisjointWrong)

/-- 'gaolerlaw06.RelocationDependencies': WHATEVER THE INPUT: true; the input reads as it did. -/
def relocationDependenciesSpec : ChangeSpec := { name := "relocationDependencies", fn := fun _ => fun
  | [d1, d2, d3, d4, d5, d6] => { results := [.lit (.bool true)], args := [d1, d2, d3, d4, d5, d6] }
  | _ => none }
def relocationDependenciesRow : OpenClaim := { program := "ytdklififnofedaa", sum := "5e07cb433085a2bfd368b61a1b5fc65186546b3c7c832021a4ab4eb0b0f1f729", func := "gaoler/gaolerlaw06.RelocationDependencies", spec := "relocationDependencies", apart := false }
def RelocationDependenciesSaid : Prop := relocationDependenciesRow.holds Try.pinned (OpenSpec.ofChange relocationDependenciesSpec)

/-- ITS FALSE NEIGHBOUR: 'it returns false'. Refute it at one input. -/
def relocationDependenciesWrong : ChangeSpec := { name := "relocationDependencies", fn := fun _ => fun
  | [d1, d2, d3, d4, d5, d6] => { results := [.lit (.bool false)], args := [d1, d2, d3, d4, d5, d6] }
  | _ => none }
def RelocationDependenciesWrongFalsely : Prop := relocationDependenciesRow.holds Try.pinned (OpenSpec.ofChange relocationDependenciesWrong)

/- THE SECOND FORM. 'bulk': how many values and letters a reading holds, each counted each time it is reached (what is shared counts as often as it is met; a slice's spare places count too). A statement '..UptoSaid' is the law's where the arguments, and the package variables that the reading takes, are together of bulk at most 1048576: NARROWER than '..Said'. Prove '..Said' where nothing that the law and all that it calls make is longer than what came in: it says more and counts as full. Else prove '..UptoSaid'. A law counts once. -/
mutual
def uptoBulk {H : Type} : DataW H → Nat
  | .lit (.string bytes) => bytes.length + 1
  | .lit _ => 1
  | .nil => 1
  | .ptr d => uptoBulk d + 1
  | .slice elems spare => uptoBulkAll elems + uptoBulkAll spare + 1
  | .agg parts => uptoBulkAll parts + 1
  | .iface _ d => uptoBulk d + 1
  | .map entries => uptoBulkEntries entries + 1
  | .held _ => 1
def uptoBulkAll {H : Type} : List (DataW H) → Nat
  | [] => 0
  | d :: r => uptoBulk d + uptoBulkAll r
def uptoBulkEntries {H : Type} : List (Lit × DataW H) → Nat
  | [] => 0
  | x :: r => uptoBulkEntry x + uptoBulkEntries r
def uptoBulkEntry {H : Type} : Lit × DataW H → Nat
  | (.string bytes, d) => bytes.length + uptoBulk d + 1
  | (_, d) => uptoBulk d + 1
 end
def uptoSmall : (H : Type) → List (DataW H) → Bool := fun _ ds => decide (uptoBulkAll ds ≤ 1048576)
def OpenSpec.upto (s : _root_.Go.ChangeSpec) : _root_.Go.OpenSpec := { _root_.Go.OpenSpec.ofChange s with cond := some uptoSmall }

/-- 'gaolerlaw06.RelocMatchesReference', WHERE WHAT IT READS IS OF BULK AT MOST 1048576: true; the input reads as it did. -/
def relocMatchesReferenceUptoRow : OpenClaim := { program := "ytdklififnofedaa", sum := "5e07cb433085a2bfd368b61a1b5fc65186546b3c7c832021a4ab4eb0b0f1f729", func := "gaoler/gaolerlaw06.RelocMatchesReference", spec := "relocMatchesReference", apart := false, narrowed := true }
def RelocMatchesReferenceUptoSaid : Prop := relocMatchesReferenceUptoRow.holds Try.pinned (OpenSpec.upto relocMatchesReferenceSpec)

/-- 'gaolerlaw06.RelocComposedRelocation', WHERE WHAT IT READS IS OF BULK AT MOST 1048576: true; the input reads as it did. -/
def relocComposedRelocationUptoRow : OpenClaim := { program := "ytdklififnofedaa", sum := "5e07cb433085a2bfd368b61a1b5fc65186546b3c7c832021a4ab4eb0b0f1f729", func := "gaoler/gaolerlaw06.RelocComposedRelocation", spec := "relocComposedRelocation", apart := false, narrowed := true }
def RelocComposedRelocationUptoSaid : Prop := relocComposedRelocationUptoRow.holds Try.pinned (OpenSpec.upto relocComposedRelocationSpec)

/-- 'gaolerlaw06.RelocTranslationIsMonotone', WHERE WHAT IT READS IS OF BULK AT MOST 1048576: true; the input reads as it did. -/
def relocTranslationIsMonotoneUptoRow : OpenClaim := { program := "ytdklififnofedaa", sum := "5e07cb433085a2bfd368b61a1b5fc65186546b3c7c832021a4ab4eb0b0f1f729", func := "gaoler/gaolerlaw06.RelocTranslationIsMonotone", spec := "relocTranslationIsMonotone", apart := false, narrowed := true }
def RelocTranslationIsMonotoneUptoSaid : Prop := relocTranslationIsMonotoneUptoRow.holds Try.pinned (OpenSpec.upto relocTranslationIsMonotoneSpec)

/-- 'gaolerlaw06.RelocPartitionsAreDisjoint', WHERE WHAT IT READS IS OF BULK AT MOST 1048576: true; the input reads as it did. -/
def relocPartitionsAreDisjointUptoRow : OpenClaim := { program := "ytdklififnofedaa", sum := "5e07cb433085a2bfd368b61a1b5fc65186546b3c7c832021a4ab4eb0b0f1f729", func := "gaoler/gaolerlaw06.RelocPartitionsAreDisjoint", spec := "relocPartitionsAreDisjoint", apart := false, narrowed := true }
def RelocPartitionsAreDisjointUptoSaid : Prop := relocPartitionsAreDisjointUptoRow.holds Try.pinned (OpenSpec.upto relocPartitionsAreDisjointSpec)

/-- 'gaolerlaw06.RelocationDependencies', WHERE WHAT IT READS IS OF BULK AT MOST 1048576: true; the input reads as it did. -/
def relocationDependenciesUptoRow : OpenClaim := { program := "ytdklififnofedaa", sum := "5e07cb433085a2bfd368b61a1b5fc65186546b3c7c832021a4ab4eb0b0f1f729", func := "gaoler/gaolerlaw06.RelocationDependencies", spec := "relocationDependencies", apart := false, narrowed := true }
def RelocationDependenciesUptoSaid : Prop := relocationDependenciesUptoRow.holds Try.pinned (OpenSpec.upto relocationDependenciesSpec)

end Rows
end Go.Proofs.Ytdklififnofedaa
