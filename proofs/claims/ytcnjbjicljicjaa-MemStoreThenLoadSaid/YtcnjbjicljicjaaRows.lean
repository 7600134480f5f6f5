/-
  No cell of these rows narrows 'for every input' (looked for: loops, veiled, ifaces, maps, wideKeys, modest, calm, conditions, laid).
  DERIVED. THE GIVEN ROWS OF THIS SEAT. 4 by the template 'for every input the law returns true; each argument reads behind the call as it read before'; 0 by the template 'total and deterministic' (their statements: YtcnjbjicljicjaaTotals.lean).
  GIVEN WITH THE SEED: the statements are not yours to turn. If you find one false, say at which input.
  Laid BY PROGRAM, IN A SANDBOX (cutbox-rows.mjs): the forced cells as the released guide's own fill.sh prints them over the translation 30ae9e07ef38f636… (all of the seat's roots in one cut). By AI agents, Wed Nov 11 2026. No macro, syntax, notation, axiom, sorry.
-/
import Derived.Test.YtcnjbjicljicjaaChecked
import GoSem.Claim
import GoSem.ClaimJoined
import GoSem.ClaimMapViews
import Derived.JoinedTies
import Derived.KernelRfl
namespace Go.Proofs.Ytcnjbjicljicjaa
/- THE CELL 'sum', in the pinned program and in every row, IS THE sha256 OF THE DUMP (.gsa) THAT YtcnjbjicljicjaaProg.lean LOADS. Nothing in Lean hashes anything: it is a label: what it is worth is what the hold of that sum in a sandbox is worth. -/
noncomputable def Try.pinned : Pinned := { name := "ytcnjbjicljicjaa", sum := "30ae9e07ef38f636ba877fbe6fb5f0b0fbf1ac3e6652850766e3f6b4644a2170", checked := Try.checked }
namespace Rows
def none {H : Type} : Left H := { results := [], args := [] }

/-- 'gaolerlaw05.MemMatchesReference': WHATEVER THE INPUT: true; the input reads as it did. -/
def memMatchesReferenceSpec : ChangeSpec := { name := "memMatchesReference", fn := fun _ => fun
  | [d1, d2, d3, d4, d5, d6] => { results := [.lit (.bool true)], args := [d1, d2, d3, d4, d5, d6] }
  | _ => none }
def memMatchesReferenceRow : OpenClaim := { program := "ytcnjbjicljicjaa", sum := "30ae9e07ef38f636ba877fbe6fb5f0b0fbf1ac3e6652850766e3f6b4644a2170", func := "gaoler/gaolerlaw05.MemMatchesReference", spec := "memMatchesReference", apart := false }
def MemMatchesReferenceSaid : Prop := memMatchesReferenceRow.holds Try.pinned (OpenSpec.ofChange memMatchesReferenceSpec)

/-- ITS FALSE NEIGHBOUR: 'it returns false'. Refute it at one input. -/
def memMatchesReferenceWrong : ChangeSpec := { name := "memMatchesReference", fn := fun _ => fun
  | [d1, d2, d3, d4, d5, d6] => { results := [.lit (.bool false)], args := [d1, d2, d3, d4, d5, d6] }
  | _ => none }
def MemMatchesReferenceWrongFalsely : Prop := memMatchesReferenceRow.holds Try.pinned (OpenSpec.ofChange memMatchesReferenceWrong)

/-- 'gaolerlaw05.MemStoreThenLoad': WHATEVER THE INPUT: true; the input reads as it did. -/
def memStoreThenLoadSpec : ChangeSpec := { name := "memStoreThenLoad", fn := fun _ => fun
  | [d1, d2, d3, d4, d5] => { results := [.lit (.bool true)], args := [d1, d2, d3, d4, d5] }
  | _ => none }
def memStoreThenLoadRow : OpenClaim := { program := "ytcnjbjicljicjaa", sum := "30ae9e07ef38f636ba877fbe6fb5f0b0fbf1ac3e6652850766e3f6b4644a2170", func := "gaoler/gaolerlaw05.MemStoreThenLoad", spec := "memStoreThenLoad", apart := false }
def MemStoreThenLoadSaid : Prop := memStoreThenLoadRow.holds Try.pinned (OpenSpec.ofChange memStoreThenLoadSpec)

/-- ITS FALSE NEIGHBOUR: 'it returns false'. Refute it at one input. -/
def memStoreThenLoadWrong : ChangeSpec := { name := "memStoreThenLoad", fn := fun _ => fun
  | [d1, d2, d3, d4, d5] => { results := [.lit (.bool false)], args := [d1, d2, d3, d4, d5] }
  | _ => none }
def MemStoreThenLoadWrongFalsely : Prop := memStoreThenLoadRow.holds Try.pinned (OpenSpec.ofChange memStoreThenLoadWrong)

/-- 'gaolerlaw05.MemWriteThenRead': WHATEVER THE INPUT: true; the input reads as it did. -/
def memWriteThenReadSpec : ChangeSpec := { name := "memWriteThenRead", fn := fun _ => fun
  | [d1, d2, d3] => { results := [.lit (.bool true)], args := [d1, d2, d3] }
  | _ => none }
def memWriteThenReadRow : OpenClaim := { program := "ytcnjbjicljicjaa", sum := "30ae9e07ef38f636ba877fbe6fb5f0b0fbf1ac3e6652850766e3f6b4644a2170", func := "gaoler/gaolerlaw05.MemWriteThenRead", spec := "memWriteThenRead", apart := false }
def MemWriteThenReadSaid : Prop := memWriteThenReadRow.holds Try.pinned (OpenSpec.ofChange memWriteThenReadSpec)

/-- ITS FALSE NEIGHBOUR: 'it returns false'. Refute it at one input. -/
def memWriteThenReadWrong : ChangeSpec := { name := "memWriteThenRead", fn := fun _ => fun
  | [d1, d2, d3] => { results := [.lit (.bool false)], args := [d1, d2, d3] }
  | _ => none }
def MemWriteThenReadWrongFalsely : Prop := memWriteThenReadRow.holds Try.pinned (OpenSpec.ofChange memWriteThenReadWrong)

/-- 'gaolerlaw05.MemBytesAndWords': WHATEVER THE INPUT: true; the input reads as it did. -/
def memBytesAndWordsSpec : ChangeSpec := { name := "memBytesAndWords", fn := fun _ => fun
  | [d1, d2, d3] => { results := [.lit (.bool true)], args := [d1, d2, d3] }
  | _ => none }
def memBytesAndWordsRow : OpenClaim := { program := "ytcnjbjicljicjaa", sum := "30ae9e07ef38f636ba877fbe6fb5f0b0fbf1ac3e6652850766e3f6b4644a2170", func := "gaoler/gaolerlaw05.MemBytesAndWords", spec := "memBytesAndWords", apart := false }
def MemBytesAndWordsSaid : Prop := memBytesAndWordsRow.holds Try.pinned (OpenSpec.ofChange memBytesAndWordsSpec)

/-- ITS FALSE NEIGHBOUR: 'it returns false'. Refute it at one input. -/
def memBytesAndWordsWrong : ChangeSpec := { name := "memBytesAndWords", fn := fun _ => fun
  | [d1, d2, d3] => { results := [.lit (.bool false)], args := [d1, d2, d3] }
  | _ => none }
def MemBytesAndWordsWrongFalsely : Prop := memBytesAndWordsRow.holds Try.pinned (OpenSpec.ofChange memBytesAndWordsWrong)

/- THE SECOND FORM. 'bulk': how many values and letters a reading holds, each counted each time it is reached (what is shared counts as often as it is met; a slice's spare places count too). A statement '..UptoSaid' is the law's where the arguments, and the package variables that the reading takes, are together of bulk at most 1048576: NARROWER than '..Said'. Prove '..Said' where nothing that the law and all that it calls make is longer than what came in: it says more and counts as full. Else prove '..UptoSaid'. A law counts once. -/
mutual
def uptoBulk {H : Type} : DataW H → Nat
  | .lit (.string bytes) => bytes.length + 1
  | .lit _ => 1
  | .nil => 1
  | .ptr d => uptoBulk d + 1
  | .slice elems spare => uptoBulkAll elems + uptoBulkAll spare + 1
  | .agg parts => uptoBulkAll parts + 1
  | .iface _ d => uptoBulk d + 1
  | .map entries => uptoBulkEntries entries + 1
  | .held _ => 1
def uptoBulkAll {H : Type} : List (DataW H) → Nat
  | [] => 0
  | d :: r => uptoBulk d + uptoBulkAll r
def uptoBulkEntries {H : Type} : List (Lit × DataW H) → Nat
  | [] => 0
  | x :: r => uptoBulkEntry x + uptoBulkEntries r
def uptoBulkEntry {H : Type} : Lit × DataW H → Nat
  | (.string bytes, d) => bytes.length + uptoBulk d + 1
  | (_, d) => uptoBulk d + 1
 end
def uptoSmall : (H : Type) → List (DataW H) → Bool := fun _ ds => decide (uptoBulkAll ds ≤ 1048576)
def OpenSpec.upto (s : _root_.Go.ChangeSpec) : _root_.Go.OpenSpec := { _root_.Go.OpenSpec.ofChange s with cond := some uptoSmall }

/-- 'gaolerlaw05.MemMatchesReference', WHERE WHAT IT READS IS OF BULK AT MOST 1048576: true; the input reads as it did. -/
def memMatchesReferenceUptoRow : OpenClaim := { program := "ytcnjbjicljicjaa", sum := "30ae9e07ef38f636ba877fbe6fb5f0b0fbf1ac3e6652850766e3f6b4644a2170", func := "gaoler/gaolerlaw05.MemMatchesReference", spec := "memMatchesReference", apart := false, narrowed := true }
def MemMatchesReferenceUptoSaid : Prop := memMatchesReferenceUptoRow.holds Try.pinned (OpenSpec.upto memMatchesReferenceSpec)

/-- 'gaolerlaw05.MemStoreThenLoad', WHERE WHAT IT READS IS OF BULK AT MOST 1048576: true; the input reads as it did. -/
def memStoreThenLoadUptoRow : OpenClaim := { program := "ytcnjbjicljicjaa", sum := "30ae9e07ef38f636ba877fbe6fb5f0b0fbf1ac3e6652850766e3f6b4644a2170", func := "gaoler/gaolerlaw05.MemStoreThenLoad", spec := "memStoreThenLoad", apart := false, narrowed := true }
def MemStoreThenLoadUptoSaid : Prop := memStoreThenLoadUptoRow.holds Try.pinned (OpenSpec.upto memStoreThenLoadSpec)

/-- 'gaolerlaw05.MemWriteThenRead', WHERE WHAT IT READS IS OF BULK AT MOST 1048576: true; the input reads as it did. -/
def memWriteThenReadUptoRow : OpenClaim := { program := "ytcnjbjicljicjaa", sum := "30ae9e07ef38f636ba877fbe6fb5f0b0fbf1ac3e6652850766e3f6b4644a2170", func := "gaoler/gaolerlaw05.MemWriteThenRead", spec := "memWriteThenRead", apart := false, narrowed := true }
def MemWriteThenReadUptoSaid : Prop := memWriteThenReadUptoRow.holds Try.pinned (OpenSpec.upto memWriteThenReadSpec)

/-- 'gaolerlaw05.MemBytesAndWords', WHERE WHAT IT READS IS OF BULK AT MOST 1048576: true; the input reads as it did. -/
def memBytesAndWordsUptoRow : OpenClaim := { program := "ytcnjbjicljicjaa", sum := "30ae9e07ef38f636ba877fbe6fb5f0b0fbf1ac3e6652850766e3f6b4644a2170", func := "gaoler/gaolerlaw05.MemBytesAndWords", spec := "memBytesAndWords", apart := false, narrowed := true }
def MemBytesAndWordsUptoSaid : Prop := memBytesAndWordsUptoRow.holds Try.pinned (OpenSpec.upto memBytesAndWordsSpec)

end Rows
end Go.Proofs.Ytcnjbjicljicjaa
