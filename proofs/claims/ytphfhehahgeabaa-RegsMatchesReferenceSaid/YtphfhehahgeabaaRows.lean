/-
  No cell of these rows narrows 'for every input' (looked for: loops, veiled, ifaces, maps, wideKeys, modest, calm, conditions, laid).
  DERIVED. THE GIVEN ROWS OF THIS SEAT. 4 by the template 'for every input the law returns true; each argument reads behind the call as it read before'; 0 by the template 'total and deterministic' (their statements: YtphfhehahgeabaaTotals.lean).
  GIVEN WITH THE SEED: the statements are not yours to turn. If you find one false, say at which input.
  Laid BY PROGRAM, IN A SANDBOX (cutbox-rows.mjs): the forced cells as the released guide's own fill.sh prints them over the translation aba7e2e6ca9614dc… (all of the seat's roots in one cut). By AI agents, Wed Nov 11 2026. No macro, syntax, notation, axiom, sorry.
-/
import Derived.Test.YtphfhehahgeabaaChecked
import GoSem.Claim
import GoSem.ClaimJoined
import GoSem.ClaimMapViews
import Derived.JoinedTies
import Derived.KernelRfl
namespace Go.Proofs.Ytphfhehahgeabaa
/- THE CELL 'sum', in the pinned program and in every row, IS THE sha256 OF THE DUMP (.gsa) THAT YtphfhehahgeabaaProg.lean LOADS. Nothing in Lean hashes anything: it is a label: what it is worth is what the hold of that sum in a sandbox is worth. -/
noncomputable def Try.pinned : Pinned := { name := "ytphfhehahgeabaa", sum := "aba7e2e6ca9614dc0c9dc3e0e003dd06d28d202c0ad9cf880176c5802e2b20d7", checked := Try.checked }
namespace Rows
def none {H : Type} : Left H := { results := [], args := [] }

/-- 'gaolerlaw07.RegsMatchesReference': WHATEVER THE INPUT: true; the input reads as it did. -/
def regsMatchesReferenceSpec : ChangeSpec := { name := "regsMatchesReference", fn := fun _ => fun
  | [d1, d2, d3] => { results := [.lit (.bool true)], args := [d1, d2, d3] }
  | _ => none }
def regsMatchesReferenceRow : OpenClaim := { program := "ytphfhehahgeabaa", sum := "aba7e2e6ca9614dc0c9dc3e0e003dd06d28d202c0ad9cf880176c5802e2b20d7", func := "gaoler/gaolerlaw07.RegsMatchesReference", spec := "regsMatchesReference", apart := false }
def RegsMatchesReferenceSaid : Prop := regsMatchesReferenceRow.holds Try.pinned (OpenSpec.ofChange regsMatchesReferenceSpec)

/-- ITS FALSE NEIGHBOUR: 'it returns false'. Refute it at one input. -/
def regsMatchesReferenceWrong : ChangeSpec := { name := "regsMatchesReference", fn := fun _ => fun
  | [d1, d2, d3] => { results := [.lit (.bool false)], args := [d1, d2, d3] }
  | _ => none }
def RegsMatchesReferenceWrongFalsely : Prop := regsMatchesReferenceRow.holds Try.pinned (OpenSpec.ofChange regsMatchesReferenceWrong)

/-- 'gaolerlaw07.RegsSetThenGet': WHATEVER THE INPUT: true; the input reads as it did. -/
def regsSetThenGetSpec : ChangeSpec := { name := "regsSetThenGet", fn := fun _ => fun
  | [d1, d2, d3, d4, d5] => { results := [.lit (.bool true)], args := [d1, d2, d3, d4, d5] }
  | _ => none }
def regsSetThenGetRow : OpenClaim := { program := "ytphfhehahgeabaa", sum := "aba7e2e6ca9614dc0c9dc3e0e003dd06d28d202c0ad9cf880176c5802e2b20d7", func := "gaoler/gaolerlaw07.RegsSetThenGet", spec := "regsSetThenGet", apart := false }
def RegsSetThenGetSaid : Prop := regsSetThenGetRow.holds Try.pinned (OpenSpec.ofChange regsSetThenGetSpec)

/-- ITS FALSE NEIGHBOUR: 'it returns false'. Refute it at one input. -/
def regsSetThenGetWrong : ChangeSpec := { name := "regsSetThenGet", fn := fun _ => fun
  | [d1, d2, d3, d4, d5] => { results := [.lit (.bool false)], args := [d1, d2, d3, d4, d5] }
  | _ => none }
def RegsSetThenGetWrongFalsely : Prop := regsSetThenGetRow.holds Try.pinned (OpenSpec.ofChange regsSetThenGetWrong)

/-- 'gaolerlaw07.RegsClearZeroIsInvisible': WHATEVER THE INPUT: true; the input reads as it did. -/
def regsClearZeroIsInvisibleSpec : ChangeSpec := { name := "regsClearZeroIsInvisible", fn := fun _ => fun
  | [d1, d2, d3, d4] => { results := [.lit (.bool true)], args := [d1, d2, d3, d4] }
  | _ => none }
def regsClearZeroIsInvisibleRow : OpenClaim := { program := "ytphfhehahgeabaa", sum := "aba7e2e6ca9614dc0c9dc3e0e003dd06d28d202c0ad9cf880176c5802e2b20d7", func := "gaoler/gaolerlaw07.RegsClearZeroIsInvisible", spec := "regsClearZeroIsInvisible", apart := false }
def RegsClearZeroIsInvisibleSaid : Prop := regsClearZeroIsInvisibleRow.holds Try.pinned (OpenSpec.ofChange regsClearZeroIsInvisibleSpec)

/-- ITS FALSE NEIGHBOUR: 'it returns false'. Refute it at one input. -/
def regsClearZeroIsInvisibleWrong : ChangeSpec := { name := "regsClearZeroIsInvisible", fn := fun _ => fun
  | [d1, d2, d3, d4] => { results := [.lit (.bool false)], args := [d1, d2, d3, d4] }
  | _ => none }
def RegsClearZeroIsInvisibleWrongFalsely : Prop := regsClearZeroIsInvisibleRow.holds Try.pinned (OpenSpec.ofChange regsClearZeroIsInvisibleWrong)

/-- 'gaolerlaw07.RegsSetAllRegisters': WHATEVER THE INPUT: true; the input reads as it did. -/
def regsSetAllRegistersSpec : ChangeSpec := { name := "regsSetAllRegisters", fn := fun _ => fun
  | [d1, d2, d3] => { results := [.lit (.bool true)], args := [d1, d2, d3] }
  | _ => none }
def regsSetAllRegistersRow : OpenClaim := { program := "ytphfhehahgeabaa", sum := "aba7e2e6ca9614dc0c9dc3e0e003dd06d28d202c0ad9cf880176c5802e2b20d7", func := "gaoler/gaolerlaw07.RegsSetAllRegisters", spec := "regsSetAllRegisters", apart := false }
def RegsSetAllRegistersSaid : Prop := regsSetAllRegistersRow.holds Try.pinned (OpenSpec.ofChange regsSetAllRegistersSpec)

/-- ITS FALSE NEIGHBOUR: 'it returns false'. Refute it at one input. -/
def regsSetAllRegistersWrong : ChangeSpec := { name := "regsSetAllRegisters", fn := fun _ => fun
  | [d1, d2, d3] => { results := [.lit (.bool false)], args := [d1, d2, d3] }
  | _ => none }
def RegsSetAllRegistersWrongFalsely : Prop := regsSetAllRegistersRow.holds Try.pinned (OpenSpec.ofChange regsSetAllRegistersWrong)

/- THE SECOND FORM. 'bulk': how many values and letters a reading holds, each counted each time it is reached (what is shared counts as often as it is met; a slice's spare places count too). A statement '..UptoSaid' is the law's where the arguments, and the package variables that the reading takes, are together of bulk at most 1048576: NARROWER than '..Said'. Prove '..Said' where nothing that the law and all that it calls make is longer than what came in: it says more and counts as full. Else prove '..UptoSaid'. A law counts once. -/
mutual
def uptoBulk {H : Type} : DataW H → Nat
  | .lit (.string bytes) => bytes.length + 1
  | .lit _ => 1
  | .nil => 1
  | .ptr d => uptoBulk d + 1
  | .slice elems spare => uptoBulkAll elems + uptoBulkAll spare + 1
  | .agg parts => uptoBulkAll parts + 1
  | .iface _ d => uptoBulk d + 1
  | .map entries => uptoBulkEntries entries + 1
  | .held _ => 1
def uptoBulkAll {H : Type} : List (DataW H) → Nat
  | [] => 0
  | d :: r => uptoBulk d + uptoBulkAll r
def uptoBulkEntries {H : Type} : List (Lit × DataW H) → Nat
  | [] => 0
  | x :: r => uptoBulkEntry x + uptoBulkEntries r
def uptoBulkEntry {H : Type} : Lit × DataW H → Nat
  | (.string bytes, d) => bytes.length + uptoBulk d + 1
  | (_, d) => uptoBulk d + 1
 end
def uptoSmall : (H : Type) → List (DataW H) → Bool := fun _ ds => decide (uptoBulkAll ds ≤ 1048576)
def OpenSpec.upto (s : _root_.Go.ChangeSpec) : _root_.Go.OpenSpec := { _root_.Go.OpenSpec.ofChange s with cond := some uptoSmall }

/-- 'gaolerlaw07.RegsMatchesReference', WHERE WHAT IT READS IS OF BULK AT MOST 1048576: true; the input reads as it did. -/
def regsMatchesReferenceUptoRow : OpenClaim := { program := "ytphfhehahgeabaa", sum := "aba7e2e6ca9614dc0c9dc3e0e003dd06d28d202c0ad9cf880176c5802e2b20d7", func := "gaoler/gaolerlaw07.RegsMatchesReference", spec := "regsMatchesReference", apart := false, narrowed := true }
def RegsMatchesReferenceUptoSaid : Prop := regsMatchesReferenceUptoRow.holds Try.pinned (OpenSpec.upto regsMatchesReferenceSpec)

/-- 'gaolerlaw07.RegsSetThenGet', WHERE WHAT IT READS IS OF BULK AT MOST 1048576: true; the input reads as it did. -/
def regsSetThenGetUptoRow : OpenClaim := { program := "ytphfhehahgeabaa", sum := "aba7e2e6ca9614dc0c9dc3e0e003dd06d28d202c0ad9cf880176c5802e2b20d7", func := "gaoler/gaolerlaw07.RegsSetThenGet", spec := "regsSetThenGet", apart := false, narrowed := true }
def RegsSetThenGetUptoSaid : Prop := regsSetThenGetUptoRow.holds Try.pinned (OpenSpec.upto regsSetThenGetSpec)

/-- 'gaolerlaw07.RegsClearZeroIsInvisible', WHERE WHAT IT READS IS OF BULK AT MOST 1048576: true; the input reads as it did. -/
def regsClearZeroIsInvisibleUptoRow : OpenClaim := { program := "ytphfhehahgeabaa", sum := "aba7e2e6ca9614dc0c9dc3e0e003dd06d28d202c0ad9cf880176c5802e2b20d7", func := "gaoler/gaolerlaw07.RegsClearZeroIsInvisible", spec := "regsClearZeroIsInvisible", apart := false, narrowed := true }
def RegsClearZeroIsInvisibleUptoSaid : Prop := regsClearZeroIsInvisibleUptoRow.holds Try.pinned (OpenSpec.upto regsClearZeroIsInvisibleSpec)

/-- 'gaolerlaw07.RegsSetAllRegisters', WHERE WHAT IT READS IS OF BULK AT MOST 1048576: true; the input reads as it did. -/
def regsSetAllRegistersUptoRow : OpenClaim := { program := "ytphfhehahgeabaa", sum := "aba7e2e6ca9614dc0c9dc3e0e003dd06d28d202c0ad9cf880176c5802e2b20d7", func := "gaoler/gaolerlaw07.RegsSetAllRegisters", spec := "regsSetAllRegisters", apart := false, narrowed := true }
def RegsSetAllRegistersUptoSaid : Prop := regsSetAllRegistersUptoRow.holds Try.pinned (OpenSpec.upto regsSetAllRegistersSpec)

end Rows
end Go.Proofs.Ytphfhehahgeabaa
