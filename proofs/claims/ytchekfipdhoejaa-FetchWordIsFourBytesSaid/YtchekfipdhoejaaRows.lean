/-
  No cell of these rows narrows 'for every input' (looked for: loops, veiled, ifaces, maps, wideKeys, modest, calm, conditions, laid).
  DERIVED. THE GIVEN ROWS OF THIS SEAT. 6 by the template 'for every input the law returns true; each argument reads behind the call as it read before'; 0 by the template 'total and deterministic' (their statements: YtchekfipdhoejaaTotals.lean).
  GIVEN WITH THE SEED: the statements are not yours to turn. If you find one false, say at which input.
  Laid BY PROGRAM, IN A SANDBOX (cutbox-rows.mjs): the forced cells as the released guide's own fill.sh prints them over the translation 10baad07b69bf912… (all of the seat's roots in one cut). By AI agents, Wed Nov 11 2026. No macro, syntax, notation, axiom, sorry.
-/
import Derived.Test.YtchekfipdhoejaaChecked
import GoSem.Claim
import GoSem.ClaimJoined
import GoSem.ClaimMapViews
import Derived.JoinedTies
import Derived.KernelRfl
namespace Go.Proofs.Ytchekfipdhoejaa
/- THE CELL 'sum', in the pinned program and in every row, IS THE sha256 OF THE DUMP (.gsa) THAT YtchekfipdhoejaaProg.lean LOADS. Nothing in Lean hashes anything: it is a label: what it is worth is what the hold of that sum in a sandbox is worth. -/
noncomputable def Try.pinned : Pinned := { name := "ytchekfipdhoejaa", sum := "10baad07b69bf91205585d4cfac3d00d3b721ae1bc4b0cf073d8e241245555ac", checked := Try.checked }
namespace Rows
def none {H : Type} : Left H := { results := [], args := [] }

/-- 'gaolerlaw10.FetchMatchesReference': WHATEVER THE INPUT: true; the input reads as it did. -/
def fetchMatchesReferenceSpec : ChangeSpec := { name := "fetchMatchesReference", fn := fun _ => fun
  | [d1, d2, d3, d4] => { results := [.lit (.bool true)], args := [d1, d2, d3, d4] }
  | _ => none }
def fetchMatchesReferenceRow : OpenClaim := { program := "ytchekfipdhoejaa", sum := "10baad07b69bf91205585d4cfac3d00d3b721ae1bc4b0cf073d8e241245555ac", func := "gaoler/gaolerlaw10.FetchMatchesReference", spec := "fetchMatchesReference", unfollowed := true, recurses := true, apart := false }
def FetchMatchesReferenceSaid : Prop := fetchMatchesReferenceRow.holds Try.pinned (OpenSpec.ofChange fetchMatchesReferenceSpec)

/-- ITS FALSE NEIGHBOUR: 'it returns false'. Refute it at one input. -/
def fetchMatchesReferenceWrong : ChangeSpec := { name := "fetchMatchesReference", fn := fun _ => fun
  | [d1, d2, d3, d4] => { results := [.lit (.bool false)], args := [d1, d2, d3, d4] }
  | _ => none }
def FetchMatchesReferenceWrongFalsely : Prop := fetchMatchesReferenceRow.holds Try.pinned (OpenSpec.ofChange fetchMatchesReferenceWrong)

/-- 'gaolerlaw10.FetchStoreLoadOrTrap': WHATEVER THE INPUT: true; the input reads as it did. -/
def fetchStoreLoadOrTrapSpec : ChangeSpec := { name := "fetchStoreLoadOrTrap", fn := fun _ => fun
  | [d1, d2, d3, d4, d5] => { results := [.lit (.bool true)], args := [d1, d2, d3, d4, d5] }
  | _ => none }
def fetchStoreLoadOrTrapRow : OpenClaim := { program := "ytchekfipdhoejaa", sum := "10baad07b69bf91205585d4cfac3d00d3b721ae1bc4b0cf073d8e241245555ac", func := "gaoler/gaolerlaw10.FetchStoreLoadOrTrap", spec := "fetchStoreLoadOrTrap", unfollowed := true, recurses := true, apart := false }
def FetchStoreLoadOrTrapSaid : Prop := fetchStoreLoadOrTrapRow.holds Try.pinned (OpenSpec.ofChange fetchStoreLoadOrTrapSpec)

/-- ITS FALSE NEIGHBOUR: 'it returns false'. Refute it at one input. -/
def fetchStoreLoadOrTrapWrong : ChangeSpec := { name := "fetchStoreLoadOrTrap", fn := fun _ => fun
  | [d1, d2, d3, d4, d5] => { results := [.lit (.bool false)], args := [d1, d2, d3, d4, d5] }
  | _ => none }
def FetchStoreLoadOrTrapWrongFalsely : Prop := fetchStoreLoadOrTrapRow.holds Try.pinned (OpenSpec.ofChange fetchStoreLoadOrTrapWrong)

/-- 'gaolerlaw10.FetchAddressByMode': WHATEVER THE INPUT: true; the input reads as it did. -/
def fetchAddressByModeSpec : ChangeSpec := { name := "fetchAddressByMode", fn := fun _ => fun
  | [d1, d2, d3, d4] => { results := [.lit (.bool true)], args := [d1, d2, d3, d4] }
  | _ => none }
def fetchAddressByModeRow : OpenClaim := { program := "ytchekfipdhoejaa", sum := "10baad07b69bf91205585d4cfac3d00d3b721ae1bc4b0cf073d8e241245555ac", func := "gaoler/gaolerlaw10.FetchAddressByMode", spec := "fetchAddressByMode", unfollowed := true, recurses := true, apart := false }
def FetchAddressByModeSaid : Prop := fetchAddressByModeRow.holds Try.pinned (OpenSpec.ofChange fetchAddressByModeSpec)

/-- ITS FALSE NEIGHBOUR: 'it returns false'. Refute it at one input. -/
def fetchAddressByModeWrong : ChangeSpec := { name := "fetchAddressByMode", fn := fun _ => fun
  | [d1, d2, d3, d4] => { results := [.lit (.bool false)], args := [d1, d2, d3, d4] }
  | _ => none }
def FetchAddressByModeWrongFalsely : Prop := fetchAddressByModeRow.holds Try.pinned (OpenSpec.ofChange fetchAddressByModeWrong)

/-- 'gaolerlaw10.FetchTimerPendingIsMonotone': WHATEVER THE INPUT: true; the input reads as it did. -/
def fetchTimerPendingIsMonotoneSpec : ChangeSpec := { name := "fetchTimerPendingIsMonotone", fn := fun _ => fun
  | [d1, d2] => { results := [.lit (.bool true)], args := [d1, d2] }
  | _ => none }
def fetchTimerPendingIsMonotoneRow : OpenClaim := { program := "ytchekfipdhoejaa", sum := "10baad07b69bf91205585d4cfac3d00d3b721ae1bc4b0cf073d8e241245555ac", func := "gaoler/gaolerlaw10.FetchTimerPendingIsMonotone", spec := "fetchTimerPendingIsMonotone", unfollowed := true, recurses := true, apart := false }
def FetchTimerPendingIsMonotoneSaid : Prop := fetchTimerPendingIsMonotoneRow.holds Try.pinned (OpenSpec.ofChange fetchTimerPendingIsMonotoneSpec)

/-- ITS FALSE NEIGHBOUR: 'it returns false'. Refute it at one input. -/
def fetchTimerPendingIsMonotoneWrong : ChangeSpec := { name := "fetchTimerPendingIsMonotone", fn := fun _ => fun
  | [d1, d2] => { results := [.lit (.bool false)], args := [d1, d2] }
  | _ => none }
def FetchTimerPendingIsMonotoneWrongFalsely : Prop := fetchTimerPendingIsMonotoneRow.holds Try.pinned (OpenSpec.ofChange fetchTimerPendingIsMonotoneWrong)

/-- 'gaolerlaw10.FetchWordIsFourBytes': WHATEVER THE INPUT: true; the input reads as it did. -/
def fetchWordIsFourBytesSpec : ChangeSpec := { name := "fetchWordIsFourBytes", fn := fun _ => fun
  | [d1, d2] => { results := [.lit (.bool true)], args := [d1, d2] }
  | _ => none }
def fetchWordIsFourBytesRow : OpenClaim := { program := "ytchekfipdhoejaa", sum := "10baad07b69bf91205585d4cfac3d00d3b721ae1bc4b0cf073d8e241245555ac", func := "gaoler/gaolerlaw10.FetchWordIsFourBytes", spec := "fetchWordIsFourBytes", unfollowed := true, recurses := true, apart := false }
def FetchWordIsFourBytesSaid : Prop := fetchWordIsFourBytesRow.holds Try.pinned (OpenSpec.ofChange fetchWordIsFourBytesSpec)

/-- ITS FALSE NEIGHBOUR: 'it returns false'. Refute it at one input. -/
def fetchWordIsFourBytesWrong : ChangeSpec := { name := "fetchWordIsFourBytes", fn := fun _ => fun
  | [d1, d2] => { results := [.lit (.bool false)], args := [d1, d2] }
  | _ => none }
def FetchWordIsFourBytesWrongFalsely : Prop := fetchWordIsFourBytesRow.holds Try.pinned (OpenSpec.ofChange fetchWordIsFourBytesWrong)

/-- 'gaolerlaw10.FetchIsLoadAtPc': WHATEVER THE INPUT: true; the input reads as it did. -/
def fetchIsLoadAtPcSpec : ChangeSpec := { name := "fetchIsLoadAtPc", fn := fun _ => fun
  | [d1, d2, d3] => { results := [.lit (.bool true)], args := [d1, d2, d3] }
  | _ => none }
def fetchIsLoadAtPcRow : OpenClaim := { program := "ytchekfipdhoejaa", sum := "10baad07b69bf91205585d4cfac3d00d3b721ae1bc4b0cf073d8e241245555ac", func := "gaoler/gaolerlaw10.FetchIsLoadAtPc", spec := "fetchIsLoadAtPc", unfollowed := true, recurses := true, apart := false }
def FetchIsLoadAtPcSaid : Prop := fetchIsLoadAtPcRow.holds Try.pinned (OpenSpec.ofChange fetchIsLoadAtPcSpec)

/-- ITS FALSE NEIGHBOUR: 'it returns false'. Refute it at one input. -/
def fetchIsLoadAtPcWrong : ChangeSpec := { name := "fetchIsLoadAtPc", fn := fun _ => fun
  | [d1, d2, d3] => { results := [.lit (.bool false)], args := [d1, d2, d3] }
  | _ => none }
def FetchIsLoadAtPcWrongFalsely : Prop := fetchIsLoadAtPcRow.holds Try.pinned (OpenSpec.ofChange fetchIsLoadAtPcWrong)

/- THE SECOND FORM. 'bulk': how many values and letters a reading holds, each counted each time it is reached (what is shared counts as often as it is met; a slice's spare places count too). A statement '..UptoSaid' is the law's where the arguments, and the package variables that the reading takes, are together of bulk at most 1048576: NARROWER than '..Said'. Prove '..Said' where nothing that the law and all that it calls make is longer than what came in: it says more and counts as full. Else prove '..UptoSaid'. A law counts once. -/
mutual
def uptoBulk {H : Type} : DataW H → Nat
  | .lit (.string bytes) => bytes.length + 1
  | .lit _ => 1
  | .nil => 1
  | .ptr d => uptoBulk d + 1
  | .slice elems spare => uptoBulkAll elems + uptoBulkAll spare + 1
  | .agg parts => uptoBulkAll parts + 1
  | .iface _ d => uptoBulk d + 1
  | .map entries => uptoBulkEntries entries + 1
  | .held _ => 1
def uptoBulkAll {H : Type} : List (DataW H) → Nat
  | [] => 0
  | d :: r => uptoBulk d + uptoBulkAll r
def uptoBulkEntries {H : Type} : List (Lit × DataW H) → Nat
  | [] => 0
  | x :: r => uptoBulkEntry x + uptoBulkEntries r
def uptoBulkEntry {H : Type} : Lit × DataW H → Nat
  | (.string bytes, d) => bytes.length + uptoBulk d + 1
  | (_, d) => uptoBulk d + 1
 end
def uptoSmall : (H : Type) → List (DataW H) → Bool := fun _ ds => decide (uptoBulkAll ds ≤ 1048576)
def OpenSpec.upto (s : _root_.Go.ChangeSpec) : _root_.Go.OpenSpec := { _root_.Go.OpenSpec.ofChange s with cond := some uptoSmall }

/-- 'gaolerlaw10.FetchMatchesReference', WHERE WHAT IT READS IS OF BULK AT MOST 1048576: true; the input reads as it did. -/
def fetchMatchesReferenceUptoRow : OpenClaim := { program := "ytchekfipdhoejaa", sum := "10baad07b69bf91205585d4cfac3d00d3b721ae1bc4b0cf073d8e241245555ac", func := "gaoler/gaolerlaw10.FetchMatchesReference", spec := "fetchMatchesReference", unfollowed := true, recurses := true, apart := false, narrowed := true }
def FetchMatchesReferenceUptoSaid : Prop := fetchMatchesReferenceUptoRow.holds Try.pinned (OpenSpec.upto fetchMatchesReferenceSpec)

/-- 'gaolerlaw10.FetchStoreLoadOrTrap', WHERE WHAT IT READS IS OF BULK AT MOST 1048576: true; the input reads as it did. -/
def fetchStoreLoadOrTrapUptoRow : OpenClaim := { program := "ytchekfipdhoejaa", sum := "10baad07b69bf91205585d4cfac3d00d3b721ae1bc4b0cf073d8e241245555ac", func := "gaoler/gaolerlaw10.FetchStoreLoadOrTrap", spec := "fetchStoreLoadOrTrap", unfollowed := true, recurses := true, apart := false, narrowed := true }
def FetchStoreLoadOrTrapUptoSaid : Prop := fetchStoreLoadOrTrapUptoRow.holds Try.pinned (OpenSpec.upto fetchStoreLoadOrTrapSpec)

/-- 'gaolerlaw10.FetchAddressByMode', WHERE WHAT IT READS IS OF BULK AT MOST 1048576: true; the input reads as it did. -/
def fetchAddressByModeUptoRow : OpenClaim := { program := "ytchekfipdhoejaa", sum := "10baad07b69bf91205585d4cfac3d00d3b721ae1bc4b0cf073d8e241245555ac", func := "gaoler/gaolerlaw10.FetchAddressByMode", spec := "fetchAddressByMode", unfollowed := true, recurses := true, apart := false, narrowed := true }
def FetchAddressByModeUptoSaid : Prop := fetchAddressByModeUptoRow.holds Try.pinned (OpenSpec.upto fetchAddressByModeSpec)

/-- 'gaolerlaw10.FetchTimerPendingIsMonotone', WHERE WHAT IT READS IS OF BULK AT MOST 1048576: true; the input reads as it did. -/
def fetchTimerPendingIsMonotoneUptoRow : OpenClaim := { program := "ytchekfipdhoejaa", sum := "10baad07b69bf91205585d4cfac3d00d3b721ae1bc4b0cf073d8e241245555ac", func := "gaoler/gaolerlaw10.FetchTimerPendingIsMonotone", spec := "fetchTimerPendingIsMonotone", unfollowed := true, recurses := true, apart := false, narrowed := true }
def FetchTimerPendingIsMonotoneUptoSaid : Prop := fetchTimerPendingIsMonotoneUptoRow.holds Try.pinned (OpenSpec.upto fetchTimerPendingIsMonotoneSpec)

/-- 'gaolerlaw10.FetchWordIsFourBytes', WHERE WHAT IT READS IS OF BULK AT MOST 1048576: true; the input reads as it did. -/
def fetchWordIsFourBytesUptoRow : OpenClaim := { program := "ytchekfipdhoejaa", sum := "10baad07b69bf91205585d4cfac3d00d3b721ae1bc4b0cf073d8e241245555ac", func := "gaoler/gaolerlaw10.FetchWordIsFourBytes", spec := "fetchWordIsFourBytes", unfollowed := true, recurses := true, apart := false, narrowed := true }
def FetchWordIsFourBytesUptoSaid : Prop := fetchWordIsFourBytesUptoRow.holds Try.pinned (OpenSpec.upto fetchWordIsFourBytesSpec)

/-- 'gaolerlaw10.FetchIsLoadAtPc', WHERE WHAT IT READS IS OF BULK AT MOST 1048576: true; the input reads as it did. -/
def fetchIsLoadAtPcUptoRow : OpenClaim := { program := "ytchekfipdhoejaa", sum := "10baad07b69bf91205585d4cfac3d00d3b721ae1bc4b0cf073d8e241245555ac", func := "gaoler/gaolerlaw10.FetchIsLoadAtPc", spec := "fetchIsLoadAtPc", unfollowed := true, recurses := true, apart := false, narrowed := true }
def FetchIsLoadAtPcUptoSaid : Prop := fetchIsLoadAtPcUptoRow.holds Try.pinned (OpenSpec.upto fetchIsLoadAtPcSpec)

end Rows
end Go.Proofs.Ytchekfipdhoejaa
