/-
  The law AsmEveryWordHasOneLine of package gaolerlaw03 returns true at every input, and each argument reads as it did; conditions: the listed package variables hold what the program's text lays there (the card ties them to it).
-/
import Derived.Test.YtokhipjpppfkgaaGreatDoorCards
import Derived.Test.YtokhipjpppfkgaaGreatDoorTie
import Derived.Test.YtokhipjpppfkgaaGreatDoorAsmFrame
import Derived.Test.YtokhipjpppfkgaaGreatDoorAsmEw
namespace Go.Proofs.YtokhipjpppfkgaaGreatDoor.asmEveryWordHasOneLine
open Go.ChangeShapes Go.WideShapes Go.ChangeAt Go.RowKit
set_option linter.unusedVariables false

theorem readable : ∀ t ∈ Tryz.f7.params.toList, Tryz.prog.readableRec t = true ∧ t < Tryz.prog.types.size := by
  rw [Tryz.params7]
  intro t ht
  have hall : ([45].all fun t => Tryz.prog.readableRec t && decide (t < Tryz.prog.types.size)) = true := by kernel_rfl
  have h := List.all_eq_true.1 hall t ht
  simp only [Bool.and_eq_true, decide_eq_true_eq] at h
  exact h

theorem said (H : Type) (ds : List (DataW H)) (hl : ds.length = Tryz.f7.params.size) : (Rows.asmEveryWordHasOneLineSpec.fn H ds).results = [.lit (.bool true)] ∧ (Rows.asmEveryWordHasOneLineSpec.fn H ds).args = ds ∧ (Rows.asmEveryWordHasOneLineSpec.fn H ds).vars = [] := by
  rw [Tryz.params7] at hl
  match ds, hl with
  | [d0], _ => exact ⟨rfl, rfl, rfl⟩

set_option maxRecDepth 100000 in
theorem walk {H : Type} {enc : TypeId × Value → H} (W : World) (base : Nat) (args : Array Value) (ds : List (DataW H)) (ps : List MemPlace) (E : Env W)
    (hval : ∀ (j : Nat) t v, Tryz.f7.params[j]? = some t → args[j]? = some v → Value.okWide Tryz.prog W .any base t v)
    (hA : DataW.TrodAll enc Tryz.prog W 0 (fun _ => true) true Tryz.f7.params.toList args.toList ds ps) :
    Calls Tryz.prog 7 args W fun e W' => e = .returned (.bool true) ∧ Dn W W' := by
  rw [Tryz.params7] at hA hval
  obtain ⟨v0, vs0, d0, ds0, p0, q0, hargs, rfl, rfl, h0, r0⟩ := trodAll_cons hA
  obtain ⟨rfl, rfl, rfl⟩ := trodAll_nil r0
  obtain rfl : args = #[v0] := by cases args; simp_all
  obtain ⟨x0, rfl, rfl, rfl, w0⟩ := open_int Tryz.underlying45 (hval 0 45 v0 rfl rfl) h0
  have bd0 := bounds_u32 w0
  exact ewWalk x0 (by omega) (by omega) W E

set_option maxRecDepth 100000 in
theorem lifted (os : Os) (started : os.Started) (H : Type) (enc : TypeId × Value → H) :
    ReturnsInHanded {} Tryz.checked os 7 .any (fun w args => (Rows.asmEveryWordHasOneLineSpec.pre enc Tryz.prog Tryz.f7 [] false w args ∧ laidMetH Tryz.prog laidL w) ∧ sizedMet enc Tryz.prog Tryz.f7 (OpenSpec.ofChange Rows.asmEveryWordHasOneLineSpec) false w args)
      (Rows.asmEveryWordHasOneLineSpec.post enc Tryz.prog Tryz.f7 false true false false) :=
  returns_of_walk (C := Tryz.checked) rfl own started (by kernel_rfl) Tryz.func7 rfl readable (by kernel_rfl) said
    (ChangeSpec.witness_shaped (enc := enc) (C := Tryz.checked) (os := os) (X := fun w _ => laidMetH Tryz.prog laidL w) false (World.laidAll Tryz.prog os laidL) #[.int .u32 0] 8 (World.laidAll_os _ _ _)
      (start_shaped os _) (by kernel_rfl) (by kernel_rfl) (by kernel_rfl) (start_met os _)) walk

theorem over : Rows.AsmEveryWordHasOneLineSaid :=
  OpenClaim.holds_of_wide 7 Tryz.f7 rfl rfl rfl rfl rfl rfl rfl ⟨rfl, rfl, rfl, rfl, rfl⟩ rfl rfl rfl rfl rfl (by kernel_rfl) Tryz.func7 (by kernel_rfl)
    (of_decide_eq_true (by kernel_rfl)) (by unfold Func.isWrapper; first | (rw [if_pos (by decide +kernel)]; kernel_rfl) | (rw [if_neg (by decide +kernel)]; exact ⟨rfl, rfl⟩))
    (fun os started H enc _ => lifted os started H enc)

/-- THE STATEMENT -/
theorem proved : Rows.AsmEveryWordHasOneLineCardSaid :=
  Claim7.holds_tied_plain_at .later [] [.data, .data, .data, .data, .data, .data, .sentinel, .sentinel, .data, .pinned] true (true, "6b4c985ef5ffeceff2934c3e60ecb0fe3e3e40257734e07cfa4038ce10039913") true
    over (fun _ h => by cases h) (by kernel_rfl) (fun _ h => by cases h) asmEveryWordHasOneLine_row_tie rfl ⟨rfl, rfl⟩ (by kernel_rfl) rfl
    (fun f fn hf hfn => by
      obtain rfl : f = 7 := Option.some.inj ((show Tryz.prog.funcNamed "gaoler/gaolerlaw03.AsmEveryWordHasOneLine" = some 7 by kernel_rfl).symm.trans hf) |>.symm
      obtain rfl : fn = Tryz.f7 := (Option.some.inj (Tryz.func7.symm.trans hfn)).symm
      exact ⟨by kernel_rfl, fun j t ht => by
        rw [Tryz.params7] at ht
        have hm : t ∈ [45] := by simpa using Array.mem_of_getElem? ht
        have hall : ([45].all fun u => !Tryz.prog.wantsStandIn u) = true := by kernel_rfl
        exact (show Tryz.prog.wantsStandIn t = false by simpa using List.all_eq_true.1 hall t hm)⟩)
    (by kernel_rfl)
#print axioms proved
end Go.Proofs.YtokhipjpppfkgaaGreatDoor.asmEveryWordHasOneLine
