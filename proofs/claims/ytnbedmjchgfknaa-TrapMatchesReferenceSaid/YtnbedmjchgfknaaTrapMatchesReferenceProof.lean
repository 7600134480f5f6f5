/-
  Proved: 'gaolerlaw09.TrapMatchesReference' returns true at every input, and each argument reads afterwards as it read before. Conditions: none beyond the row's own.
-/
import Derived.Test.YtnbedmjchgfknaaRows
import Derived.Test.YtnbedmjchgfknaaTrapMr
import Derived.Test.YtnbedmjchgfknaaPlainFrame
import Derived.Test.YtnbedmjchgfknaaWordsOpen
import Derived.Test.YtnbedmjchgfknaaCoreOpen
namespace Go.Proofs.Ytnbedmjchgfknaa.trapMatchesReference
open Go.ChangeShapes Go.WideShapes Go.ChangeAt Go.RowKit
set_option linter.unusedVariables false

theorem readable : ∀ t ∈ Try.f3.params.toList, Try.prog.readableRec t = true ∧ t < Try.prog.types.size := by
  rw [Try.params3]
  intro t ht
  have hall : ([26, 28].all fun t => Try.prog.readableRec t && decide (t < Try.prog.types.size)) = true := by kernel_rfl
  have h := List.all_eq_true.1 hall t ht
  simp only [Bool.and_eq_true, decide_eq_true_eq] at h
  exact h

theorem said (H : Type) (ds : List (DataW H)) (hl : ds.length = Try.f3.params.size) : (Rows.trapMatchesReferenceSpec.fn H ds).results = [.lit (.bool true)] ∧ (Rows.trapMatchesReferenceSpec.fn H ds).args = ds ∧ (Rows.trapMatchesReferenceSpec.fn H ds).vars = [] := by
  rw [Try.params3] at hl
  match ds, hl with
  | [d0, d1], _ => exact ⟨rfl, rfl, rfl⟩

set_option maxRecDepth 100000 in
theorem walk {H : Type} {enc : TypeId × Value → H} (W : World) (base : Nat) (args : Array Value) (ds : List (DataW H)) (ps : List MemPlace)
    (hval : ∀ (j : Nat) t v, Try.f3.params[j]? = some t → args[j]? = some v → Value.okWide Try.prog W .any base t v)
    (hA : DataW.TrodAll enc Try.prog W 0 (fun _ => true) true Try.f3.params.toList args.toList ds ps) :
    Calls Try.prog 3 args W fun e W' => e = .returned (.bool true) ∧ Dn W W' := by
  rw [Try.params3] at hA hval
  obtain ⟨v0, vs0, d0, ds0, p0, q0, hargs, rfl, rfl, h0, r0⟩ := trodAll_cons hA
  obtain ⟨v1, vs1, d1, ds1, p1, q1, rfl, rfl, rfl, h1, r1⟩ := trodAll_cons r0
  obtain ⟨rfl, rfl, rfl⟩ := trodAll_nil r1
  obtain rfl : args = #[v0, v1] := by cases args; simp_all
  obtain ⟨c0, rfl, o0⟩ := open29 (hval 0 26 v0 rfl rfl) h0
  obtain ⟨x1, y1, rfl, e1, g1⟩ := open_trap (hval 1 28 v1 rfl rfl) h1
  exact trapMrWalk c0 o0 x1 e1.1 e1.2 y1 g1.1 g1.2 W

set_option maxRecDepth 100000 in
theorem lifted (os : Os) (started : os.Started) (H : Type) (enc : TypeId × Value → H) :
    ReturnsInHanded {} Try.checked os 3 .any (Rows.trapMatchesReferenceSpec.pre6 enc Try.prog Try.f3 Rows.trapMatchesReferenceRow.domain false) (Rows.trapMatchesReferenceSpec.post enc Try.prog Try.f3 false true false false) :=
  returns_plain (C := Try.checked) rfl own started (by kernel_rfl) Try.func3 rfl readable (by kernel_rfl) said
    (ChangeSpec.witness6 (enc := enc) (C := Try.checked) false ⟨#[], #[.agg #[.int .u32 0, .int .u32 0, .int .u32 0, .int .u32 0, .int .u32 0, .int .u32 0, .int .u32 0, .int .u32 0, .int .u32 0, .int .u32 0, .int .u32 0, .int .u32 0, .int .u32 0, .int .u32 0, .int .u32 0, .int .u32 0, .int .u32 0, .int .u32 0, .int .u32 0, .int .u32 0, .int .u32 0, .int .u32 0, .int .u32 0, .int .u32 0, .int .u32 0, .int .u32 0, .int .u32 0, .int .u32 0, .int .u32 0], .agg #[.int .i64 0, .int .u32 0]], []⟩ 8 (by kernel_rfl) (by kernel_rfl) (by kernel_rfl) (by kernel_rfl)) walk

/-- THE STATEMENT -/
theorem proved : Rows.TrapMatchesReferenceSaid :=
  OpenClaim.holds_of_wide 3 Try.f3 rfl rfl rfl rfl rfl rfl rfl ⟨rfl, rfl, rfl, rfl, rfl⟩ rfl rfl rfl rfl rfl (by kernel_rfl) Try.func3 (by kernel_rfl)
    (of_decide_eq_true (by kernel_rfl)) (by unfold Func.isWrapper; first | (rw [if_pos (by decide +kernel)]; kernel_rfl) | (rw [if_neg (by decide +kernel)]; exact ⟨rfl, rfl⟩))
    (fun os started H enc _ => lifted os started H enc)
#print axioms proved
end Go.Proofs.Ytnbedmjchgfknaa.trapMatchesReference
