/-
  Proved: 'gaolerlaw09.TrapNestedTrap' returns true at every input, and each argument reads afterwards as it read before. Conditions: none beyond the row's own.
-/
import Derived.Test.YtnbedmjchgfknaaRows
import Derived.Test.YtnbedmjchgfknaaTrapNt
import Derived.Test.YtnbedmjchgfknaaPlainFrame
import Derived.Test.YtnbedmjchgfknaaWordsOpen
import Derived.Test.YtnbedmjchgfknaaCoreOpen
namespace Go.Proofs.Ytnbedmjchgfknaa.trapNestedTrap
open Go.ChangeShapes Go.WideShapes Go.ChangeAt Go.RowKit
set_option linter.unusedVariables false

theorem readable : ∀ t ∈ Try.f5.params.toList, Try.prog.readableRec t = true ∧ t < Try.prog.types.size := by
  rw [Try.params5]
  intro t ht
  have hall : ([26, 28, 28].all fun t => Try.prog.readableRec t && decide (t < Try.prog.types.size)) = true := by kernel_rfl
  have h := List.all_eq_true.1 hall t ht
  simp only [Bool.and_eq_true, decide_eq_true_eq] at h
  exact h

theorem said (H : Type) (ds : List (DataW H)) (hl : ds.length = Try.f5.params.size) : (Rows.trapNestedTrapSpec.fn H ds).results = [.lit (.bool true)] ∧ (Rows.trapNestedTrapSpec.fn H ds).args = ds ∧ (Rows.trapNestedTrapSpec.fn H ds).vars = [] := by
  rw [Try.params5] at hl
  match ds, hl with
  | [d0, d1, d2], _ => exact ⟨rfl, rfl, rfl⟩

set_option maxRecDepth 100000 in
theorem walk {H : Type} {enc : TypeId × Value → H} (W : World) (base : Nat) (args : Array Value) (ds : List (DataW H)) (ps : List MemPlace)
    (hval : ∀ (j : Nat) t v, Try.f5.params[j]? = some t → args[j]? = some v → Value.okWide Try.prog W .any base t v)
    (hA : DataW.TrodAll enc Try.prog W 0 (fun _ => true) true Try.f5.params.toList args.toList ds ps) :
    Calls Try.prog 5 args W fun e W' => e = .returned (.bool true) ∧ Dn W W' := by
  rw [Try.params5] at hA hval
  obtain ⟨v0, vs0, d0, ds0, p0, q0, hargs, rfl, rfl, h0, r0⟩ := trodAll_cons hA
  obtain ⟨v1, vs1, d1, ds1, p1, q1, rfl, rfl, rfl, h1, r1⟩ := trodAll_cons r0
  obtain ⟨v2, vs2, d2, ds2, p2, q2, rfl, rfl, rfl, h2, r2⟩ := trodAll_cons r1
  obtain ⟨rfl, rfl, rfl⟩ := trodAll_nil r2
  obtain rfl : args = #[v0, v1, v2] := by cases args; simp_all
  obtain ⟨c0, rfl, o0⟩ := open29 (hval 0 26 v0 rfl rfl) h0
  obtain ⟨x1, y1, rfl, e1, g1⟩ := open_trap (hval 1 28 v1 rfl rfl) h1
  obtain ⟨x2, y2, rfl, e2, g2⟩ := open_trap (hval 2 28 v2 rfl rfl) h2
  exact trapNtWalk c0 o0 x1 e1.1 e1.2 y1 g1.1 g1.2 x2 e2.1 e2.2 y2 g2.1 g2.2 W

set_option maxRecDepth 100000 in
theorem lifted (os : Os) (started : os.Started) (H : Type) (enc : TypeId × Value → H) :
    ReturnsInHanded {} Try.checked os 5 .any (Rows.trapNestedTrapSpec.pre6 enc Try.prog Try.f5 Rows.trapNestedTrapRow.domain false) (Rows.trapNestedTrapSpec.post enc Try.prog Try.f5 false true false false) :=
  returns_plain (C := Try.checked) rfl own started (by kernel_rfl) Try.func5 rfl readable (by kernel_rfl) said
    (ChangeSpec.witness6 (enc := enc) (C := Try.checked) false ⟨#[], #[.agg #[.int .u32 0, .int .u32 0, .int .u32 0, .int .u32 0, .int .u32 0, .int .u32 0, .int .u32 0, .int .u32 0, .int .u32 0, .int .u32 0, .int .u32 0, .int .u32 0, .int .u32 0, .int .u32 0, .int .u32 0, .int .u32 0, .int .u32 0, .int .u32 0, .int .u32 0, .int .u32 0, .int .u32 0, .int .u32 0, .int .u32 0, .int .u32 0, .int .u32 0, .int .u32 0, .int .u32 0, .int .u32 0, .int .u32 0], .agg #[.int .i64 0, .int .u32 0], .agg #[.int .i64 0, .int .u32 0]], []⟩ 8 (by kernel_rfl) (by kernel_rfl) (by kernel_rfl) (by kernel_rfl)) walk

/-- THE STATEMENT -/
theorem proved : Rows.TrapNestedTrapSaid :=
  OpenClaim.holds_of_wide 5 Try.f5 rfl rfl rfl rfl rfl rfl rfl ⟨rfl, rfl, rfl, rfl, rfl⟩ rfl rfl rfl rfl rfl (by kernel_rfl) Try.func5 (by kernel_rfl)
    (of_decide_eq_true (by kernel_rfl)) (by unfold Func.isWrapper; first | (rw [if_pos (by decide +kernel)]; kernel_rfl) | (rw [if_neg (by decide +kernel)]; exact ⟨rfl, rfl⟩))
    (fun os started H enc _ => lifted os started H enc)
#print axioms proved
end Go.Proofs.Ytnbedmjchgfknaa.trapNestedTrap
