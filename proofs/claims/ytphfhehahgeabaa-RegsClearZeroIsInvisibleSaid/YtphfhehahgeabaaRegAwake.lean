/-
  The law package's awake returns true. No conditions.
-/
import Derived.Test.YtphfhehahgeabaaRegRefs
namespace Go.Proofs.Ytphfhehahgeabaa
open Go.ChangeShapes Go.WideShapes Go.ChangeAt Go.RowKit Go.Sort
set_option linter.unusedVariables false

/-- the register files of awake -/
def regR : List Int := (zeros 16).set 0 5
def regA : List Int := M.setreg regR 3 9
def regB : List Int := (zeros 16).set 3 9

theorem aw1 (w : World) : Calls Try.prog 8 #[.agg (ints .u32 regA), .int .i64 3] w fun e w' => e = .returned (.int .u32 9) ∧ Dn w w' := regGet regA 3 w rfl
theorem aw2 (w : World) : Calls Try.prog 8 #[.agg (ints .u32 regA), .int .i64 0] w fun e w' => e = .returned (.int .u32 0) ∧ Dn w w' := regGet regA 0 w rfl
theorem aw3 (w : World) : Calls Try.prog 8 #[.agg (ints .u32 regA), .int .i64 16] w fun e w' => e = .returned (.int .u32 0) ∧ Dn w w' := regGet regA 16 w rfl
theorem aw4 (w : World) : Calls Try.prog 8 #[.agg (ints .u32 regA), .int .i64 (-1)] w fun e w' => e = .returned (.int .u32 0) ∧ Dn w w' := regGet regA (-1) w rfl
theorem aw5 (w : World) : Calls Try.prog 10 #[.agg (ints .u32 regR), .int .i64 0, .int .u32 7] w fun e w' => e = .returned (.agg (ints .u32 regR)) ∧ Dn w w' := regSet regR 0 7 w rfl
theorem aw6 (w : World) : Calls Try.prog 10 #[.agg (ints .u32 regR), .int .i64 16, .int .u32 7] w fun e w' => e = .returned (.agg (ints .u32 regR)) ∧ Dn w w' := regSet regR 16 7 w rfl
theorem aw7 (w : World) : Calls Try.prog 12 #[.agg (ints .u32 regA)] w fun e w' => e = .returned (.agg (ints .u32 regB)) ∧ Dn w w' := regClear regA w rfl
theorem awQ (w : World) : (Op.equalIn 10000 23 (.agg (ints .u32 regB)) (.agg #[.int .u32 0, .int .u32 0, .int .u32 0, .int .u32 9, .int .u32 0, .int .u32 0, .int .u32 0, .int .u32 0, .int .u32 0, .int .u32 0, .int .u32 0, .int .u32 0, .int .u32 0, .int .u32 0, .int .u32 0, .int .u32 0])).run Try.prog w = .ok true w := eq16 (c := regB) (d := regB) rfl rfl w

set_option maxRecDepth 100000 in
set_option maxHeartbeats 1000000 in
theorem awake (W : World) : Calls Try.prog 7 #[] W fun e W' => e = .returned (.bool true) ∧ Dn W W' := by
  have e2 : (ints .u32 (zeros 16)).setIfInBounds 0 (.int .u32 5) = ints .u32 regR := ints_set _ _ _ _
  have kg := ints_get .u32 (zeros 16) 0 (by decide)
  go_enter Try.func7, Try.ntmps7
  go_wp2_with (first
    | ((with_reducible refine alloc16 (b := W.heap.size) rfl ?_ ?_); rfl)
    | ((with_reducible refine load16 (Row.new W 23 .u32 regR) rfl ?_ ?_ ?_); rfl; rfl))
  refine (regSet regR 3 9 _ rfl).mono ?_
  rintro e w1 ⟨rfl, d1⟩
  go_wp2_with (first
    | ((with_reducible refine alloc16 (b := w1.heap.size) rfl ?_ ?_); rfl)
    | ((with_reducible refine store16 (b := w1.heap.size) regA rfl zsize16 ?_ ?_ ?_ rfl ?_); rfl; rfl; rfl))
  have rr := ((Row.new W 23 .u32 regR).dn d1).dn ((Dn.refl w1).alloc (.cells (ints .u32 regA) 23))
  have ra := Row.new w1 23 .u32 regA
  have D := Lib.hid (Dn.alloc (((Dn.refl W).alloc _).trans d1) (.cells (ints .u32 regA) 23))
  clear d1 e2 kg
  generalize w1.alloc (.cells (ints .u32 regA) 23) = w2 at rr ra D ⊢
  simp only [Act.put, List.setIfInBounds_toArray, List.set_cons_succ, List.set_cons_zero]
  generalize W.heap.size = b1 at rr ⊢
  generalize w1.heap.size = b2 at ra ⊢
  have q1 := fun w => eq16 (c := regR) (d := regR) rfl rfl w
  simp only [beq_self_eq_true] at q1
  have q2 := awQ
  have C1 := Lib.hid (later_of w2 aw1)
  have C2 := Lib.hid (later_of w2 aw2)
  have C3 := Lib.hid (later_of w2 aw3)
  have C4 := Lib.hid (later_of w2 aw4)
  have C5 := Lib.hid (later_of w2 aw5)
  have C6 := Lib.hid (later_of w2 aw6)
  have C7 := Lib.hid (later_of w2 aw7)
  refine wp_region_quiet_below (by kernel_rfl) (by kernel_rfl) ?_
  repeat (first | go_big_quiet_skip | (go_big_quiet_want; first | ((with_reducible refine qop16 rr rfl ?_ ?_); rfl; simp only [Act.put, List.setIfInBounds_toArray, List.set_cons_succ, List.set_cons_zero]; go_big_quiet_on) | ((with_reducible refine qop16 ra rfl ?_ ?_); rfl; simp only [Act.put, List.setIfInBounds_toArray, List.set_cons_succ, List.set_cons_zero]; go_big_quiet_on) | (go_big_quiet_op; first | go_big_quiet_on | go_big_quiet_call (first | (with_reducible exact C1.out _ _) | (with_reducible exact C2.out _ _) | (with_reducible exact C3.out _ _) | (with_reducible exact C4.out _ _) | (with_reducible exact C5.out _ _) | (with_reducible exact C6.out _ _) | (with_reducible exact C7.out _ _)))))
  refine wpQuiet_nil ?_
  intro _ hw'
  obtain ⟨⟨dq, osq⟩, hw''⟩ := hw'
  subst hw''
  have dd := below_regrown w2 dq osq
  go_wp2
  go_ret
  exact ⟨rfl, D.out.trans dd⟩
end Go.Proofs.Ytphfhehahgeabaa
