/-
  The law package's awake returns true. No conditions.
-/
import Derived.Test.YtfghjakhgdoanaaAluDo
namespace Go.Proofs.Ytfghjakhgdoanaa
open Go.ChangeShapes Go.WideShapes Go.ChangeAt Go.RowKit Go.Sort
set_option linter.unusedVariables false

theorem eval_is (op x y r : Int) (hx : M.U x) (hy : M.U y) (h : M.ev op x y = r) (w : World) : Calls Try.prog 8 #[.int .i64 op, .int .u32 x, .int .u32 y] w fun e w' => e = .returned (.int .u32 r) ∧ Dn w w' := by
  subst h; exact eval op x y w hx hy
theorem branch_is (op x y : Int) (r : Bool) (hx : M.U x) (hy : M.U y) (h : M.tk op x y = r) (w : World) : Calls Try.prog 10 #[.int .i64 op, .int .u32 x, .int .u32 y] w fun e w' => e = .returned (.bool r) ∧ Dn w w' := by
  subst h; exact branch op x y w hx hy
theorem less_is (x y : Int) (r : Bool) (hx : M.U x) (hy : M.U y) (h : M.lt x y = r) (w : World) : Calls Try.prog 12 #[.int .u32 x, .int .u32 y] w fun e w' => e = .returned (.bool r) ∧ Dn w w' := by
  subst h; exact less x y w hx hy

theorem aw1 (w : World) : Calls Try.prog 8 #[.int .i64 1, .int .u32 4294967295, .int .u32 2] w fun e w' => e = .returned (.int .u32 1) ∧ Dn w w' := eval_is 1 4294967295 2 1 ⟨by decide, by decide⟩ ⟨by decide, by decide⟩ (by decide) w
theorem aw2 (w : World) : Calls Try.prog 8 #[.int .i64 2, .int .u32 1, .int .u32 2] w fun e w' => e = .returned (.int .u32 4294967295) ∧ Dn w w' := eval_is 2 1 2 4294967295 ⟨by decide, by decide⟩ ⟨by decide, by decide⟩ (by decide) w
theorem aw3 (w : World) : Calls Try.prog 8 #[.int .i64 3, .int .u32 12, .int .u32 10] w fun e w' => e = .returned (.int .u32 8) ∧ Dn w w' := eval_is 3 12 10 8 ⟨by decide, by decide⟩ ⟨by decide, by decide⟩ (by decide) w
theorem aw4 (w : World) : Calls Try.prog 8 #[.int .i64 4, .int .u32 12, .int .u32 10] w fun e w' => e = .returned (.int .u32 14) ∧ Dn w w' := eval_is 4 12 10 14 ⟨by decide, by decide⟩ ⟨by decide, by decide⟩ (by decide) w
theorem aw5 (w : World) : Calls Try.prog 8 #[.int .i64 5, .int .u32 12, .int .u32 10] w fun e w' => e = .returned (.int .u32 6) ∧ Dn w w' := eval_is 5 12 10 6 ⟨by decide, by decide⟩ ⟨by decide, by decide⟩ (by decide) w
theorem aw6 (w : World) : Calls Try.prog 8 #[.int .i64 6, .int .u32 4294967295, .int .u32 0] w fun e w' => e = .returned (.int .u32 1) ∧ Dn w w' := eval_is 6 4294967295 0 1 ⟨by decide, by decide⟩ ⟨by decide, by decide⟩ (by decide) w
theorem aw7 (w : World) : Calls Try.prog 8 #[.int .i64 6, .int .u32 0, .int .u32 4294967295] w fun e w' => e = .returned (.int .u32 0) ∧ Dn w w' := eval_is 6 0 4294967295 0 ⟨by decide, by decide⟩ ⟨by decide, by decide⟩ (by decide) w
theorem aw8 (w : World) : Calls Try.prog 8 #[.int .i64 7, .int .u32 3, .int .u32 33] w fun e w' => e = .returned (.int .u32 6) ∧ Dn w w' := eval_is 7 3 33 6 ⟨by decide, by decide⟩ ⟨by decide, by decide⟩ (by decide) w
theorem aw9 (w : World) : Calls Try.prog 8 #[.int .i64 8, .int .u32 4294967295, .int .u32 31] w fun e w' => e = .returned (.int .u32 1) ∧ Dn w w' := eval_is 8 4294967295 31 1 ⟨by decide, by decide⟩ ⟨by decide, by decide⟩ (by decide) w
theorem aw10 (w : World) : Calls Try.prog 8 #[.int .i64 9, .int .u32 1, .int .u32 1] w fun e w' => e = .returned (.int .u32 0) ∧ Dn w w' := eval_is 9 1 1 0 ⟨by decide, by decide⟩ ⟨by decide, by decide⟩ (by decide) w
theorem aw11 (w : World) : Calls Try.prog 10 #[.int .i64 15, .int .u32 5, .int .u32 5] w fun e w' => e = .returned (.bool true) ∧ Dn w w' := branch_is 15 5 5 true ⟨by decide, by decide⟩ ⟨by decide, by decide⟩ (by decide) w
theorem aw12 (w : World) : Calls Try.prog 10 #[.int .i64 16, .int .u32 5, .int .u32 6] w fun e w' => e = .returned (.bool true) ∧ Dn w w' := branch_is 16 5 6 true ⟨by decide, by decide⟩ ⟨by decide, by decide⟩ (by decide) w
theorem aw13 (w : World) : Calls Try.prog 10 #[.int .i64 17, .int .u32 4294967295, .int .u32 0] w fun e w' => e = .returned (.bool true) ∧ Dn w w' := branch_is 17 4294967295 0 true ⟨by decide, by decide⟩ ⟨by decide, by decide⟩ (by decide) w
theorem aw14 (w : World) : Calls Try.prog 10 #[.int .i64 17, .int .u32 0, .int .u32 4294967295] w fun e w' => e = .returned (.bool false) ∧ Dn w w' := branch_is 17 0 4294967295 false ⟨by decide, by decide⟩ ⟨by decide, by decide⟩ (by decide) w
theorem aw15 (w : World) : Calls Try.prog 10 #[.int .i64 18, .int .u32 0, .int .u32 0] w fun e w' => e = .returned (.bool false) ∧ Dn w w' := branch_is 18 0 0 false ⟨by decide, by decide⟩ ⟨by decide, by decide⟩ (by decide) w
theorem aw16 (w : World) : Calls Try.prog 12 #[.int .u32 2147483648, .int .u32 0] w fun e w' => e = .returned (.bool true) ∧ Dn w w' := less_is 2147483648 0 true ⟨by decide, by decide⟩ ⟨by decide, by decide⟩ (by decide) w

set_option maxRecDepth 100000 in
set_option maxHeartbeats 2000000 in
theorem awake (W : World) : Calls Try.prog 7 #[] W fun e W' => e = .returned (.bool true) ∧ Dn W W' := by
  have D := Dn.refl W
  go_enter Try.func7, Try.ntmps7
  go_wp2_with ((first | (with_reducible refine (aw1 _).mono ?_) | (with_reducible refine (aw2 _).mono ?_) | (with_reducible refine (aw3 _).mono ?_) | (with_reducible refine (aw4 _).mono ?_) | (with_reducible refine (aw5 _).mono ?_) | (with_reducible refine (aw6 _).mono ?_) | (with_reducible refine (aw7 _).mono ?_) | (with_reducible refine (aw8 _).mono ?_) | (with_reducible refine (aw9 _).mono ?_) | (with_reducible refine (aw10 _).mono ?_) | (with_reducible refine (aw11 _).mono ?_) | (with_reducible refine (aw12 _).mono ?_) | (with_reducible refine (aw13 _).mono ?_) | (with_reducible refine (aw14 _).mono ?_) | (with_reducible refine (aw15 _).mono ?_) | (with_reducible refine (aw16 _).mono ?_)); rintro e w' ⟨rfl, d'⟩; replace D := D.trans d'; clear d')
  go_ret
  exact ⟨rfl, D⟩
end Go.Proofs.Ytfghjakhgdoanaa
