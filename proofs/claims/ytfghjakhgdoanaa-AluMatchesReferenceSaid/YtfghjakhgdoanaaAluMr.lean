/-
  The walk of AluMatchesReference: it returns true at all words. Conditions: words of 32 bits.
-/
import Derived.Test.YtfghjakhgdoanaaAluAwake
namespace Go.Proofs.Ytfghjakhgdoanaa
open Go.ChangeShapes Go.WideShapes Go.ChangeAt Go.RowKit Go.Sort
set_option linter.unusedVariables false

set_option maxRecDepth 100000 in
set_option maxHeartbeats 1000000 in
theorem mrWalk (op : Int) (o0 : -9223372036854775808 ≤ op) (o1 : op ≤ 9223372036854775807) (x : Int) (x0 : 0 ≤ x) (x1 : x < 4294967296) (y : Int) (y0 : 0 ≤ y) (y1 : y < 4294967296) (W : World) :
    Calls Try.prog 3 #[.int .i64 op, .int .u32 x, .int .u32 y] W fun e W' => e = .returned (.bool true) ∧ Dn W W' := by
  have ux : M.U x := ⟨x0, x1⟩
  have uy : M.U y := ⟨y0, y1⟩
  have D := Dn.refl W
  have C1 := Lib.hid (fun w => eval op x y w ux uy)
  have C2 := Lib.hid (fun w => refDo op x y w ux uy)
  have C3 := Lib.hid (fun w => branch op x y w ux uy)
  have C4 := Lib.hid (fun w => refTaken op x y w ux uy)
  have C5 := Lib.hid (fun w => less x y w ux uy)
  have C6 := Lib.hid (fun w => refTaken 17 x y w ux uy)
  have e6 : M.tk 17 x y = M.lt x y := by unfold M.tk; simp
  rw [e6] at C6
  generalize M.ev op x y = z at C1 C2
  generalize M.tk op x y = t at C3 C4
  generalize M.lt x y = l at C5 C6
  clear ux uy x0 x1 y0 y1 o0 o1 e6
  go_enter Try.func3, Try.ntmps3
  go_wp2_with ((first | (with_reducible refine (awake _).mono ?_) | (with_reducible refine (C1.out _).mono ?_) | (with_reducible refine (C2.out _).mono ?_) | (with_reducible refine (C3.out _).mono ?_) | (with_reducible refine (C4.out _).mono ?_) | (with_reducible refine (C5.out _).mono ?_) | (with_reducible refine (C6.out _).mono ?_)); rintro e w' ⟨rfl, d'⟩; replace D := D.trans d'; clear d')
  go_ret
  exact ⟨ret_bool (by simp), D⟩
end Go.Proofs.Ytfghjakhgdoanaa
