/-
  The walk of AluSignedOrder: it returns true at all words. Conditions: words of 32 bits.
-/
import Derived.Test.YtfghjakhgdoanaaAluAwake
import Derived.Test.YtfghjakhgdoanaaAluLaws
namespace Go.Proofs.Ytfghjakhgdoanaa
open Go.ChangeShapes Go.WideShapes Go.ChangeAt Go.RowKit Go.Sort
set_option linter.unusedVariables false

theorem tk15 (x y : Int) : M.tk 15 x y = (x == y) := by unfold M.tk; by_cases e : x = y <;> simp [e]
theorem tk16 (x y : Int) : M.tk 16 x y = !(x == y) := by unfold M.tk; by_cases e : x = y <;> simp [e]
theorem tk17 (x y : Int) : M.tk 17 x y = M.lt x y := by unfold M.tk; simp

set_option maxRecDepth 100000 in
set_option maxHeartbeats 1000000 in
theorem so_eqH (x z : Int) (ux : M.U x) (uz : M.U z) (hx : 2147483648 ≤ x) (W : World) :
    Calls Try.prog 5 #[.int .u32 x, .int .u32 x, .int .u32 z] W fun e W' => e = .returned (.bool true) ∧ Dn W W' := by
  have D := Dn.refl W
  have hp := M.lt_self x
  have C1 := Lib.hid (less_is x x false ux ux (M.lt_self x))
  have C5 := Lib.hid (eval_is 6 x x 0 ux ux (by rw [M.ev6, hp]; rfl))
  have C7 := Lib.hid (branch_is 17 x x false ux ux ((tk17 x x).trans hp))
  have C8 := Lib.hid (branch_is 15 x x true ux ux (by rw [tk15]; simp))
  have C9 := Lib.hid (branch_is 16 x x false ux ux (by rw [tk16]; simp))
  have C10 := Lib.hid (eval_is 2 x x 0 ux ux (M.sub_zero x))
  clear hp uz ux
  go_enter Try.func5, Try.ntmps5
  go_wp2_with ((first | (with_reducible refine (awake _).mono ?_) | (with_reducible refine (C1.out _).mono ?_) | (with_reducible refine (C5.out _).mono ?_) | (with_reducible refine (C7.out _).mono ?_) | (with_reducible refine (C8.out _).mono ?_) | (with_reducible refine (C9.out _).mono ?_) | (with_reducible refine (C10.out _).mono ?_)); rintro e w' ⟨rfl, d'⟩; replace D := D.trans d'; clear d')
  go_ret
  exact ⟨rfl, D⟩

set_option maxRecDepth 100000 in
set_option maxHeartbeats 1000000 in
theorem so_eqL (x z : Int) (ux : M.U x) (uz : M.U z) (hx : ¬ 2147483648 ≤ x) (W : World) :
    Calls Try.prog 5 #[.int .u32 x, .int .u32 x, .int .u32 z] W fun e W' => e = .returned (.bool true) ∧ Dn W W' := by
  have D := Dn.refl W
  have hp := M.lt_self x
  have C1 := Lib.hid (less_is x x false ux ux (M.lt_self x))
  have C5 := Lib.hid (eval_is 6 x x 0 ux ux (by rw [M.ev6, hp]; rfl))
  have C7 := Lib.hid (branch_is 17 x x false ux ux ((tk17 x x).trans hp))
  have C8 := Lib.hid (branch_is 15 x x true ux ux (by rw [tk15]; simp))
  have C9 := Lib.hid (branch_is 16 x x false ux ux (by rw [tk16]; simp))
  have C10 := Lib.hid (eval_is 2 x x 0 ux ux (M.sub_zero x))
  clear hp uz ux
  go_enter Try.func5, Try.ntmps5
  go_wp2_with ((first | (with_reducible refine (awake _).mono ?_) | (with_reducible refine (C1.out _).mono ?_) | (with_reducible refine (C5.out _).mono ?_) | (with_reducible refine (C7.out _).mono ?_) | (with_reducible refine (C8.out _).mono ?_) | (with_reducible refine (C9.out _).mono ?_) | (with_reducible refine (C10.out _).mono ?_)); rintro e w' ⟨rfl, d'⟩; replace D := D.trans d'; clear d')
  go_ret
  exact ⟨rfl, D⟩

set_option maxRecDepth 100000 in
set_option maxHeartbeats 1000000 in
theorem so_upLLT (x y z : Int) (ux : M.U x) (uy : M.U y) (uz : M.U z) (ho : x < y) (hx : ¬ 2147483648 ≤ x) (hy : ¬ 2147483648 ≤ y) (hp : M.lt x y = true) (hp' : M.lt y x = false) (hne : x ≠ y) (hq : M.lt y z = true) (W : World) :
    Calls Try.prog 5 #[.int .u32 x, .int .u32 y, .int .u32 z] W fun e W' => e = .returned (.bool true) ∧ Dn W W' := by
  have D := Dn.refl W
  have C1 := Lib.hid (less_is x x false ux ux (M.lt_self x))
  have C2 := Lib.hid (less_is x y true ux uy hp)
  have C3 := Lib.hid (less_is y x false uy ux hp')
  have C4 := Lib.hid (less_is y z true uy uz hq)
  have C6 := Lib.hid (less_is x z true ux uz (M.lt_trans hp hq))
  have C5 := Lib.hid (eval_is 6 x y 1 ux uy (by rw [M.ev6, hp]; rfl))
  have C7 := Lib.hid (branch_is 17 x y true ux uy ((tk17 x y).trans hp))
  have C8 := Lib.hid (branch_is 15 x y false ux uy ((tk15 x y).trans (by simpa using hne)))
  have C9 := Lib.hid (branch_is 16 x y true ux uy (by rw [tk16]; simpa using hne))
  have C10 := Lib.hid (fun w => eval 2 x y w ux uy)
  have hd : (M.ev 2 x y == 0) = false := by simpa using M.sub_other ux uy hne
  have h1 : (x != y) = true := by simpa using hne
  have h2 : (x == y) = false := by simpa using hne
  generalize M.ev 2 x y = d at C10 hd
  clear hp hp' hne ux uy uz hq
  go_enter Try.func5, Try.ntmps5
  go_wp2_with ((first | (with_reducible refine (awake _).mono ?_) | (with_reducible refine (C1.out _).mono ?_) | (with_reducible refine (C2.out _).mono ?_) | (with_reducible refine (C5.out _).mono ?_) | (with_reducible refine (C7.out _).mono ?_) | (with_reducible refine (C8.out _).mono ?_) | (with_reducible refine (C9.out _).mono ?_) | (with_reducible refine (C3.out _).mono ?_) | (with_reducible refine (C4.out _).mono ?_) | (with_reducible refine (C6.out _).mono ?_) | (with_reducible refine (C10.out _).mono ?_)); rintro e w' ⟨rfl, d'⟩; replace D := D.trans d'; clear d')
  go_ret
  exact ⟨rfl, D⟩

set_option maxRecDepth 100000 in
set_option maxHeartbeats 1000000 in
theorem so_upLLF (x y z : Int) (ux : M.U x) (uy : M.U y) (uz : M.U z) (ho : x < y) (hx : ¬ 2147483648 ≤ x) (hy : ¬ 2147483648 ≤ y) (hp : M.lt x y = true) (hp' : M.lt y x = false) (hne : x ≠ y) (hq : M.lt y z = false) (W : World) :
    Calls Try.prog 5 #[.int .u32 x, .int .u32 y, .int .u32 z] W fun e W' => e = .returned (.bool true) ∧ Dn W W' := by
  have D := Dn.refl W
  have C1 := Lib.hid (less_is x x false ux ux (M.lt_self x))
  have C2 := Lib.hid (less_is x y true ux uy hp)
  have C3 := Lib.hid (less_is y x false uy ux hp')
  have C4 := Lib.hid (less_is y z false uy uz hq)
  have C5 := Lib.hid (eval_is 6 x y 1 ux uy (by rw [M.ev6, hp]; rfl))
  have C7 := Lib.hid (branch_is 17 x y true ux uy ((tk17 x y).trans hp))
  have C8 := Lib.hid (branch_is 15 x y false ux uy ((tk15 x y).trans (by simpa using hne)))
  have C9 := Lib.hid (branch_is 16 x y true ux uy (by rw [tk16]; simpa using hne))
  have C10 := Lib.hid (fun w => eval 2 x y w ux uy)
  have hd : (M.ev 2 x y == 0) = false := by simpa using M.sub_other ux uy hne
  have h1 : (x != y) = true := by simpa using hne
  have h2 : (x == y) = false := by simpa using hne
  generalize M.ev 2 x y = d at C10 hd
  clear hp hp' hne ux uy uz hq
  go_enter Try.func5, Try.ntmps5
  go_wp2_with ((first | (with_reducible refine (awake _).mono ?_) | (with_reducible refine (C1.out _).mono ?_) | (with_reducible refine (C2.out _).mono ?_) | (with_reducible refine (C5.out _).mono ?_) | (with_reducible refine (C7.out _).mono ?_) | (with_reducible refine (C8.out _).mono ?_) | (with_reducible refine (C9.out _).mono ?_) | (with_reducible refine (C3.out _).mono ?_) | (with_reducible refine (C4.out _).mono ?_) | (with_reducible refine (C10.out _).mono ?_)); rintro e w' ⟨rfl, d'⟩; replace D := D.trans d'; clear d')
  go_ret
  exact ⟨rfl, D⟩

set_option maxRecDepth 100000 in
set_option maxHeartbeats 1000000 in
theorem so_upLH (x y z : Int) (ux : M.U x) (uy : M.U y) (uz : M.U z) (ho : x < y) (hx : ¬ 2147483648 ≤ x) (hy : 2147483648 ≤ y) (hp : M.lt x y = false) (hp' : M.lt y x = true) (hne : x ≠ y) (W : World) :
    Calls Try.prog 5 #[.int .u32 x, .int .u32 y, .int .u32 z] W fun e W' => e = .returned (.bool true) ∧ Dn W W' := by
  have D := Dn.refl W
  have C1 := Lib.hid (less_is x x false ux ux (M.lt_self x))
  have C2 := Lib.hid (less_is x y false ux uy hp)
  have C3 := Lib.hid (less_is y x true uy ux hp')
  have C5 := Lib.hid (eval_is 6 x y 0 ux uy (by rw [M.ev6, hp]; rfl))
  have C7 := Lib.hid (branch_is 17 x y false ux uy ((tk17 x y).trans hp))
  have C8 := Lib.hid (branch_is 15 x y false ux uy ((tk15 x y).trans (by simpa using hne)))
  have C9 := Lib.hid (branch_is 16 x y true ux uy (by rw [tk16]; simpa using hne))
  have C10 := Lib.hid (fun w => eval 2 x y w ux uy)
  have hd : (M.ev 2 x y == 0) = false := by simpa using M.sub_other ux uy hne
  have h1 : (x != y) = true := by simpa using hne
  have h2 : (x == y) = false := by simpa using hne
  generalize M.ev 2 x y = d at C10 hd
  clear hp hp' hne ux uy uz
  go_enter Try.func5, Try.ntmps5
  go_wp2_with ((first | (with_reducible refine (awake _).mono ?_) | (with_reducible refine (C1.out _).mono ?_) | (with_reducible refine (C2.out _).mono ?_) | (with_reducible refine (C5.out _).mono ?_) | (with_reducible refine (C7.out _).mono ?_) | (with_reducible refine (C8.out _).mono ?_) | (with_reducible refine (C9.out _).mono ?_) | (with_reducible refine (C3.out _).mono ?_) | (with_reducible refine (C10.out _).mono ?_)); rintro e w' ⟨rfl, d'⟩; replace D := D.trans d'; clear d')
  go_ret
  exact ⟨rfl, D⟩

set_option maxRecDepth 100000 in
set_option maxHeartbeats 1000000 in
theorem so_upHHT (x y z : Int) (ux : M.U x) (uy : M.U y) (uz : M.U z) (ho : x < y) (hx : 2147483648 ≤ x) (hy : 2147483648 ≤ y) (hp : M.lt x y = true) (hp' : M.lt y x = false) (hne : x ≠ y) (hq : M.lt y z = true) (W : World) :
    Calls Try.prog 5 #[.int .u32 x, .int .u32 y, .int .u32 z] W fun e W' => e = .returned (.bool true) ∧ Dn W W' := by
  have D := Dn.refl W
  have C1 := Lib.hid (less_is x x false ux ux (M.lt_self x))
  have C2 := Lib.hid (less_is x y true ux uy hp)
  have C3 := Lib.hid (less_is y x false uy ux hp')
  have C4 := Lib.hid (less_is y z true uy uz hq)
  have C6 := Lib.hid (less_is x z true ux uz (M.lt_trans hp hq))
  have C5 := Lib.hid (eval_is 6 x y 1 ux uy (by rw [M.ev6, hp]; rfl))
  have C7 := Lib.hid (branch_is 17 x y true ux uy ((tk17 x y).trans hp))
  have C8 := Lib.hid (branch_is 15 x y false ux uy ((tk15 x y).trans (by simpa using hne)))
  have C9 := Lib.hid (branch_is 16 x y true ux uy (by rw [tk16]; simpa using hne))
  have C10 := Lib.hid (fun w => eval 2 x y w ux uy)
  have hd : (M.ev 2 x y == 0) = false := by simpa using M.sub_other ux uy hne
  have h1 : (x != y) = true := by simpa using hne
  have h2 : (x == y) = false := by simpa using hne
  generalize M.ev 2 x y = d at C10 hd
  clear hp hp' hne ux uy uz hq
  go_enter Try.func5, Try.ntmps5
  go_wp2_with ((first | (with_reducible refine (awake _).mono ?_) | (with_reducible refine (C1.out _).mono ?_) | (with_reducible refine (C2.out _).mono ?_) | (with_reducible refine (C5.out _).mono ?_) | (with_reducible refine (C7.out _).mono ?_) | (with_reducible refine (C8.out _).mono ?_) | (with_reducible refine (C9.out _).mono ?_) | (with_reducible refine (C3.out _).mono ?_) | (with_reducible refine (C4.out _).mono ?_) | (with_reducible refine (C6.out _).mono ?_) | (with_reducible refine (C10.out _).mono ?_)); rintro e w' ⟨rfl, d'⟩; replace D := D.trans d'; clear d')
  go_ret
  exact ⟨rfl, D⟩

set_option maxRecDepth 100000 in
set_option maxHeartbeats 1000000 in
theorem so_upHHF (x y z : Int) (ux : M.U x) (uy : M.U y) (uz : M.U z) (ho : x < y) (hx : 2147483648 ≤ x) (hy : 2147483648 ≤ y) (hp : M.lt x y = true) (hp' : M.lt y x = false) (hne : x ≠ y) (hq : M.lt y z = false) (W : World) :
    Calls Try.prog 5 #[.int .u32 x, .int .u32 y, .int .u32 z] W fun e W' => e = .returned (.bool true) ∧ Dn W W' := by
  have D := Dn.refl W
  have C1 := Lib.hid (less_is x x false ux ux (M.lt_self x))
  have C2 := Lib.hid (less_is x y true ux uy hp)
  have C3 := Lib.hid (less_is y x false uy ux hp')
  have C4 := Lib.hid (less_is y z false uy uz hq)
  have C5 := Lib.hid (eval_is 6 x y 1 ux uy (by rw [M.ev6, hp]; rfl))
  have C7 := Lib.hid (branch_is 17 x y true ux uy ((tk17 x y).trans hp))
  have C8 := Lib.hid (branch_is 15 x y false ux uy ((tk15 x y).trans (by simpa using hne)))
  have C9 := Lib.hid (branch_is 16 x y true ux uy (by rw [tk16]; simpa using hne))
  have C10 := Lib.hid (fun w => eval 2 x y w ux uy)
  have hd : (M.ev 2 x y == 0) = false := by simpa using M.sub_other ux uy hne
  have h1 : (x != y) = true := by simpa using hne
  have h2 : (x == y) = false := by simpa using hne
  generalize M.ev 2 x y = d at C10 hd
  clear hp hp' hne ux uy uz hq
  go_enter Try.func5, Try.ntmps5
  go_wp2_with ((first | (with_reducible refine (awake _).mono ?_) | (with_reducible refine (C1.out _).mono ?_) | (with_reducible refine (C2.out _).mono ?_) | (with_reducible refine (C5.out _).mono ?_) | (with_reducible refine (C7.out _).mono ?_) | (with_reducible refine (C8.out _).mono ?_) | (with_reducible refine (C9.out _).mono ?_) | (with_reducible refine (C3.out _).mono ?_) | (with_reducible refine (C4.out _).mono ?_) | (with_reducible refine (C10.out _).mono ?_)); rintro e w' ⟨rfl, d'⟩; replace D := D.trans d'; clear d')
  go_ret
  exact ⟨rfl, D⟩

set_option maxRecDepth 100000 in
set_option maxHeartbeats 1000000 in
theorem so_dnLL (x y z : Int) (ux : M.U x) (uy : M.U y) (uz : M.U z) (ho : ¬ x < y) (hx : ¬ 2147483648 ≤ x) (hy : ¬ 2147483648 ≤ y) (hp : M.lt x y = false) (hp' : M.lt y x = true) (hne : x ≠ y) (W : World) :
    Calls Try.prog 5 #[.int .u32 x, .int .u32 y, .int .u32 z] W fun e W' => e = .returned (.bool true) ∧ Dn W W' := by
  have D := Dn.refl W
  have C1 := Lib.hid (less_is x x false ux ux (M.lt_self x))
  have C2 := Lib.hid (less_is x y false ux uy hp)
  have C3 := Lib.hid (less_is y x true uy ux hp')
  have C5 := Lib.hid (eval_is 6 x y 0 ux uy (by rw [M.ev6, hp]; rfl))
  have C7 := Lib.hid (branch_is 17 x y false ux uy ((tk17 x y).trans hp))
  have C8 := Lib.hid (branch_is 15 x y false ux uy ((tk15 x y).trans (by simpa using hne)))
  have C9 := Lib.hid (branch_is 16 x y true ux uy (by rw [tk16]; simpa using hne))
  have C10 := Lib.hid (fun w => eval 2 x y w ux uy)
  have hd : (M.ev 2 x y == 0) = false := by simpa using M.sub_other ux uy hne
  have h1 : (x != y) = true := by simpa using hne
  have h2 : (x == y) = false := by simpa using hne
  generalize M.ev 2 x y = d at C10 hd
  clear hp hp' hne ux uy uz
  go_enter Try.func5, Try.ntmps5
  go_wp2_with ((first | (with_reducible refine (awake _).mono ?_) | (with_reducible refine (C1.out _).mono ?_) | (with_reducible refine (C2.out _).mono ?_) | (with_reducible refine (C5.out _).mono ?_) | (with_reducible refine (C7.out _).mono ?_) | (with_reducible refine (C8.out _).mono ?_) | (with_reducible refine (C9.out _).mono ?_) | (with_reducible refine (C3.out _).mono ?_) | (with_reducible refine (C10.out _).mono ?_)); rintro e w' ⟨rfl, d'⟩; replace D := D.trans d'; clear d')
  go_ret
  exact ⟨rfl, D⟩

set_option maxRecDepth 100000 in
set_option maxHeartbeats 1000000 in
theorem so_dnHLT (x y z : Int) (ux : M.U x) (uy : M.U y) (uz : M.U z) (ho : ¬ x < y) (hx : 2147483648 ≤ x) (hy : ¬ 2147483648 ≤ y) (hp : M.lt x y = true) (hp' : M.lt y x = false) (hne : x ≠ y) (hq : M.lt y z = true) (W : World) :
    Calls Try.prog 5 #[.int .u32 x, .int .u32 y, .int .u32 z] W fun e W' => e = .returned (.bool true) ∧ Dn W W' := by
  have D := Dn.refl W
  have C1 := Lib.hid (less_is x x false ux ux (M.lt_self x))
  have C2 := Lib.hid (less_is x y true ux uy hp)
  have C3 := Lib.hid (less_is y x false uy ux hp')
  have C4 := Lib.hid (less_is y z true uy uz hq)
  have C6 := Lib.hid (less_is x z true ux uz (M.lt_trans hp hq))
  have C5 := Lib.hid (eval_is 6 x y 1 ux uy (by rw [M.ev6, hp]; rfl))
  have C7 := Lib.hid (branch_is 17 x y true ux uy ((tk17 x y).trans hp))
  have C8 := Lib.hid (branch_is 15 x y false ux uy ((tk15 x y).trans (by simpa using hne)))
  have C9 := Lib.hid (branch_is 16 x y true ux uy (by rw [tk16]; simpa using hne))
  have C10 := Lib.hid (fun w => eval 2 x y w ux uy)
  have hd : (M.ev 2 x y == 0) = false := by simpa using M.sub_other ux uy hne
  have h1 : (x != y) = true := by simpa using hne
  have h2 : (x == y) = false := by simpa using hne
  generalize M.ev 2 x y = d at C10 hd
  clear hp hp' hne ux uy uz hq
  go_enter Try.func5, Try.ntmps5
  go_wp2_with ((first | (with_reducible refine (awake _).mono ?_) | (with_reducible refine (C1.out _).mono ?_) | (with_reducible refine (C2.out _).mono ?_) | (with_reducible refine (C5.out _).mono ?_) | (with_reducible refine (C7.out _).mono ?_) | (with_reducible refine (C8.out _).mono ?_) | (with_reducible refine (C9.out _).mono ?_) | (with_reducible refine (C3.out _).mono ?_) | (with_reducible refine (C4.out _).mono ?_) | (with_reducible refine (C6.out _).mono ?_) | (with_reducible refine (C10.out _).mono ?_)); rintro e w' ⟨rfl, d'⟩; replace D := D.trans d'; clear d')
  go_ret
  exact ⟨rfl, D⟩

set_option maxRecDepth 100000 in
set_option maxHeartbeats 1000000 in
theorem so_dnHLF (x y z : Int) (ux : M.U x) (uy : M.U y) (uz : M.U z) (ho : ¬ x < y) (hx : 2147483648 ≤ x) (hy : ¬ 2147483648 ≤ y) (hp : M.lt x y = true) (hp' : M.lt y x = false) (hne : x ≠ y) (hq : M.lt y z = false) (W : World) :
    Calls Try.prog 5 #[.int .u32 x, .int .u32 y, .int .u32 z] W fun e W' => e = .returned (.bool true) ∧ Dn W W' := by
  have D := Dn.refl W
  have C1 := Lib.hid (less_is x x false ux ux (M.lt_self x))
  have C2 := Lib.hid (less_is x y true ux uy hp)
  have C3 := Lib.hid (less_is y x false uy ux hp')
  have C4 := Lib.hid (less_is y z false uy uz hq)
  have C5 := Lib.hid (eval_is 6 x y 1 ux uy (by rw [M.ev6, hp]; rfl))
  have C7 := Lib.hid (branch_is 17 x y true ux uy ((tk17 x y).trans hp))
  have C8 := Lib.hid (branch_is 15 x y false ux uy ((tk15 x y).trans (by simpa using hne)))
  have C9 := Lib.hid (branch_is 16 x y true ux uy (by rw [tk16]; simpa using hne))
  have C10 := Lib.hid (fun w => eval 2 x y w ux uy)
  have hd : (M.ev 2 x y == 0) = false := by simpa using M.sub_other ux uy hne
  have h1 : (x != y) = true := by simpa using hne
  have h2 : (x == y) = false := by simpa using hne
  generalize M.ev 2 x y = d at C10 hd
  clear hp hp' hne ux uy uz hq
  go_enter Try.func5, Try.ntmps5
  go_wp2_with ((first | (with_reducible refine (awake _).mono ?_) | (with_reducible refine (C1.out _).mono ?_) | (with_reducible refine (C2.out _).mono ?_) | (with_reducible refine (C5.out _).mono ?_) | (with_reducible refine (C7.out _).mono ?_) | (with_reducible refine (C8.out _).mono ?_) | (with_reducible refine (C9.out _).mono ?_) | (with_reducible refine (C3.out _).mono ?_) | (with_reducible refine (C4.out _).mono ?_) | (with_reducible refine (C10.out _).mono ?_)); rintro e w' ⟨rfl, d'⟩; replace D := D.trans d'; clear d')
  go_ret
  exact ⟨rfl, D⟩

set_option maxRecDepth 100000 in
set_option maxHeartbeats 1000000 in
theorem so_dnHH (x y z : Int) (ux : M.U x) (uy : M.U y) (uz : M.U z) (ho : ¬ x < y) (hx : 2147483648 ≤ x) (hy : 2147483648 ≤ y) (hp : M.lt x y = false) (hp' : M.lt y x = true) (hne : x ≠ y) (W : World) :
    Calls Try.prog 5 #[.int .u32 x, .int .u32 y, .int .u32 z] W fun e W' => e = .returned (.bool true) ∧ Dn W W' := by
  have D := Dn.refl W
  have C1 := Lib.hid (less_is x x false ux ux (M.lt_self x))
  have C2 := Lib.hid (less_is x y false ux uy hp)
  have C3 := Lib.hid (less_is y x true uy ux hp')
  have C5 := Lib.hid (eval_is 6 x y 0 ux uy (by rw [M.ev6, hp]; rfl))
  have C7 := Lib.hid (branch_is 17 x y false ux uy ((tk17 x y).trans hp))
  have C8 := Lib.hid (branch_is 15 x y false ux uy ((tk15 x y).trans (by simpa using hne)))
  have C9 := Lib.hid (branch_is 16 x y true ux uy (by rw [tk16]; simpa using hne))
  have C10 := Lib.hid (fun w => eval 2 x y w ux uy)
  have hd : (M.ev 2 x y == 0) = false := by simpa using M.sub_other ux uy hne
  have h1 : (x != y) = true := by simpa using hne
  have h2 : (x == y) = false := by simpa using hne
  generalize M.ev 2 x y = d at C10 hd
  clear hp hp' hne ux uy uz
  go_enter Try.func5, Try.ntmps5
  go_wp2_with ((first | (with_reducible refine (awake _).mono ?_) | (with_reducible refine (C1.out _).mono ?_) | (with_reducible refine (C2.out _).mono ?_) | (with_reducible refine (C5.out _).mono ?_) | (with_reducible refine (C7.out _).mono ?_) | (with_reducible refine (C8.out _).mono ?_) | (with_reducible refine (C9.out _).mono ?_) | (with_reducible refine (C3.out _).mono ?_) | (with_reducible refine (C10.out _).mono ?_)); rintro e w' ⟨rfl, d'⟩; replace D := D.trans d'; clear d')
  go_ret
  exact ⟨rfl, D⟩

theorem soWalk (x : Int) (x0 : 0 ≤ x) (x1 : x < 4294967296) (y : Int) (y0 : 0 ≤ y) (y1 : y < 4294967296) (z : Int) (z0 : 0 ≤ z) (z1 : z < 4294967296) (W : World) :
    Calls Try.prog 5 #[.int .u32 x, .int .u32 y, .int .u32 z] W fun e W' => e = .returned (.bool true) ∧ Dn W W' := by
  have ux : M.U x := ⟨x0, x1⟩
  have uy : M.U y := ⟨y0, y1⟩
  have uz : M.U z := ⟨z0, z1⟩
  by_cases e : x = y
  · subst e
    by_cases hx : 2147483648 ≤ x
    · exact so_eqH x z ux uz hx W
    · exact so_eqL x z ux uz hx W
  by_cases ho : x < y
  · by_cases hx : 2147483648 ≤ x
    · have hy : 2147483648 ≤ y := by omega
      obtain ⟨p1, p2⟩ := M.lt_less ho (.inl ⟨hx, hy⟩)
      cases hq : M.lt y z
      · exact so_upHHF x y z ux uy uz ho hx hy p1 p2 e hq W
      · exact so_upHHT x y z ux uy uz ho hx hy p1 p2 e hq W
    · by_cases hy : 2147483648 ≤ y
      · obtain ⟨p1, p2⟩ := M.lt_high uy ux hy hx
        exact so_upLH x y z ux uy uz ho hx hy p2 p1 e W
      · obtain ⟨p1, p2⟩ := M.lt_less ho (.inr ⟨hx, hy⟩)
        cases hq : M.lt y z
        · exact so_upLLF x y z ux uy uz ho hx hy p1 p2 e hq W
        · exact so_upLLT x y z ux uy uz ho hx hy p1 p2 e hq W
  · have ho2 : y < x := by omega
    by_cases hx : 2147483648 ≤ x
    · by_cases hy : 2147483648 ≤ y
      · obtain ⟨p1, p2⟩ := M.lt_less ho2 (.inl ⟨hy, hx⟩)
        exact so_dnHH x y z ux uy uz ho hx hy p2 p1 e W
      · obtain ⟨p1, p2⟩ := M.lt_high ux uy hx hy
        cases hq : M.lt y z
        · exact so_dnHLF x y z ux uy uz ho hx hy p1 p2 e hq W
        · exact so_dnHLT x y z ux uy uz ho hx hy p1 p2 e hq W
    · have hy : ¬ 2147483648 ≤ y := by omega
      obtain ⟨p1, p2⟩ := M.lt_less ho2 (.inr ⟨hy, hx⟩)
      exact so_dnLL x y z ux uy uz ho hx hy p2 p1 e W
end Go.Proofs.Ytfghjakhgdoanaa
