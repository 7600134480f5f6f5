/-
  The walk of AluShiftsCompose: it returns true at all words and bytes. Conditions: a word of 32 bits, bytes.
-/
import Derived.Test.YtfghjakhgdoanaaAluAwake
import Derived.Test.YtfghjakhgdoanaaAluLaws
namespace Go.Proofs.Ytfghjakhgdoanaa
open Go.ChangeShapes Go.WideShapes Go.ChangeAt Go.RowKit Go.Sort
set_option linter.unusedVariables false

set_option maxRecDepth 100000 in
set_option maxHeartbeats 1000000 in
theorem sc_in0 (x a b : Int) (ux : M.U x) (a0 : 0 ≤ a) (a1 : a < 256) (b0 : 0 ≤ b) (b1 : b < 256) (hs : a % 32 + b % 32 < 32) (hz : a % 32 = 0) (W : World) :
    Calls Try.prog 6 #[.int .u32 x, .int .u8 a, .int .u8 b] W fun e W' => e = .returned (.bool true) ∧ Dn W W' := by
  have D := Dn.refl W
  have i0 : 0 ≤ a % 32 := by omega
  have i1 : a % 32 < 32 := by omega
  have k0 : 0 ≤ b % 32 := by omega
  have k1 : b % 32 < 32 := by omega
  have ui : M.U (a % 32) := ⟨by omega, by omega⟩
  have uk : M.U (b % 32) := ⟨by omega, by omega⟩
  have C1 := Lib.hid (fun w => eval 7 x (a % 32) w ux ui)
  have C3 := Lib.hid (fun w => eval 8 x (a % 32) w ux ui)
  have us : M.U (a % 32 + b % 32) := ⟨by omega, by omega⟩
  have C2 := Lib.hid (fun w => eval_is 7 (M.ev 7 x (a % 32)) (b % 32) _ (ux.ev ui) uk (M.shl_sum x i0 i1 k0 k1 hs) w)
  have C4 := Lib.hid (fun w => eval_is 8 (M.ev 8 x (a % 32)) (b % 32) _ (ux.ev ui) uk (M.shr_sum x i0 i1 k0 k1 hs) w)
  have C5 := Lib.hid (fun w => eval 7 x (a % 32 + b % 32) w ux us)
  have C6 := Lib.hid (fun w => eval 8 x (a % 32 + b % 32) w ux us)
  have uh : M.U (M.ev 7 (M.ev 8 x (a % 32)) (a % 32)) := (ux.ev ui).ev ui
  have C7 := Lib.hid (fun w => eval 7 (M.ev 8 x (a % 32)) (a % 32) w (ux.ev ui) ui)
  have C8 := Lib.hid (fun w => eval 2 x (M.ev 7 (M.ev 8 x (a % 32)) (a % 32)) w ux uh)
  have C9 := Lib.hid (fun w => eval_is 4 _ _ x uh (ux.ev uh) (M.or_parts ux i0 i1) w)
  have C10 := Lib.hid (fun w => eval_is 3 _ _ 0 uh (ux.ev uh) (M.and_parts ux i0 i1) w)
  have e0 : M.ev 2 x (M.ev 7 (M.ev 8 x (a % 32)) (a % 32)) = 0 := M.low_zero ux hz
  rw [e0] at C8 C9 C10
  have hzb : (a % 32 == 0) = true := by simpa using hz
  clear hz
  generalize M.ev 7 (M.ev 8 x (a % 32)) (a % 32) = hg at C7 C8 C9 C10
  generalize M.ev 8 x (a % 32) = dn at C3 C4 C7
  generalize M.ev 7 x (a % 32) = up at C1 C2
  generalize M.ev 7 x (a % 32 + b % 32) = up2 at C2 C5
  generalize M.ev 8 x (a % 32 + b % 32) = dn2 at C4 C6
  clear ux ui uk uh us e0
  go_enter Try.func6, Try.ntmps6
  go_wp2_with ((first | (with_reducible refine (awake _).mono ?_) | (with_reducible refine (C1.out _).mono ?_) | (with_reducible refine (C2.out _).mono ?_) | (with_reducible refine (C3.out _).mono ?_) | (with_reducible refine (C4.out _).mono ?_) | (with_reducible refine (C5.out _).mono ?_) | (with_reducible refine (C6.out _).mono ?_) | (with_reducible refine (C7.out _).mono ?_) | (with_reducible refine (C8.out _).mono ?_) | (with_reducible refine (C9.out _).mono ?_) | (with_reducible refine (C10.out _).mono ?_)); rintro e w' ⟨rfl, d'⟩; replace D := D.trans d'; clear d')
  go_ret
  exact ⟨rfl, D⟩

set_option maxRecDepth 100000 in
set_option maxHeartbeats 1000000 in
theorem sc_in (x a b : Int) (ux : M.U x) (a0 : 0 ≤ a) (a1 : a < 256) (b0 : 0 ≤ b) (b1 : b < 256) (hs : a % 32 + b % 32 < 32) (hz : ¬ a % 32 = 0) (W : World) :
    Calls Try.prog 6 #[.int .u32 x, .int .u8 a, .int .u8 b] W fun e W' => e = .returned (.bool true) ∧ Dn W W' := by
  have D := Dn.refl W
  have i0 : 0 ≤ a % 32 := by omega
  have i1 : a % 32 < 32 := by omega
  have k0 : 0 ≤ b % 32 := by omega
  have k1 : b % 32 < 32 := by omega
  have ui : M.U (a % 32) := ⟨by omega, by omega⟩
  have uk : M.U (b % 32) := ⟨by omega, by omega⟩
  have C1 := Lib.hid (fun w => eval 7 x (a % 32) w ux ui)
  have C3 := Lib.hid (fun w => eval 8 x (a % 32) w ux ui)
  have us : M.U (a % 32 + b % 32) := ⟨by omega, by omega⟩
  have C2 := Lib.hid (fun w => eval_is 7 (M.ev 7 x (a % 32)) (b % 32) _ (ux.ev ui) uk (M.shl_sum x i0 i1 k0 k1 hs) w)
  have C4 := Lib.hid (fun w => eval_is 8 (M.ev 8 x (a % 32)) (b % 32) _ (ux.ev ui) uk (M.shr_sum x i0 i1 k0 k1 hs) w)
  have C5 := Lib.hid (fun w => eval 7 x (a % 32 + b % 32) w ux us)
  have C6 := Lib.hid (fun w => eval 8 x (a % 32 + b % 32) w ux us)
  have uh : M.U (M.ev 7 (M.ev 8 x (a % 32)) (a % 32)) := (ux.ev ui).ev ui
  have C7 := Lib.hid (fun w => eval 7 (M.ev 8 x (a % 32)) (a % 32) w (ux.ev ui) ui)
  have C8 := Lib.hid (fun w => eval 2 x (M.ev 7 (M.ev 8 x (a % 32)) (a % 32)) w ux uh)
  have C9 := Lib.hid (fun w => eval_is 4 _ _ x uh (ux.ev uh) (M.or_parts ux i0 i1) w)
  have C10 := Lib.hid (fun w => eval_is 3 _ _ 0 uh (ux.ev uh) (M.and_parts ux i0 i1) w)
  have C11 := Lib.hid (fun w => eval_is 8 _ (a % 32) 0 (ux.ev uh) ui (M.low_gone ux i0 i1) w)
  have hzb : (a % 32 == 0) = false := by simpa using hz
  generalize M.ev 2 x (M.ev 7 (M.ev 8 x (a % 32)) (a % 32)) = lo at C8 C9 C10 C11
  generalize M.ev 7 (M.ev 8 x (a % 32)) (a % 32) = hg at C7 C8 C9 C10
  generalize M.ev 8 x (a % 32) = dn at C3 C4 C7
  generalize M.ev 7 x (a % 32) = up at C1 C2
  generalize M.ev 7 x (a % 32 + b % 32) = up2 at C2 C5
  generalize M.ev 8 x (a % 32 + b % 32) = dn2 at C4 C6
  clear ux ui uk uh us
  go_enter Try.func6, Try.ntmps6
  go_wp2_with ((first | (with_reducible refine (awake _).mono ?_) | (with_reducible refine (C1.out _).mono ?_) | (with_reducible refine (C2.out _).mono ?_) | (with_reducible refine (C3.out _).mono ?_) | (with_reducible refine (C4.out _).mono ?_) | (with_reducible refine (C5.out _).mono ?_) | (with_reducible refine (C6.out _).mono ?_) | (with_reducible refine (C7.out _).mono ?_) | (with_reducible refine (C8.out _).mono ?_) | (with_reducible refine (C9.out _).mono ?_) | (with_reducible refine (C10.out _).mono ?_) | (with_reducible refine (C11.out _).mono ?_)); rintro e w' ⟨rfl, d'⟩; replace D := D.trans d'; clear d')
  go_ret
  exact ⟨rfl, D⟩

set_option maxRecDepth 100000 in
set_option maxHeartbeats 1000000 in
theorem sc_over (x a b : Int) (ux : M.U x) (a0 : 0 ≤ a) (a1 : a < 256) (b0 : 0 ≤ b) (b1 : b < 256) (hs : ¬ a % 32 + b % 32 < 32) (hz : ¬ a % 32 = 0) (W : World) :
    Calls Try.prog 6 #[.int .u32 x, .int .u8 a, .int .u8 b] W fun e W' => e = .returned (.bool true) ∧ Dn W W' := by
  have D := Dn.refl W
  have i0 : 0 ≤ a % 32 := by omega
  have i1 : a % 32 < 32 := by omega
  have k0 : 0 ≤ b % 32 := by omega
  have k1 : b % 32 < 32 := by omega
  have ui : M.U (a % 32) := ⟨by omega, by omega⟩
  have uk : M.U (b % 32) := ⟨by omega, by omega⟩
  have C1 := Lib.hid (fun w => eval 7 x (a % 32) w ux ui)
  have C3 := Lib.hid (fun w => eval 8 x (a % 32) w ux ui)
  have C2 := Lib.hid (fun w => eval_is 7 (M.ev 7 x (a % 32)) (b % 32) 0 (ux.ev ui) uk (M.shl_over x i0 i1 k0 k1 (by omega)) w)
  have C4 := Lib.hid (fun w => eval_is 8 (M.ev 8 x (a % 32)) (b % 32) 0 (ux.ev ui) uk (M.shr_over ux i0 i1 k0 k1 (by omega)) w)
  have uh : M.U (M.ev 7 (M.ev 8 x (a % 32)) (a % 32)) := (ux.ev ui).ev ui
  have C7 := Lib.hid (fun w => eval 7 (M.ev 8 x (a % 32)) (a % 32) w (ux.ev ui) ui)
  have C8 := Lib.hid (fun w => eval 2 x (M.ev 7 (M.ev 8 x (a % 32)) (a % 32)) w ux uh)
  have C9 := Lib.hid (fun w => eval_is 4 _ _ x uh (ux.ev uh) (M.or_parts ux i0 i1) w)
  have C10 := Lib.hid (fun w => eval_is 3 _ _ 0 uh (ux.ev uh) (M.and_parts ux i0 i1) w)
  have C11 := Lib.hid (fun w => eval_is 8 _ (a % 32) 0 (ux.ev uh) ui (M.low_gone ux i0 i1) w)
  have hzb : (a % 32 == 0) = false := by simpa using hz
  generalize M.ev 2 x (M.ev 7 (M.ev 8 x (a % 32)) (a % 32)) = lo at C8 C9 C10 C11
  generalize M.ev 7 (M.ev 8 x (a % 32)) (a % 32) = hg at C7 C8 C9 C10
  generalize M.ev 8 x (a % 32) = dn at C3 C4 C7
  generalize M.ev 7 x (a % 32) = up at C1 C2
  clear ux ui uk uh
  go_enter Try.func6, Try.ntmps6
  go_wp2_with ((first | (with_reducible refine (awake _).mono ?_) | (with_reducible refine (C1.out _).mono ?_) | (with_reducible refine (C2.out _).mono ?_) | (with_reducible refine (C3.out _).mono ?_) | (with_reducible refine (C4.out _).mono ?_) | (with_reducible refine (C7.out _).mono ?_) | (with_reducible refine (C8.out _).mono ?_) | (with_reducible refine (C9.out _).mono ?_) | (with_reducible refine (C10.out _).mono ?_) | (with_reducible refine (C11.out _).mono ?_)); rintro e w' ⟨rfl, d'⟩; replace D := D.trans d'; clear d')
  go_ret
  exact ⟨rfl, D⟩

theorem scWalk (x : Int) (x0 : 0 ≤ x) (x1 : x < 4294967296) (a : Int) (a0 : 0 ≤ a) (a1 : a < 256) (b : Int) (b0 : 0 ≤ b) (b1 : b < 256) (W : World) :
    Calls Try.prog 6 #[.int .u32 x, .int .u8 a, .int .u8 b] W fun e W' => e = .returned (.bool true) ∧ Dn W W' := by
  have ux : M.U x := ⟨x0, x1⟩
  by_cases hs : a % 32 + b % 32 < 32
  · by_cases hz : a % 32 = 0
    · exact sc_in0 x a b ux a0 a1 b0 b1 hs hz W
    · exact sc_in x a b ux a0 a1 b0 b1 hs hz W
  · exact sc_over x a b ux a0 a1 b0 b1 hs (by omega) W
end Go.Proofs.Ytfghjakhgdoanaa
