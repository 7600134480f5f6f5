/-
  The walk of AluArithmeticLaws: it returns true at all words. Conditions: words of 32 bits.
-/
import Derived.Test.YtfghjakhgdoanaaAluAwake
import Derived.Test.YtfghjakhgdoanaaAluLaws
namespace Go.Proofs.Ytfghjakhgdoanaa
open Go.ChangeShapes Go.WideShapes Go.ChangeAt Go.RowKit Go.Sort
set_option linter.unusedVariables false

def AlRel (W : World) (i : Value) (w : World) : Prop := ∃ k : Nat, k ≤ 4 ∧ i = .int .i64 k ∧ Dn W w

set_option maxRecDepth 100000 in
set_option maxHeartbeats 2000000 in
theorem alWalk (x : Int) (x0 : 0 ≤ x) (x1 : x < 4294967296) (y : Int) (y0 : 0 ≤ y) (y1 : y < 4294967296) (z : Int) (z0 : 0 ≤ z) (z1 : z < 4294967296) (W : World) :
    Calls Try.prog 4 #[.int .u32 x, .int .u32 y, .int .u32 z] W fun e W' => e = .returned (.bool true) ∧ Dn W W' := by
  have ux : M.U x := ⟨x0, x1⟩
  have uy : M.U y := ⟨y0, y1⟩
  have uz : M.U z := ⟨z0, z1⟩
  have D := Dn.refl W
  have A1 := Lib.hid (fun w => eval 1 x y w ux uy)
  have A2 := Lib.hid (fun w => eval_is 2 _ y x (ux.ev uy) uy (M.sub_add ux uy) w)
  have A3 := Lib.hid (fun w => eval 5 x y w ux uy)
  have A4 := Lib.hid (fun w => eval_is 5 _ y x (ux.ev uy) uy (M.xor_xor y ux) w)
  have A5 := Lib.hid (fun w => eval 3 x y w ux uy)
  have A6 := Lib.hid (fun w => eval 4 x y w ux uy)
  have A7 := Lib.hid (fun w => eval_is 1 _ _ _ (ux.ev uy) (ux.ev uy) (M.add_and_or ux uy) w)
  have A8 := Lib.hid (fun w => eval_is 2 _ _ _ (ux.ev uy) (ux.ev uy) (M.sub_or_and ux uy) w)
  have UX := Lib.hid ux
  have UY := Lib.hid uy
  have UZ := Lib.hid uz
  clear ux uy uz
  generalize M.ev 1 x y = s at A1 A2 A7
  generalize M.ev 5 x y = t at A3 A4 A8
  generalize M.ev 3 x y = n at A5 A7 A8
  generalize M.ev 4 x y = o at A6 A7 A8
  go_enter Try.func4, Try.ntmps4
  go_wp2_with ((first | (with_reducible refine (awake _).mono ?_) | (with_reducible refine (A1.out _).mono ?_) | (with_reducible refine (A2.out _).mono ?_) | (with_reducible refine (A3.out _).mono ?_) | (with_reducible refine (A4.out _).mono ?_) | (with_reducible refine (A5.out _).mono ?_) | (with_reducible refine (A6.out _).mono ?_) | (with_reducible refine (A7.out _).mono ?_) | (with_reducible refine (A8.out _).mono ?_)); rintro e w' ⟨rfl, d'⟩; replace D := D.trans d'; clear d')
  clear A1 A2 A3 A4 A5 A6 A7 A8
  go_loopw [7] (fun i w => AlRel W i w) (fun i _ => 4 - (intOf i).toNat)
  case atStart => exact ⟨0, by omega, rfl, D⟩
  case round =>
    clear D
    obtain ⟨k, hk, rfl, D⟩ := hrel
    by_cases hlt : k < 4
    · have hc : k = 0 ∨ k = 1 ∨ k = 2 ∨ k = 3 := by omega
      clear hlt hk
      rcases hc with rfl | rfl | rfl | rfl
      · have hcm : M.Comm 1 := .inl rfl
        have B1 := Lib.hid (fun w => eval 1 x y w UX.out UY.out)
        have B2 := Lib.hid (fun w => eval_is 1 y x _ UY.out UX.out (M.comm hcm y x) w)
        have B3 := Lib.hid (fun w => eval 1 _ z w (UX.out.ev (op := 1) UY.out) UZ.out)
        have B4 := Lib.hid (fun w => eval 1 y z w UY.out UZ.out)
        have B5 := Lib.hid (fun w => eval_is 1 x _ _ UX.out (UY.out.ev UZ.out) (M.assoc hcm x y z).symm w)
        generalize M.ev 1 (M.ev 1 x y) z = g at B3 B5
        generalize M.ev 1 x y = p at B1 B2 B3
        generalize M.ev 1 y z = q at B4 B5
        clear hcm
        go_wp2_with ((first | (with_reducible refine (B1.out _).mono ?_) | (with_reducible refine (B2.out _).mono ?_) | (with_reducible refine (B3.out _).mono ?_) | (with_reducible refine (B4.out _).mono ?_) | (with_reducible refine (B5.out _).mono ?_)); rintro e w' ⟨rfl, d'⟩; (first | replace D := D.trans d' | replace D := (D.alloc _).trans d'); clear d')
        go_roundw
        case rel => exact ⟨1, by decide, by first | rfl | go_num, D⟩
        case measure => simp [intOf]
      · have hcm : M.Comm 3 := .inr (.inl rfl)
        have B1 := Lib.hid (fun w => eval 3 x y w UX.out UY.out)
        have B2 := Lib.hid (fun w => eval_is 3 y x _ UY.out UX.out (M.comm hcm y x) w)
        have B3 := Lib.hid (fun w => eval 3 _ z w (UX.out.ev (op := 3) UY.out) UZ.out)
        have B4 := Lib.hid (fun w => eval 3 y z w UY.out UZ.out)
        have B5 := Lib.hid (fun w => eval_is 3 x _ _ UX.out (UY.out.ev UZ.out) (M.assoc hcm x y z).symm w)
        generalize M.ev 3 (M.ev 3 x y) z = g at B3 B5
        generalize M.ev 3 x y = p at B1 B2 B3
        generalize M.ev 3 y z = q at B4 B5
        clear hcm
        go_wp2_with ((first | (with_reducible refine (B1.out _).mono ?_) | (with_reducible refine (B2.out _).mono ?_) | (with_reducible refine (B3.out _).mono ?_) | (with_reducible refine (B4.out _).mono ?_) | (with_reducible refine (B5.out _).mono ?_)); rintro e w' ⟨rfl, d'⟩; (first | replace D := D.trans d' | replace D := (D.alloc _).trans d'); clear d')
        go_roundw
        case rel => exact ⟨2, by decide, by first | rfl | go_num, D⟩
        case measure => simp [intOf]
      · have hcm : M.Comm 4 := .inr (.inr (.inl rfl))
        have B1 := Lib.hid (fun w => eval 4 x y w UX.out UY.out)
        have B2 := Lib.hid (fun w => eval_is 4 y x _ UY.out UX.out (M.comm hcm y x) w)
        have B3 := Lib.hid (fun w => eval 4 _ z w (UX.out.ev (op := 4) UY.out) UZ.out)
        have B4 := Lib.hid (fun w => eval 4 y z w UY.out UZ.out)
        have B5 := Lib.hid (fun w => eval_is 4 x _ _ UX.out (UY.out.ev UZ.out) (M.assoc hcm x y z).symm w)
        generalize M.ev 4 (M.ev 4 x y) z = g at B3 B5
        generalize M.ev 4 x y = p at B1 B2 B3
        generalize M.ev 4 y z = q at B4 B5
        clear hcm
        go_wp2_with ((first | (with_reducible refine (B1.out _).mono ?_) | (with_reducible refine (B2.out _).mono ?_) | (with_reducible refine (B3.out _).mono ?_) | (with_reducible refine (B4.out _).mono ?_) | (with_reducible refine (B5.out _).mono ?_)); rintro e w' ⟨rfl, d'⟩; (first | replace D := D.trans d' | replace D := (D.alloc _).trans d'); clear d')
        go_roundw
        case rel => exact ⟨3, by decide, by first | rfl | go_num, D⟩
        case measure => simp [intOf]
      · have hcm : M.Comm 5 := .inr (.inr (.inr rfl))
        have B1 := Lib.hid (fun w => eval 5 x y w UX.out UY.out)
        have B2 := Lib.hid (fun w => eval_is 5 y x _ UY.out UX.out (M.comm hcm y x) w)
        have B3 := Lib.hid (fun w => eval 5 _ z w (UX.out.ev (op := 5) UY.out) UZ.out)
        have B4 := Lib.hid (fun w => eval 5 y z w UY.out UZ.out)
        have B5 := Lib.hid (fun w => eval_is 5 x _ _ UX.out (UY.out.ev UZ.out) (M.assoc hcm x y z).symm w)
        generalize M.ev 5 (M.ev 5 x y) z = g at B3 B5
        generalize M.ev 5 x y = p at B1 B2 B3
        generalize M.ev 5 y z = q at B4 B5
        clear hcm
        go_wp2_with ((first | (with_reducible refine (B1.out _).mono ?_) | (with_reducible refine (B2.out _).mono ?_) | (with_reducible refine (B3.out _).mono ?_) | (with_reducible refine (B4.out _).mono ?_) | (with_reducible refine (B5.out _).mono ?_)); rintro e w' ⟨rfl, d'⟩; (first | replace D := D.trans d' | replace D := (D.alloc _).trans d'); clear d')
        go_roundw
        case rel => exact ⟨4, by decide, by first | rfl | go_num, D⟩
        case measure => simp [intOf]
    · obtain rfl : k = 4 := by omega
      clear hlt hk
      have uy5 : M.U (y % 32) := ⟨by omega, by omega⟩
      have ud : M.U (x % 2 ^ (32 - M.sh y)) := M.down x y ▸ (UX.out.ev (op := 7) UY.out).ev (op := 8) UY.out
      have T1 := Lib.hid (fun w => eval 7 x y w UX.out UY.out)
      have T2 := Lib.hid (fun w => eval_is 8 _ y _ (UX.out.ev UY.out) UY.out (M.down x y) w)
      have T3 := Lib.hid (fun w => eval_is 7 x (y % 32) _ UX.out uy5 (M.shl_low x y) w)
      have T4 := Lib.hid (fun w => eval 8 x y w UX.out UY.out)
      have T5 := Lib.hid (fun w => eval_is 8 x (y % 32) _ UX.out uy5 (M.shr_low x y) w)
      have T6 := Lib.hid (fun w => eval_is 7 _ (y % 32) _ ud uy5 (M.up_again x y) w)
      have T7 := Lib.hid (fun w => eval_is 7 x 1 _ UX.out ⟨by decide, by decide⟩ (M.shl_one x) w)
      have T8 := Lib.hid (fun w => eval 1 x x w UX.out UX.out)
      generalize M.ev 7 x y = u at T1 T2 T3 T6
      generalize M.ev 8 x y = v at T4 T5
      generalize M.ev 1 x x = c at T7 T8
      have hs : (32 - y % 32).toNat = 32 - M.sh y := by unfold M.sh; omega
      by_cases hz : y % 32 = 0
      · have e0 : x % 2 ^ (32 - M.sh y) = x := M.down_none UX.out (by unfold M.sh; omega)
        rw [e0] at T2 T6
        have hzb : (y % 32 == 0) = true := by simpa using hz
        clear hz e0 hs ud uy5
        go_wp2_with ((first | (with_reducible refine (T1.out _).mono ?_) | (with_reducible refine (T2.out _).mono ?_) | (with_reducible refine (T3.out _).mono ?_) | (with_reducible refine (T4.out _).mono ?_) | (with_reducible refine (T5.out _).mono ?_) | (with_reducible refine (T6.out _).mono ?_) | (with_reducible refine (T7.out _).mono ?_) | (with_reducible refine (T8.out _).mono ?_)); rintro e w' ⟨rfl, d'⟩; replace D := D.trans d'; clear d')
        go_ret
        exact ⟨rfl, D⟩
      have hzb : (y % 32 == 0) = false := by simpa using hz
      have hc0 : 0 < y % 32 := by omega
      by_cases hq : x / 2 ^ (32 - M.sh y) = 0
      · have e0 := M.down_same _ x0 hq
        rw [e0] at T2 T6
        rw [← hs] at hq
        have hqb : (x / 2 ^ (32 - y % 32).toNat == 0) = true := by simpa using hq
        clear hz e0 hs ud uy5 hq
        go_wp2_with ((first | (with_reducible refine (T1.out _).mono ?_) | (with_reducible refine (T2.out _).mono ?_) | (with_reducible refine (T3.out _).mono ?_) | (with_reducible refine (T4.out _).mono ?_) | (with_reducible refine (T5.out _).mono ?_) | (with_reducible refine (T6.out _).mono ?_) | (with_reducible refine (T7.out _).mono ?_) | (with_reducible refine (T8.out _).mono ?_)); rintro e w' ⟨rfl, d'⟩; replace D := D.trans d'; clear d')
        go_ret
        exact ⟨rfl, D⟩
      · have e0 := M.down_other _ hq x0
        have hdb : (x % 2 ^ (32 - M.sh y) == x) = false := by simpa using e0
        rw [← hs] at hq
        have hqb : (x / 2 ^ (32 - y % 32).toNat == 0) = false := by simpa using hq
        generalize x % 2 ^ (32 - M.sh y) = d at T2 T6 hdb
        clear hz e0 hs ud uy5 hq
        go_wp2_with ((first | (with_reducible refine (T1.out _).mono ?_) | (with_reducible refine (T2.out _).mono ?_) | (with_reducible refine (T3.out _).mono ?_) | (with_reducible refine (T4.out _).mono ?_) | (with_reducible refine (T5.out _).mono ?_) | (with_reducible refine (T6.out _).mono ?_) | (with_reducible refine (T7.out _).mono ?_) | (with_reducible refine (T8.out _).mono ?_)); rintro e w' ⟨rfl, d'⟩; replace D := D.trans d'; clear d')
        go_ret
        exact ⟨rfl, D⟩
end Go.Proofs.Ytfghjakhgdoanaa
