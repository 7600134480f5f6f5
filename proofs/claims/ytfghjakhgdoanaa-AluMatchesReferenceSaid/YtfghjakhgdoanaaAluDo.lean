/-
  What Do and Taken of the reference package gaolerref08 return when called: contracts over the translated program. Conditions: words of 32 bits.
-/
import Derived.Test.YtfghjakhgdoanaaAluRefs
namespace Go.Proofs.Ytfghjakhgdoanaa
open Go.ChangeShapes Go.WideShapes Go.ChangeAt Go.RowKit Go.Sort
set_option linter.unusedVariables false

theorem mul_eq (x : Int) (s : Nat) (x0 : 0 ≤ x) (x1 : x < 4294967296) (hs : s < 32) : (IntKind.u64.wrap (x * 2 ^ s)).tmod 4294967296 % 4294967296 = x * 2 ^ s % 4294967296 := by
  have h : (2 : Nat) ^ s ≤ 2 ^ 31 := Nat.pow_le_pow_right (by decide) (by omega)
  have h2 : ((2 ^ s : Nat) : Int) = (2 : Int) ^ s := M.cast_pow s
  have h3 : (2 : Int) ^ s ≤ 2147483648 := by omega
  have h4 := M.pow_pos s
  have h5 : x * 2 ^ s ≤ 4294967295 * 2147483648 := Int.mul_le_mul (by omega) h3 (by omega) (by omega)
  have h6 : 0 ≤ x * 2 ^ s := Int.mul_nonneg x0 (by omega)
  rw [IntKind.wrap_u64, Int.tmod_eq_emod_of_nonneg (Int.emod_nonneg _ (by decide))]
  omega
theorem div_eq (x : Int) (s : Nat) (x0 : 0 ≤ x) (x1 : x < 4294967296) : IntKind.u64.wrap (x.tdiv (2 ^ s)) % 4294967296 = x / 2 ^ s := by
  have h1 : 0 ≤ x / 2 ^ s := Int.ediv_nonneg x0 (Int.le_of_lt (M.pow_pos s))
  have h2 : x / 2 ^ s < 4294967296 := Int.lt_of_le_of_lt (Int.ediv_le_self _ x0) x1
  rw [Int.tdiv_eq_ediv_of_nonneg x0, IntKind.wrap_u64]
  omega

set_option maxHeartbeats 400000 in
theorem do1 (x y : Int) (W : World) (hx : M.U x) (hy : M.U y) :
    Calls Try.prog 9 #[.int .i64 1, .int .u32 x, .int .u32 y] W fun e W' => e = .returned (.int .u32 (M.ev 1 x y)) ∧ Dn W W' := by
  obtain ⟨x0, x1⟩ := hx
  obtain ⟨y0, y1⟩ := hy
  go_enter Try.func9, Try.ntmps9
  go_wp2
  go_ret
  exact ⟨ret_int (by rw [M.ev1]), Dn.refl W⟩

set_option maxHeartbeats 400000 in
theorem do2 (x y : Int) (W : World) (hx : M.U x) (hy : M.U y) :
    Calls Try.prog 9 #[.int .i64 2, .int .u32 x, .int .u32 y] W fun e W' => e = .returned (.int .u32 (M.ev 2 x y)) ∧ Dn W W' := by
  obtain ⟨x0, x1⟩ := hx
  obtain ⟨y0, y1⟩ := hy
  go_enter Try.func9, Try.ntmps9
  go_wp2
  go_ret
  exact ⟨ret_int (by rw [M.ev2]; omega), Dn.refl W⟩

set_option maxHeartbeats 400000 in
theorem do3 (x y : Int) (W : World) (hx : M.U x) (hy : M.U y) :
    Calls Try.prog 9 #[.int .i64 3, .int .u32 x, .int .u32 y] W fun e W' => e = .returned (.int .u32 (M.ev 3 x y)) ∧ Dn W W' := by
  have C := Lib.hid (bitwise3 x y W hx hy)
  generalize M.ev 3 x y = z at C ⊢
  clear hx hy
  go_enter Try.func9, Try.ntmps9
  go_wp2_with (go_at_call 14; refine C.out.mono ?_; rintro e w1 ⟨rfl, d1⟩)
  go_ret
  exact ⟨rfl, d1⟩

set_option maxHeartbeats 400000 in
theorem do4 (x y : Int) (W : World) (hx : M.U x) (hy : M.U y) :
    Calls Try.prog 9 #[.int .i64 4, .int .u32 x, .int .u32 y] W fun e W' => e = .returned (.int .u32 (M.ev 4 x y)) ∧ Dn W W' := by
  have C := Lib.hid (bitwise4 x y W hx hy)
  generalize M.ev 4 x y = z at C ⊢
  clear hx hy
  go_enter Try.func9, Try.ntmps9
  go_wp2_with (go_at_call 14; refine C.out.mono ?_; rintro e w1 ⟨rfl, d1⟩)
  go_ret
  exact ⟨rfl, d1⟩

set_option maxHeartbeats 400000 in
theorem do5 (x y : Int) (W : World) (hx : M.U x) (hy : M.U y) :
    Calls Try.prog 9 #[.int .i64 5, .int .u32 x, .int .u32 y] W fun e W' => e = .returned (.int .u32 (M.ev 5 x y)) ∧ Dn W W' := by
  have C := Lib.hid (bitwise5 x y W hx hy)
  generalize M.ev 5 x y = z at C ⊢
  clear hx hy
  go_enter Try.func9, Try.ntmps9
  go_wp2_with (go_at_call 14; refine C.out.mono ?_; rintro e w1 ⟨rfl, d1⟩)
  go_ret
  exact ⟨rfl, d1⟩

set_option maxHeartbeats 400000 in
theorem do6 (x y : Int) (W : World) (hx : M.U x) (hy : M.U y) :
    Calls Try.prog 9 #[.int .i64 6, .int .u32 x, .int .u32 y] W fun e W' => e = .returned (.int .u32 (M.ev 6 x y)) ∧ Dn W W' := by
  have C1 := Lib.hid (fun w => signed x w hx)
  have C2 := Lib.hid (fun w => signed y w hy)
  by_cases h : M.sg x < M.sg y
  · have HE : Hid (M.ev 6 x y = 1) := Lib.hid (by rw [M.ev6]; unfold M.one M.lt; rw [decide_eq_true h]; rfl)
    generalize M.sg x = a at *
    generalize M.sg y = b at *
    clear hx hy
    go_enter Try.func9, Try.ntmps9
    go_wp2_with (go_at_call 15; (first | (with_reducible refine (C1.out _).mono ?_) | (with_reducible refine (C2.out _).mono ?_)); rintro e w1 ⟨rfl, rfl⟩)
    go_ret
    exact ⟨ret_int HE.out.symm, Dn.refl _⟩
  · have HE : Hid (M.ev 6 x y = 0) := Lib.hid (by rw [M.ev6]; unfold M.one M.lt; rw [decide_eq_false h]; rfl)
    generalize M.sg x = a at *
    generalize M.sg y = b at *
    clear hx hy
    go_enter Try.func9, Try.ntmps9
    go_wp2_with (go_at_call 15; (first | (with_reducible refine (C1.out _).mono ?_) | (with_reducible refine (C2.out _).mono ?_)); rintro e w1 ⟨rfl, rfl⟩)
    go_ret
    exact ⟨ret_int HE.out.symm, Dn.refl _⟩

set_option maxHeartbeats 400000 in
theorem do7 (x y : Int) (W : World) (hx : M.U x) (hy : M.U y) :
    Calls Try.prog 9 #[.int .i64 7, .int .u32 x, .int .u32 y] W fun e W' => e = .returned (.int .u32 (M.ev 7 x y)) ∧ Dn W W' := by
  obtain ⟨x0, x1⟩ := hx
  obtain ⟨y0, y1⟩ := hy
  have HE := Lib.hid (mul_eq x (M.sh y) x0 x1 (M.sh_lt y))
  have hp : ¬ (2 : Int) ^ (y % 32).toNat = 0 := by have := M.pow_pos (y % 32).toNat; omega
  go_enter Try.func9, Try.ntmps9
  go_wp2_with (go_at_call 16; refine (pow _ _ (by omega) (by omega)).mono ?_; rintro e w1 ⟨rfl, rfl⟩)
  go_ret
  exact ⟨ret_int HE.out, Dn.refl _⟩

set_option maxHeartbeats 400000 in
theorem do8 (x y : Int) (W : World) (hx : M.U x) (hy : M.U y) :
    Calls Try.prog 9 #[.int .i64 8, .int .u32 x, .int .u32 y] W fun e W' => e = .returned (.int .u32 (M.ev 8 x y)) ∧ Dn W W' := by
  obtain ⟨x0, x1⟩ := hx
  obtain ⟨y0, y1⟩ := hy
  have HE := Lib.hid (div_eq x (M.sh y) x0 x1)
  have hp : ¬ (2 : Int) ^ (y % 32).toNat = 0 := by have := M.pow_pos (y % 32).toNat; omega
  go_enter Try.func9, Try.ntmps9
  go_wp2_with (go_at_call 16; refine (pow _ _ (by omega) (by omega)).mono ?_; rintro e w1 ⟨rfl, rfl⟩)
  go_ret
  exact ⟨ret_int HE.out, Dn.refl _⟩


theorem do_no (op x y : Int) (W : World) (h : ¬ (1 ≤ op ∧ op ≤ 8)) :
    Calls Try.prog 9 #[.int .i64 op, .int .u32 x, .int .u32 y] W fun e W' => e = .returned (.int .u32 (M.ev op x y)) ∧ Dn W W' := by
  rw [M.ev_no op x y h]
  have n1 : (op == 1) = false := by simp; omega
  have n2 : (op == 2) = false := by simp; omega
  have n3 : (op == 3) = false := by simp; omega
  have n4 : (op == 4) = false := by simp; omega
  have n5 : (op == 5) = false := by simp; omega
  have n6 : (op == 6) = false := by simp; omega
  have n7 : (op == 7) = false := by simp; omega
  have n8 : (op == 8) = false := by simp; omega
  clear h
  go_enter Try.func9, Try.ntmps9
  go_wp2
  go_ret
  exact ⟨rfl, Dn.refl _⟩

theorem refDo (op x y : Int) (W : World) (hx : M.U x) (hy : M.U y) : Calls Try.prog 9 #[.int .i64 op, .int .u32 x, .int .u32 y] W fun e W' => e = .returned (.int .u32 (M.ev op x y)) ∧ Dn W W' := by
  by_cases h : 1 ≤ op ∧ op ≤ 8
  · have : op = 1 ∨ op = 2 ∨ op = 3 ∨ op = 4 ∨ op = 5 ∨ op = 6 ∨ op = 7 ∨ op = 8 := by omega
    rcases this with rfl | rfl | rfl | rfl | rfl | rfl | rfl | rfl
    · exact do1 x y W hx hy
    · exact do2 x y W hx hy
    · exact do3 x y W hx hy
    · exact do4 x y W hx hy
    · exact do5 x y W hx hy
    · exact do6 x y W hx hy
    · exact do7 x y W hx hy
    · exact do8 x y W hx hy
  · exact do_no op x y W h

set_option maxHeartbeats 1000000 in
theorem refTaken (op x y : Int) (W : World) (hx : M.U x) (hy : M.U y) : Calls Try.prog 11 #[.int .i64 op, .int .u32 x, .int .u32 y] W fun e W' => e = .returned (.bool (M.tk op x y)) ∧ Dn W W' := by
  have C1 := Lib.hid (fun w => signed x w hx)
  have C2 := Lib.hid (fun w => signed y w hy)
  clear hx hy
  by_cases h15 : op = 15
  · subst h15
    by_cases e : x = y
    · have HE : Hid (M.tk 15 x y = true) := Lib.hid (by unfold M.tk; simp [e])
      have q : (x == y) = true := by simp; exact e
      clear e
      go_enter Try.func11, Try.ntmps11
      go_wp2
      go_ret
      exact ⟨ret_bool HE.out.symm, Dn.refl W⟩
    · have HE : Hid (M.tk 15 x y = false) := Lib.hid (by unfold M.tk; simp [e])
      have q : (x == y) = false := by simp; exact e
      clear e
      go_enter Try.func11, Try.ntmps11
      go_wp2
      go_ret
      exact ⟨ret_bool HE.out.symm, Dn.refl W⟩
  by_cases h16 : op = 16
  · subst h16
    clear h15
    by_cases e : x = y
    · have HE : Hid (M.tk 16 x y = false) := Lib.hid (by unfold M.tk; simp [e])
      have q : (x != y) = false := by simp; exact e
      have q2 : (x == y) = true := by simp; exact e
      clear e
      go_enter Try.func11, Try.ntmps11
      go_wp2
      go_ret
      exact ⟨ret_bool HE.out.symm, Dn.refl W⟩
    · have HE : Hid (M.tk 16 x y = true) := Lib.hid (by unfold M.tk; simp [e])
      have q : (x != y) = true := by simp; exact e
      have q2 : (x == y) = false := by simp; exact e
      clear e
      go_enter Try.func11, Try.ntmps11
      go_wp2
      go_ret
      exact ⟨ret_bool HE.out.symm, Dn.refl W⟩
  by_cases h17 : op = 17
  · subst h17
    clear h15 h16
    have HE : Hid (M.tk 17 x y = M.lt x y) := Lib.hid (by unfold M.tk; simp)
    have HL : Hid (M.lt x y = decide (M.sg x < M.sg y)) := Lib.hid rfl
    generalize M.sg x = a at *
    generalize M.sg y = b at *
    by_cases h : a < b
    · go_enter Try.func11, Try.ntmps11
      go_wp2_with (go_at_call 15; (first | (with_reducible refine (C1.out _).mono ?_) | (with_reducible refine (C2.out _).mono ?_)); rintro e w1 ⟨rfl, rfl⟩)
      go_ret
      exact ⟨ret_bool (by rw [HE.out, HL.out, decide_eq_true h]), Dn.refl _⟩
    · go_enter Try.func11, Try.ntmps11
      go_wp2_with (go_at_call 15; (first | (with_reducible refine (C1.out _).mono ?_) | (with_reducible refine (C2.out _).mono ?_)); rintro e w1 ⟨rfl, rfl⟩)
      go_ret
      exact ⟨ret_bool (by rw [HE.out, HL.out, decide_eq_false (by omega)]), Dn.refl _⟩
  · have HE : Hid (M.tk op x y = false) := Lib.hid (by unfold M.tk; simp [h15, h16, h17])
    have n1 : (op == 15) = false := by simp; exact h15
    have n2 : (op == 16) = false := by simp; exact h16
    have n3 : (op == 17) = false := by simp; exact h17
    clear h15 h16 h17
    go_enter Try.func11, Try.ntmps11
    go_wp2
    go_ret
    exact ⟨ret_bool HE.out.symm, Dn.refl W⟩
end Go.Proofs.Ytfghjakhgdoanaa
