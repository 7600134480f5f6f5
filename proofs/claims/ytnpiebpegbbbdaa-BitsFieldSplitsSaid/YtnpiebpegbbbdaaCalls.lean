/-
  What each function of package bits, and awake and Place of the laws, returns when called: contracts over the translated program. Conditions: those that stand in each theorem (valid fields, words of 32 bits).
-/
import Derived.Test.YtnpiebpegbbbdaaRows
import Derived.Test.YtnpiebpegbbbdaaFields
import Derived.WalkKit
import Derived.ProofKit
import Derived.OpenShut
import Derived.Lib.Hide
namespace Go.Proofs.Ytnpiebpegbbbdaa
open Go.ChangeShapes Go.WideShapes Go.ChangeAt Go.RowKit
set_option linter.unusedVariables false

theorem ret_bool {a b : Bool} (h : a = b) : Ending.returned (.bool a) = .returned (.bool b) := by rw [h]
theorem ret_int {k : IntKind} {a b : Int} (h : a = b) : Ending.returned (.int k a) = .returned (.int k b) := by rw [h]

set_option maxHeartbeats 400000 in
theorem keep32 (x n : Int) (W : World) (hx0 : 0 ≤ x) (hx : x < 4294967296) (hn0 : 0 ≤ n) (hn : n ≤ 32) :
    Calls Try.prog 20 #[.int .u32 x, .int .i64 n] W fun e W' => e = .returned (.int .u32 (x % 2 ^ n.toNat)) ∧ W = W' := by
  go_enter Try.func20, Try.ntmps20
  go_wp2
  go_ret
  exact ⟨ret_int (M.and32 x n hx0 hx hn), rfl⟩

set_option maxHeartbeats 400000 in
theorem keep64 (x n : Int) (W : World) (hx0 : 0 ≤ x) (hx : x < 18446744073709551616) (hn0 : 0 ≤ n) (hn : n ≤ 32) :
    Calls Try.prog 22 #[.int .u64 x, .int .i64 n] W fun e W' => e = .returned (.int .u64 (x % 2 ^ n.toNat)) ∧ W = W' := by
  have H := M.and64 x n hx0 hx hn
  have HH := Lib.hid H
  clear H hx
  go_enter Try.func22, Try.ntmps22
  go_wp2
  go_ret
  exact ⟨ret_int HH.out, rfl⟩

set_option maxHeartbeats 400000 in
theorem extract (w a n : Int) (W : World) (hx0 : 0 ≤ w) (hx : w < 4294967296) (ha0 : 0 ≤ a) (hn0 : 0 ≤ n) (hn : a + n ≤ 32) :
    Calls Try.prog 10 #[.int .u32 w, .int .i64 a, .int .i64 n] W fun e W' => e = .returned (.int .u32 (M.E w a n)) ∧ W = W' := by
  have h1 : 0 ≤ w / 2 ^ a.toNat := Int.ediv_nonneg hx0 (Int.le_of_lt (M.pow_pos32 a))
  have h2 : w / 2 ^ a.toNat < 4294967296 := Int.lt_of_le_of_lt (Int.ediv_le_self _ hx0) hx
  go_enter Try.func10, Try.ntmps10
  go_wp2_with (go_at_call 20; refine (keep32 _ _ _ (by assumption) (by assumption) (by omega) (by omega)).mono ?_; rintro e w' ⟨rfl, rfl⟩)
  go_ret
  exact ⟨ret_int (M.E_eq w a n hx0), rfl⟩

set_option maxHeartbeats 400000 in
theorem insert (w a n v : Int) (W : World) (hx0 : 0 ≤ w) (hx : w < 4294967296) (hv0 : 0 ≤ v) (hv : v < 4294967296) (ha0 : 0 ≤ a) (hn0 : 0 ≤ n) (hn : a + n ≤ 32) :
    Calls Try.prog 12 #[.int .u32 w, .int .i64 a, .int .i64 n, .int .u32 v] W fun e W' => e = .returned (.int .u32 (M.I w a n v)) ∧ W = W' := by
  go_enter Try.func12, Try.ntmps12
  go_wp2_with (go_at_call 20; refine (keep32 _ _ _ (by omega) (by omega) (by omega) (by omega)).mono ?_; rintro e w' ⟨rfl, rfl⟩)
  go_ret
  exact ⟨ret_int (M.I_eq w a n v hx0 hx hv0 ha0 hn0 hn), rfl⟩

set_option maxHeartbeats 400000 in
theorem signExtend (x n : Int) (W : World) (hx0 : 0 ≤ x) (hx : x < 4294967296) (hn0 : 1 ≤ n) (hn : n ≤ 32) :
    Calls Try.prog 14 #[.int .u32 x, .int .i64 n] W fun e W' => e = .returned (.int .i32 (M.S x n)) ∧ W = W' := by
  go_enter Try.func14, Try.ntmps14
  go_wp2
  go_ret
  exact ⟨ret_int (M.S_eq x n hn0 hn), rfl⟩

theorem u64_range (y : Int) : 0 ≤ IntKind.u64.wrap y ∧ IntKind.u64.wrap y < 18446744073709551616 := by rw [IntKind.wrap_u64]; omega

set_option maxHeartbeats 400000 in
theorem fitsSigned (x n : Int) (W : World) (hx0 : -2147483648 ≤ x) (hx : x < 2147483648) (hn0 : 1 ≤ n) (hn : n ≤ 32) :
    Calls Try.prog 16 #[.int .i32 x, .int .i64 n] W fun e W' => e = .returned (.bool (M.F x n)) ∧ W = W' := by
  go_enter Try.func16, Try.ntmps16
  go_wp2_with fail
  refine (keep64 _ _ _ (u64_range _).1 (u64_range _).2 (by omega) (by omega)).mono ?_
  rintro e w' ⟨rfl, rfl⟩
  go_wp2
  go_ret
  exact ⟨ret_bool (M.F_eq x n hx0 hx hn0 hn), rfl⟩

set_option maxHeartbeats 400000 in
theorem lowBits (x n : Int) (W : World) (hx0 : -2147483648 ≤ x) (hx : x < 2147483648) (hn0 : 1 ≤ n) (hn : n ≤ 32) :
    Calls Try.prog 18 #[.int .i32 x, .int .i64 n] W fun e W' => e = .returned (.int .u32 (M.L x n)) ∧ W = W' := by
  go_enter Try.func18, Try.ntmps18
  go_wp2_with (go_at_call 20; refine (keep32 _ _ _ (by omega) (by omega) (by omega) (by omega)).mono ?_; rintro e w' ⟨rfl, rfl⟩)
  go_ret
  exact ⟨ret_int (M.L_eq x n hn0 hn), rfl⟩

set_option maxHeartbeats 400000 in
theorem place (a b p n : Int) (W : World) (ha0 : 0 ≤ a) (ha : a < 256) (hb0 : 0 ≤ b) (hb : b < 256) (hn : n = 1 + a % 32) (hp : p = b % (33 - n)) :
    Calls Try.prog 9 #[.int .u8 a, .int .u8 b] W fun e W' => e = .returned (.tuple #[.int .i64 p, .int .i64 n]) ∧ W = W' := by
  have HN := Lib.hid hn
  have HP := Lib.hid hp
  clear hn hp
  go_enter Try.func9, Try.ntmps9
  go_wp2
  go_ret2
  exact ⟨by rw [HP.out, HN.out]; rfl, rfl⟩

/-- p and n are the field that Place makes of a and b -/
def IsPlace (a b p n : Int) : Prop := 0 ≤ a ∧ a < 256 ∧ 0 ≤ b ∧ b < 256 ∧ n = 1 + a % 32 ∧ p = b % (33 - n)

theorem place_any (a b p n : Int) (W : World) (h : IsPlace a b p n) :
    Calls Try.prog 9 #[.int .u8 a, .int .u8 b] W fun e W' => e = .returned (.tuple #[.int .i64 p, .int .i64 n]) ∧ W = W' :=
  place a b p n W h.1 h.2.1 h.2.2.1 h.2.2.2.1 h.2.2.2.2.1 h.2.2.2.2.2

theorem place_of (a b : Int) (ha : 0 ≤ a ∧ a ≤ 255) (hb : 0 ≤ b ∧ b ≤ 255) : ∃ p n, IsPlace a b p n ∧ 0 ≤ p ∧ 1 ≤ n ∧ p + n ≤ 32 := by
  refine ⟨b % (33 - (1 + a % 32)), 1 + a % 32, ⟨ha.1, by omega, hb.1, by omega, rfl, rfl⟩, ?_, by omega, ?_⟩
  · exact Int.emod_nonneg _ (by omega)
  · have := Int.emod_lt_of_pos b (show 0 < 33 - (1 + a % 32) by omega)
    omega

theorem t1 : (M.E 2882343476 4 8 == 35) = true := by decide +kernel
theorem t2 : (M.E 4294967295 0 32 == 4294967295) = true := by decide +kernel
theorem t3 : (M.I 65535 4 8 261 == 61535) = true := by decide +kernel
theorem t4 : (M.I 1 0 32 7 == 7) = true := by decide +kernel
theorem t5 : (M.S 3 2 == -1) = true := by decide +kernel
theorem t6 : (M.S 1 2 == 1) = true := by decide +kernel
theorem t7 : (M.S 2147483648 32 == -2147483648) = true := by decide +kernel
theorem t8 : M.F (-2) 2 = true := by decide +kernel
theorem t9 : M.F 2 2 = false := by decide +kernel
theorem t10 : (M.L (-1) 18 == 262143) = true := by decide +kernel
theorem t11 : (M.L 5 2 == 1) = true := by decide +kernel

set_option maxHeartbeats 1000000 in
theorem awake (W : World) : Calls Try.prog 8 #[] W fun e W' => e = .returned (.bool true) ∧ W = W' := by
  have h1 := t1
  have h2 := t2
  have h3 := t3
  have h4 := t4
  have h5 := t5
  have h6 := t6
  have h7 := t7
  have h8 := t8
  have h9 := t9
  have h10 := t10
  have h11 := t11
  go_enter Try.func8, Try.ntmps8
  go_wp2_with (first
    | (go_at_call 10; refine (extract _ _ _ _ (by omega) (by omega) (by omega) (by omega) (by omega)).mono ?_; rintro e w' ⟨rfl, rfl⟩)
    | (go_at_call 12; refine (insert _ _ _ _ _ (by omega) (by omega) (by omega) (by omega) (by omega) (by omega) (by omega)).mono ?_; rintro e w' ⟨rfl, rfl⟩)
    | (go_at_call 14; refine (signExtend _ _ _ (by omega) (by omega) (by omega) (by omega)).mono ?_; rintro e w' ⟨rfl, rfl⟩)
    | (go_at_call 16; refine (fitsSigned _ _ _ (by omega) (by omega) (by omega) (by omega)).mono ?_; rintro e w' ⟨rfl, rfl⟩)
    | (go_at_call 18; refine (lowBits _ _ _ (by omega) (by omega) (by omega) (by omega)).mono ?_; rintro e w' ⟨rfl, rfl⟩))
  go_ret
  exact ⟨rfl, rfl⟩

end Go.Proofs.Ytnpiebpegbbbdaa
