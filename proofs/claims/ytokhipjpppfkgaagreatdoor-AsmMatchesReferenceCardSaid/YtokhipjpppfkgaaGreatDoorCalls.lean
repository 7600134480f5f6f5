/-
  What each function of package bits, and awake and Place of the laws, returns when called: contracts over the translated program. Conditions: those that stand in each theorem (valid fields, words of 32 bits).
-/
import Derived.Test.YtokhipjpppfkgaaGreatDoorRows
import Derived.Test.YtokhipjpppfkgaaGreatDoorFields
import Derived.WalkKit
import Derived.ProofKit
import Derived.OpenShut
import Derived.Lib.Hide
namespace Go.Proofs.YtokhipjpppfkgaaGreatDoor
open Go.ChangeShapes Go.WideShapes Go.ChangeAt Go.RowKit
set_option linter.unusedVariables false

theorem ret_bool {a b : Bool} (h : a = b) : Ending.returned (.bool a) = .returned (.bool b) := by rw [h]
theorem ret_int {k : IntKind} {a b : Int} (h : a = b) : Ending.returned (.int k a) = .returned (.int k b) := by rw [h]

set_option maxHeartbeats 400000 in
theorem keep32 (x n : Int) (W : World) (hx0 : 0 ≤ x) (hx : x < 4294967296) (hn0 : 0 ≤ n) (hn : n ≤ 32) :
    Calls Tryz.prog 115 #[.int .u32 x, .int .i64 n] W fun e W' => e = .returned (.int .u32 (x % 2 ^ n.toNat)) ∧ W = W' := by
  go_enter Tryz.func115, Tryz.ntmps115
  go_wp2
  go_ret
  exact ⟨ret_int (M.and32 x n hx0 hx hn), rfl⟩

set_option maxHeartbeats 400000 in
theorem keep64 (x n : Int) (W : World) (hx0 : 0 ≤ x) (hx : x < 18446744073709551616) (hn0 : 0 ≤ n) (hn : n ≤ 32) :
    Calls Tryz.prog 78 #[.int .u64 x, .int .i64 n] W fun e W' => e = .returned (.int .u64 (x % 2 ^ n.toNat)) ∧ W = W' := by
  have H := M.and64 x n hx0 hx hn
  have HH := Lib.hid H
  clear H hx
  go_enter Tryz.func78, Tryz.ntmps78
  go_wp2
  go_ret
  exact ⟨ret_int HH.out, rfl⟩

set_option maxHeartbeats 400000 in
theorem extract (w a n : Int) (W : World) (hx0 : 0 ≤ w) (hx : w < 4294967296) (ha0 : 0 ≤ a) (hn0 : 0 ≤ n) (hn : a + n ≤ 32) :
    Calls Tryz.prog 92 #[.int .u32 w, .int .i64 a, .int .i64 n] W fun e W' => e = .returned (.int .u32 (M.E w a n)) ∧ W = W' := by
  have h1 : 0 ≤ w / 2 ^ a.toNat := Int.ediv_nonneg hx0 (Int.le_of_lt (M.pow_pos32 a))
  have h2 : w / 2 ^ a.toNat < 4294967296 := Int.lt_of_le_of_lt (Int.ediv_le_self _ hx0) hx
  go_enter Tryz.func92, Tryz.ntmps92
  go_wp2_with (go_at_call 115; refine (keep32 _ _ _ (by assumption) (by assumption) (by omega) (by omega)).mono ?_; rintro e w' ⟨rfl, rfl⟩)
  go_ret
  exact ⟨ret_int (M.E_eq w a n hx0), rfl⟩

set_option maxHeartbeats 400000 in
theorem insert (w a n v : Int) (W : World) (hx0 : 0 ≤ w) (hx : w < 4294967296) (hv0 : 0 ≤ v) (hv : v < 4294967296) (ha0 : 0 ≤ a) (hn0 : 0 ≤ n) (hn : a + n ≤ 32) :
    Calls Tryz.prog 90 #[.int .u32 w, .int .i64 a, .int .i64 n, .int .u32 v] W fun e W' => e = .returned (.int .u32 (M.I w a n v)) ∧ W = W' := by
  go_enter Tryz.func90, Tryz.ntmps90
  go_wp2_with (go_at_call 115; refine (keep32 _ _ _ (by omega) (by omega) (by omega) (by omega)).mono ?_; rintro e w' ⟨rfl, rfl⟩)
  go_ret
  exact ⟨ret_int (M.I_eq w a n v hx0 hx hv0 ha0 hn0 hn), rfl⟩

set_option maxHeartbeats 400000 in
theorem signExtend (x n : Int) (W : World) (hx0 : 0 ≤ x) (hx : x < 4294967296) (hn0 : 1 ≤ n) (hn : n ≤ 32) :
    Calls Tryz.prog 93 #[.int .u32 x, .int .i64 n] W fun e W' => e = .returned (.int .i32 (M.S x n)) ∧ W = W' := by
  go_enter Tryz.func93, Tryz.ntmps93
  go_wp2
  go_ret
  exact ⟨ret_int (M.S_eq x n hn0 hn), rfl⟩

theorem u64_range (y : Int) : 0 ≤ IntKind.u64.wrap y ∧ IntKind.u64.wrap y < 18446744073709551616 := by rw [IntKind.wrap_u64]; omega

set_option maxHeartbeats 400000 in
theorem fitsSigned (x n : Int) (W : World) (hx0 : -2147483648 ≤ x) (hx : x < 2147483648) (hn0 : 1 ≤ n) (hn : n ≤ 32) :
    Calls Tryz.prog 63 #[.int .i32 x, .int .i64 n] W fun e W' => e = .returned (.bool (M.F x n)) ∧ W = W' := by
  go_enter Tryz.func63, Tryz.ntmps63
  go_wp2_with fail
  refine (keep64 _ _ _ (u64_range _).1 (u64_range _).2 (by omega) (by omega)).mono ?_
  rintro e w' ⟨rfl, rfl⟩
  go_wp2
  go_ret
  exact ⟨ret_bool (M.F_eq x n hx0 hx hn0 hn), rfl⟩

set_option maxHeartbeats 400000 in
theorem lowBits (x n : Int) (W : World) (hx0 : -2147483648 ≤ x) (hx : x < 2147483648) (hn0 : 1 ≤ n) (hn : n ≤ 32) :
    Calls Tryz.prog 91 #[.int .i32 x, .int .i64 n] W fun e W' => e = .returned (.int .u32 (M.L x n)) ∧ W = W' := by
  go_enter Tryz.func91, Tryz.ntmps91
  go_wp2_with (go_at_call 115; refine (keep32 _ _ _ (by omega) (by omega) (by omega) (by omega)).mono ?_; rintro e w' ⟨rfl, rfl⟩)
  go_ret
  exact ⟨ret_int (M.L_eq x n hn0 hn), rfl⟩

end Go.Proofs.YtokhipjpppfkgaaGreatDoor
