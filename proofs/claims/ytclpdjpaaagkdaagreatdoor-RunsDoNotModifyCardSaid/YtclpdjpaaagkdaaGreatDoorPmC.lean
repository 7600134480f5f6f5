/-
  Contracts over the translated program and the plain facts behind them, of the texts: I2Math, I2Fields, I2Calls, I2Laws, I2Isa, I2Refs, I2IsaCalls, I2IsaRefs, I2IsaPack, I2IsaRefs2. Conditions: those that stand in each theorem.
-/
import Derived.KernelRfl
import Derived.WalkKit
import Derived.Test.YtclpdjpaaagkdaaGreatDoorRows
import Derived.ProofKit
import Derived.OpenShut
import Derived.Lib.Hide
import Derived.Deep.QuietTactic
import Derived.BigQuiet
import Derived.Handy
namespace Go.Proofs.YtclpdjpaaagkdaaGreatDoor.Is.M

def ext (w a n : Nat) : Nat := w / 2 ^ a % 2 ^ n
def ins (w a n v : Nat) : Nat := w ^^^ ((ext w a n ^^^ v % 2 ^ n) * 2 ^ a)

theorem bit_ext (w a n i : Nat) : (ext w a n).testBit i = (decide (i < n) && w.testBit (i + a)) := by
 unfold ext
 rw [Nat.testBit_mod_two_pow, Nat.testBit_div_two_pow]

theorem bit_ins (w a n v i : Nat) : (ins w a n v).testBit i = if a ≤ i ∧ i < a + n then v.testBit (i - a) else w.testBit i := by
 unfold ins
 rw [Nat.testBit_xor, Nat.testBit_mul_two_pow, Nat.testBit_xor, bit_ext, Nat.testBit_mod_two_pow]
 by_cases h1 : a ≤ i
 · have e : i - a + a = i := by omega
   rw [e]
   by_cases h2 : i < a + n
   · have h3 : i - a < n := by omega
     simp only [h1, h2, h3, decide_true, Bool.true_and, and_self, if_true]
     cases w.testBit i <;> cases v.testBit (i - a) <;> rfl
   · have h3 : ¬ (i - a < n) := by omega
     simp [h1, h2, h3]
 · simp [h1]

theorem ext_lt (w a n : Nat) : ext w a n < 2 ^ n := Nat.mod_lt _ (Nat.two_pow_pos n)

theorem bit_high {w k i : Nat} (h : w < 2 ^ k) (hi : k ≤ i) : w.testBit i = false :=
 Nat.testBit_lt_two_pow (Nat.lt_of_lt_of_le h (Nat.pow_le_pow_right (by decide) hi))

theorem ins_lt (w a n v k : Nat) (h : w < 2 ^ k) (hk : a + n ≤ k) : ins w a n v < 2 ^ k := by
 apply Nat.lt_pow_two_of_testBit
 intro i hi
 rw [bit_ins, if_neg (by omega)]
 exact bit_high h hi

theorem ext_ins (w a n v : Nat) : ext (ins w a n v) a n = ext v 0 n := by
 apply Nat.eq_of_testBit_eq; intro i
 rw [bit_ext, bit_ext, bit_ins]
 by_cases h : i < n
 · rw [if_pos (by omega)]; simp [h]
 · simp [h]

theorem ext_apart (w a n v b m : Nat) (h : a + n ≤ b ∨ b + m ≤ a) : ext (ins w a n v) b m = ext w b m := by
 apply Nat.eq_of_testBit_eq; intro i
 rw [bit_ext, bit_ext, bit_ins]
 by_cases hi : i < m
 · rw [if_neg (by omega)]
 · simp [hi]

theorem ins_code (w a n v : Nat) (hw : w < 2 ^ 32) (h : a + n ≤ 32) :
   w &&& (2 ^ 32 - 1 - (2 ^ n - 1) * 2 ^ a) ||| (v % 2 ^ n) * 2 ^ a = ins w a n v := by
 have hlt : (2 ^ n - 1) * 2 ^ a < 2 ^ 32 := by
   have h1 : (2 ^ n - 1) * 2 ^ a < 2 ^ n * 2 ^ a := Nat.mul_lt_mul_of_pos_right (by have := Nat.two_pow_pos n; omega) (Nat.two_pow_pos a)
   rw [← Nat.pow_add] at h1
   exact Nat.lt_of_lt_of_le h1 (Nat.pow_le_pow_right (by decide) (by omega))
 apply Nat.eq_of_testBit_eq; intro i
 have e : 2 ^ 32 - 1 - (2 ^ n - 1) * 2 ^ a = 2 ^ 32 - ((2 ^ n - 1) * 2 ^ a + 1) := by omega
 rw [bit_ins, Nat.testBit_or, Nat.testBit_and, e, Nat.testBit_two_pow_sub_succ hlt, Nat.testBit_mul_two_pow, Nat.testBit_mul_two_pow, Nat.testBit_mod_two_pow, Nat.testBit_two_pow_sub_one]
 by_cases h1 : a ≤ i ∧ i < a + n
 · rw [if_pos h1]
   have h2 : i - a < n := by omega
   simp [h1.1, h2]
 · rw [if_neg h1]
   by_cases h3 : i < 32
   · by_cases h4 : a ≤ i
     · have h5 : ¬ i - a < n := by omega
       simp [h3, h5]
     · simp [h3, h4]
   · rw [bit_high hw (by omega)]
     have h5 : ¬ i - a < n := by omega
     simp [h5]

end Go.Proofs.YtclpdjpaaagkdaaGreatDoor.Is.M
namespace Go.Proofs.YtclpdjpaaagkdaaGreatDoor.Is.M
open Go.RowKit

def E (w a n : Int) : Int := (ext w.toNat a.toNat n.toNat : Nat)
def I (w a n v : Int) : Int := (ins w.toNat a.toNat n.toNat v.toNat : Nat)
def S (v n : Int) : Int := if 2 ^ (n.toNat - 1) ≤ v % 2 ^ n.toNat then v % 2 ^ n.toNat - 2 ^ n.toNat else v % 2 ^ n.toNat
def F (x n : Int) : Bool := decide (-2 ^ (n.toNat - 1) ≤ x ∧ x < 2 ^ (n.toNat - 1))
def L (x n : Int) : Int := x % 2 ^ n.toNat

theorem widths (m : Nat) (h1 : 1 ≤ m) (h2 : m ≤ 32) : m = 1 ∨ m = 2 ∨ m = 3 ∨ m = 4 ∨ m = 5 ∨ m = 6 ∨ m = 7 ∨ m = 8 ∨ m = 9 ∨ m = 10 ∨ m = 11 ∨ m = 12 ∨ m = 13 ∨ m = 14 ∨ m = 15 ∨ m = 16 ∨ m = 17 ∨ m = 18 ∨ m = 19 ∨ m = 20 ∨ m = 21 ∨ m = 22 ∨ m = 23 ∨ m = 24 ∨ m = 25 ∨ m = 26 ∨ m = 27 ∨ m = 28 ∨ m = 29 ∨ m = 30 ∨ m = 31 ∨ m = 32 := by omega

theorem pow_le32 (n : Int) (hn : n ≤ 32) : (2 : Int) ^ n.toNat ≤ 4294967296 := by
 have h : 2 ^ n.toNat ≤ 2 ^ 32 := Nat.pow_le_pow_right (by decide) (by omega)
 have e : ((2 ^ n.toNat : Nat) : Int) = (2 : Int) ^ n.toNat := by simp
 rw [← e]; omega

theorem pow_pos32 (n : Int) : 0 < (2 : Int) ^ n.toNat := Int.pow_pos (by decide)

theorem cast_pow (k : Nat) : ((2 ^ k : Nat) : Int) = (2 : Int) ^ k := by simp

theorem and32 (x n : Int) (hx0 : 0 ≤ x) (hx : x < 4294967296) (hn : n ≤ 32) : bits .and .u32 x ((2 ^ n.toNat - 1) % 4294967296) = x % 2 ^ n.toNat := by
 have h1 := pow_le32 n hn
 have h2 := pow_pos32 n
 rw [Int.emod_eq_of_lt (by omega) (by omega)]
 obtain ⟨X, rfl⟩ := Int.eq_ofNat_of_zero_le hx0
 have h3 := Nat.two_pow_pos n.toNat
 have e : (2 : Int) ^ n.toNat - 1 = ((2 ^ n.toNat - 1 : Nat) : Int) := by rw [Int.natCast_sub (by omega), cast_pow]; rfl
 have h4 : 2 ^ n.toNat - 1 < 4294967296 := by rw [← cast_pow] at h1; omega
 rw [e, u32_and_nat _ _ (by omega) h4, Nat.and_two_pow_sub_one_eq_mod, Int.natCast_emod, cast_pow]

theorem and64 (x n : Int) (hx0 : 0 ≤ x) (hx : x < 18446744073709551616) (hn : n ≤ 32) : bits .and .u64 x (IntKind.u64.wrap (IntKind.u64.wrap (2 ^ n.toNat) - 1)) = x % 2 ^ n.toNat := by
 have h1 := pow_le32 n hn
 have h2 := pow_pos32 n
 rw [IntKind.wrap_u64, IntKind.wrap_u64, Int.emod_eq_of_lt (a := 2 ^ n.toNat) (by omega) (by omega), Int.emod_eq_of_lt (by omega) (by omega)]
 obtain ⟨X, rfl⟩ := Int.eq_ofNat_of_zero_le hx0
 have h3 := Nat.two_pow_pos n.toNat
 have e : (2 : Int) ^ n.toNat - 1 = ((2 ^ n.toNat - 1 : Nat) : Int) := by rw [Int.natCast_sub (by omega), cast_pow]; rfl
 have h4 : 2 ^ n.toNat - 1 < 18446744073709551616 := by rw [← cast_pow] at h1; omega
 rw [e, u64_and_nat _ _ (by omega) h4, Nat.and_two_pow_sub_one_eq_mod, Int.natCast_emod, cast_pow]

theorem E_eq (w a n : Int) (hw : 0 ≤ w) : w / 2 ^ a.toNat % 2 ^ n.toNat = E w a n := by
 obtain ⟨X, rfl⟩ := Int.eq_ofNat_of_zero_le hw
 unfold E ext
 rw [Int.natCast_emod, Int.natCast_ediv, cast_pow, cast_pow]; rfl

theorem I_eq (w a n v : Int) (hw0 : 0 ≤ w) (hw : w < 4294967296) (hv0 : 0 ≤ v) (ha : 0 ≤ a) (hn : 0 ≤ n) (h : a + n ≤ 32) :
   bits .or .u32 (bits .andNot .u32 w (4294967295 % 2 ^ n.toNat * 2 ^ a.toNat % 4294967296)) (v % 2 ^ n.toNat * 2 ^ a.toNat % 4294967296) = I w a n v := by
 obtain ⟨W, rfl⟩ := Int.eq_ofNat_of_zero_le hw0
 obtain ⟨V, rfl⟩ := Int.eq_ofNat_of_zero_le hv0
 obtain ⟨A, rfl⟩ := Int.eq_ofNat_of_zero_le ha
 obtain ⟨N, rfl⟩ := Int.eq_ofNat_of_zero_le hn
 rw [Int.toNat_natCast, Int.toNat_natCast]
 have hAN : A + N ≤ 32 := by omega
 have fit : ∀ y : Nat, y < 2 ^ N → y * 2 ^ A < 4294967296 := by
   intro y hy
   have h1 : y * 2 ^ A < 2 ^ N * 2 ^ A := Nat.mul_lt_mul_of_pos_right hy (Nat.two_pow_pos A)
   rw [← Nat.pow_add] at h1
   exact Nat.lt_of_lt_of_le h1 (Nat.pow_le_pow_right (n := 2) (by decide) (show N + A ≤ 32 by omega))
 have hm : 4294967295 % 2 ^ N = 2 ^ N - 1 := by
   have h1 : (2 ^ 32 - 1) % 2 ^ N = 2 ^ N - 1 := by
     apply Nat.eq_of_testBit_eq; intro i
     rw [Nat.testBit_mod_two_pow, Nat.testBit_two_pow_sub_one, Nat.testBit_two_pow_sub_one]
     by_cases hi : i < N
     · have : i < 32 := by omega
       simp [hi, this]
     · simp [hi]
   exact h1
 have e1 : (4294967295 : Int) % 2 ^ N * 2 ^ A % 4294967296 = (((2 ^ N - 1) * 2 ^ A : Nat) : Int) := by
   have h2 : (((4294967295 % 2 ^ N) * 2 ^ A % 4294967296 : Nat) : Int) = (4294967295 : Int) % 2 ^ N * 2 ^ A % 4294967296 := by simp
   rw [← h2, hm, Nat.mod_eq_of_lt (fit _ (by have := Nat.two_pow_pos N; omega))]
 have e2 : (V : Int) % 2 ^ N * 2 ^ A % 4294967296 = ((V % 2 ^ N * 2 ^ A : Nat) : Int) := by
   have h2 : ((V % 2 ^ N * 2 ^ A % 4294967296 : Nat) : Int) = (V : Int) % 2 ^ N * 2 ^ A % 4294967296 := by simp
   rw [← h2, Nat.mod_eq_of_lt (fit _ (Nat.mod_lt _ (Nat.two_pow_pos N)))]
 have f1 := fit (2 ^ N - 1) (by have := Nat.two_pow_pos N; omega)
 have f2 := fit (V % 2 ^ N) (Nat.mod_lt _ (Nat.two_pow_pos N))
 rw [e1, e2, u32_andNot_nat _ _ (by omega) f1, u32_or_nat _ _ (Nat.lt_of_le_of_lt Nat.and_le_left (by omega)) f2]
 have hc := ins_code W A N V (by omega) hAN
 unfold I
 rw [Int.toNat_natCast, Int.toNat_natCast, Int.toNat_natCast, Int.toNat_natCast, ← hc]

theorem S_eq (x n : Int) (hn0 : 1 ≤ n) (hn : n ≤ 32) :
   wrap32 (x * 2 ^ (32 - n).toNat % 4294967296) / 2 ^ (32 - n).toNat = S x n := by
 obtain ⟨m, rfl⟩ := Int.eq_ofNat_of_zero_le (show 0 ≤ n by omega)
 unfold S wrap32
 rcases widths m (by omega) (by omega) with rfl | rfl | rfl | rfl | rfl | rfl | rfl | rfl | rfl | rfl | rfl | rfl | rfl | rfl | rfl | rfl | rfl | rfl | rfl | rfl | rfl | rfl | rfl | rfl | rfl | rfl | rfl | rfl | rfl | rfl | rfl | rfl <;> simp <;> omega

theorem F_eq (x n : Int) (h0 : -2147483648 ≤ x) (h1 : x < 2147483648) (hn0 : 1 ≤ n) (hn : n ≤ 32) :
   (IntKind.u64.wrap (wrap64 (x + wrap64 (2 ^ (n.toNat - 1)))) % 2 ^ n.toNat == IntKind.u64.wrap (wrap64 (x + wrap64 (2 ^ (n.toNat - 1))))) = F x n := by
 obtain ⟨m, rfl⟩ := Int.eq_ofNat_of_zero_le (show 0 ≤ n by omega)
 rw [Bool.eq_iff_iff]
 unfold F wrap64
 rw [IntKind.wrap_u64, beq_iff_eq, decide_eq_true_eq]
 rcases widths m (by omega) (by omega) with rfl | rfl | rfl | rfl | rfl | rfl | rfl | rfl | rfl | rfl | rfl | rfl | rfl | rfl | rfl | rfl | rfl | rfl | rfl | rfl | rfl | rfl | rfl | rfl | rfl | rfl | rfl | rfl | rfl | rfl | rfl | rfl <;> simp <;> omega

theorem L_eq (x n : Int) (hn0 : 1 ≤ n) (hn : n ≤ 32) : x % 4294967296 % 2 ^ n.toNat = L x n := by
 unfold L
 obtain ⟨m, rfl⟩ := Int.eq_ofNat_of_zero_le (show 0 ≤ n by omega)
 apply Int.emod_emod_of_dvd
 have e : (4294967296 : Int) = 2 ^ m * 2 ^ (32 - m) := by rw [← Int.pow_add, show m + (32 - m) = 32 by omega]; rfl
 rw [e]; exact Int.dvd_mul_right _ _

end Go.Proofs.YtclpdjpaaagkdaaGreatDoor.Is.M
namespace Go.Proofs.YtclpdjpaaagkdaaGreatDoor.Is
open Go.ChangeShapes Go.WideShapes Go.ChangeAt Go.RowKit
set_option linter.unusedVariables false

theorem ret_bool {a b : Bool} (h : a = b) : Ending.returned (.bool a) = .returned (.bool b) := by rw [h]
theorem ret_int {k : IntKind} {a b : Int} (h : a = b) : Ending.returned (.int k a) = .returned (.int k b) := by rw [h]

set_option maxHeartbeats 400000 in
theorem keep32 (x n : Int) (W : World) (hx0 : 0 ≤ x) (hx : x < 4294967296) (hn0 : 0 ≤ n) (hn : n ≤ 32) :
   Calls Tryz.prog 131 #[.int .u32 x, .int .i64 n] W fun e W' => e = .returned (.int .u32 (x % 2 ^ n.toNat)) ∧ W = W' := by
 go_enter Tryz.func131, Tryz.ntmps131
 go_wp2
 go_ret
 exact ⟨ret_int (M.and32 x n hx0 hx hn), rfl⟩

set_option maxHeartbeats 400000 in
theorem keep64 (x n : Int) (W : World) (hx0 : 0 ≤ x) (hx : x < 18446744073709551616) (hn0 : 0 ≤ n) (hn : n ≤ 32) :
   Calls Tryz.prog 157 #[.int .u64 x, .int .i64 n] W fun e W' => e = .returned (.int .u64 (x % 2 ^ n.toNat)) ∧ W = W' := by
 have H := M.and64 x n hx0 hx hn
 have HH := Lib.hid H
 clear H hx
 go_enter Tryz.func157, Tryz.ntmps157
 go_wp2
 go_ret
 exact ⟨ret_int HH.out, rfl⟩

set_option maxHeartbeats 400000 in
theorem extract (w a n : Int) (W : World) (hx0 : 0 ≤ w) (hx : w < 4294967296) (ha0 : 0 ≤ a) (hn0 : 0 ≤ n) (hn : a + n ≤ 32) :
   Calls Tryz.prog 100 #[.int .u32 w, .int .i64 a, .int .i64 n] W fun e W' => e = .returned (.int .u32 (M.E w a n)) ∧ W = W' := by
 have h1 : 0 ≤ w / 2 ^ a.toNat := Int.ediv_nonneg hx0 (Int.le_of_lt (M.pow_pos32 a))
 have h2 : w / 2 ^ a.toNat < 4294967296 := Int.lt_of_le_of_lt (Int.ediv_le_self _ hx0) hx
 go_enter Tryz.func100, Tryz.ntmps100
 go_wp2_with (go_at_call 131; refine (keep32 _ _ _ (by assumption) (by assumption) (by omega) (by omega)).mono ?_; rintro e w' ⟨rfl, rfl⟩)
 go_ret
 exact ⟨ret_int (M.E_eq w a n hx0), rfl⟩

set_option maxHeartbeats 400000 in
theorem insert (w a n v : Int) (W : World) (hx0 : 0 ≤ w) (hx : w < 4294967296) (hv0 : 0 ≤ v) (hv : v < 4294967296) (ha0 : 0 ≤ a) (hn0 : 0 ≤ n) (hn : a + n ≤ 32) :
   Calls Tryz.prog 132 #[.int .u32 w, .int .i64 a, .int .i64 n, .int .u32 v] W fun e W' => e = .returned (.int .u32 (M.I w a n v)) ∧ W = W' := by
 go_enter Tryz.func132, Tryz.ntmps132
 go_wp2_with (go_at_call 131; refine (keep32 _ _ _ (by omega) (by omega) (by omega) (by omega)).mono ?_; rintro e w' ⟨rfl, rfl⟩)
 go_ret
 exact ⟨ret_int (M.I_eq w a n v hx0 hx hv0 ha0 hn0 hn), rfl⟩

set_option maxHeartbeats 400000 in
theorem signExtend (x n : Int) (W : World) (hx0 : 0 ≤ x) (hx : x < 4294967296) (hn0 : 1 ≤ n) (hn : n ≤ 32) :
   Calls Tryz.prog 102 #[.int .u32 x, .int .i64 n] W fun e W' => e = .returned (.int .i32 (M.S x n)) ∧ W = W' := by
 go_enter Tryz.func102, Tryz.ntmps102
 go_wp2
 go_ret
 exact ⟨ret_int (M.S_eq x n hn0 hn), rfl⟩

theorem u64_range (y : Int) : 0 ≤ IntKind.u64.wrap y ∧ IntKind.u64.wrap y < 18446744073709551616 := by rw [IntKind.wrap_u64]; omega

set_option maxHeartbeats 400000 in
theorem fitsSigned (x n : Int) (W : World) (hx0 : -2147483648 ≤ x) (hx : x < 2147483648) (hn0 : 1 ≤ n) (hn : n ≤ 32) :
   Calls Tryz.prog 139 #[.int .i32 x, .int .i64 n] W fun e W' => e = .returned (.bool (M.F x n)) ∧ W = W' := by
 go_enter Tryz.func139, Tryz.ntmps139
 go_wp2_with fail
 refine (keep64 _ _ _ (u64_range _).1 (u64_range _).2 (by omega) (by omega)).mono ?_
 rintro e w' ⟨rfl, rfl⟩
 go_wp2
 go_ret
 exact ⟨ret_bool (M.F_eq x n hx0 hx hn0 hn), rfl⟩

set_option maxHeartbeats 400000 in
theorem lowBits (x n : Int) (W : World) (hx0 : -2147483648 ≤ x) (hx : x < 2147483648) (hn0 : 1 ≤ n) (hn : n ≤ 32) :
   Calls Tryz.prog 133 #[.int .i32 x, .int .i64 n] W fun e W' => e = .returned (.int .u32 (M.L x n)) ∧ W = W' := by
 go_enter Tryz.func133, Tryz.ntmps133
 go_wp2_with (go_at_call 131; refine (keep32 _ _ _ (by omega) (by omega) (by omega) (by omega)).mono ?_; rintro e w' ⟨rfl, rfl⟩)
 go_ret
 exact ⟨ret_int (M.L_eq x n hn0 hn), rfl⟩

end Go.Proofs.YtclpdjpaaagkdaaGreatDoor.Is
namespace Go.Proofs.YtclpdjpaaagkdaaGreatDoor.Is.M
open Go.RowKit

theorem E_rng (w a n : Int) (hn : n ≤ 32) : 0 ≤ E w a n ∧ E w a n < 4294967296 := by
 have h := ext_lt w.toNat a.toNat n.toNat
 have h2 : 2 ^ n.toNat ≤ 2 ^ 32 := Nat.pow_le_pow_right (by decide) (by omega)
 unfold E; omega

theorem I_rng (w a n v : Int) (hw : w < 4294967296) (ha : 0 ≤ a) (hn : 0 ≤ n) (h : a + n ≤ 32) : 0 ≤ I w a n v ∧ I w a n v < 4294967296 := by
 have h := ins_lt w.toNat a.toNat n.toNat v.toNat 32 (by omega) (by omega)
 unfold I; omega

theorem E_I (w a n v : Int) : E (I w a n v) a n = E v 0 n := by
 unfold E I; rw [Int.toNat_natCast, ext_ins]; rfl

theorem E_apart (w a n v b m : Int) (ha : 0 ≤ a) (hn : 0 ≤ n) (hb : 0 ≤ b) (hm : 0 ≤ m) (h : a + n ≤ b ∨ b + m ≤ a) : E (I w a n v) b m = E w b m := by
 unfold E I; rw [Int.toNat_natCast, ext_apart _ _ _ _ _ _ (by omega)]

theorem L_rng (x n : Int) (hn : n ≤ 32) : 0 ≤ L x n ∧ L x n < 4294967296 := by
 have h1 := pow_le32 n hn
 have h2 := pow_pos32 n
 have h3 := Int.emod_nonneg x (show (2 : Int) ^ n.toNat ≠ 0 by omega)
 have h4 := Int.emod_lt_of_pos x h2
 unfold L; omega

theorem S_rng (v n : Int) (hn0 : 1 ≤ n) (hn : n ≤ 32) : -2147483648 ≤ S v n ∧ S v n < 2147483648 := by
 obtain ⟨m, rfl⟩ := Int.eq_ofNat_of_zero_le (show 0 ≤ n by omega)
 unfold S
 rcases widths m (by omega) (by omega) with rfl | rfl | rfl | rfl | rfl | rfl | rfl | rfl | rfl | rfl | rfl | rfl | rfl | rfl | rfl | rfl | rfl | rfl | rfl | rfl | rfl | rfl | rfl | rfl | rfl | rfl | rfl | rfl | rfl | rfl | rfl | rfl <;> simp <;> omega

end Go.Proofs.YtclpdjpaaagkdaaGreatDoor.Is.M
namespace Go.Proofs.YtclpdjpaaagkdaaGreatDoor.Is.M
open Go.RowKit

def form (op : Int) : Int :=
 if 1 ≤ op ∧ op ≤ 8 then 1
 else if op = 10 ∨ op = 18 then 3
 else if 9 ≤ op ∧ op ≤ 19 then 2
 else if op = 20 ∨ op = 23 ∨ op = 24 then 4
 else if op = 21 then 5
 else if op = 22 then 6
 else if op = 25 then 7
 else 0

def hasRd (f : Int) : Bool := f == 1 || f == 2 || f == 3 || f == 5
def hasRa (f : Int) : Bool := f == 1 || f == 2 || f == 6 || f == 7
def hasRb (f : Int) : Bool := f == 1
def hasImm (f : Int) : Bool := f == 2 || f == 3
def hasCsr (f : Int) : Bool := f == 5 || f == 6

def priv (op : Int) : Bool := decide (21 ≤ op ∧ op ≤ 25)

def okReg (r : Int) (has : Bool) : Bool := if has then decide (0 ≤ r ∧ r ≤ 15) else r == 0
def okImm (x : Int) (imm csr : Bool) : Bool := if imm then F x 18 else if csr then decide (0 ≤ x ∧ x ≤ 11) else x == 0

def ok (op rd ra rb imm : Int) : Bool :=
 form op != 0 && (okReg rd (hasRd (form op)) && okReg ra (hasRa (form op)) && okReg rb (hasRb (form op)) && okImm imm (hasImm (form op)) (hasCsr (form op)))

def word (op rd ra rb imm : Int) : Int :=
 op * 67108864 + rd * 4194304 + ra * 262144 + (if form op = 1 then rb else imm % 262144)

def dOp (w : Int) : Int := w / 67108864
def dRd (w : Int) : Int := w / 4194304 % 16
def dRa (w : Int) : Int := w / 262144 % 16
def dRb (w : Int) : Int := if form (dOp w) = 1 then w % 16 else 0
def dImm (w : Int) : Int := if form (dOp w) = 1 then 0 else S w 18

def dok (w : Int) : Bool := ok (dOp w) (dRd w) (dRa w) (dRb w) (dImm w) && word (dOp w) (dRd w) (dRa w) (dRb w) (dImm w) == w

theorem form_rng (op : Int) : 0 ≤ form op ∧ form op ≤ 7 := by
 unfold form
 repeat' split
 all_goals omega

theorem form_zero (op : Int) (h : op < 0 ∨ 25 < op) : form op = 0 := by
 unfold form
 repeat' split
 all_goals omega

theorem ok_eq (op rd ra rb imm : Int) (h : (form op == 0) = false) :
   ok op rd ra rb imm = (okReg rd (hasRd (form op)) && okReg ra (hasRa (form op)) && okReg rb (hasRb (form op)) && okImm imm (hasImm (form op)) (hasCsr (form op))) := by
 unfold ok; simp [bne, h]

theorem okReg_rng (r : Int) (b : Bool) (h : okReg r b = true) : 0 ≤ r ∧ r ≤ 15 := by
 unfold okReg at h
 cases b <;> simp at h <;> omega

theorem okImm_rng (x : Int) (a b : Bool) (h : okImm x a b = true) : -131072 ≤ x ∧ x < 131072 := by
 unfold okImm F at h
 cases a <;> cases b <;> simp at h <;> omega

theorem ok_rng (op rd ra rb imm : Int) (h : ok op rd ra rb imm = true) :
   (1 ≤ op ∧ op ≤ 25) ∧ (0 ≤ rd ∧ rd ≤ 15) ∧ (0 ≤ ra ∧ ra ≤ 15) ∧ (0 ≤ rb ∧ rb ≤ 15) ∧ (-131072 ≤ imm ∧ imm < 131072) := by
 unfold ok at h
 simp only [Bool.and_eq_true] at h
 obtain ⟨h0, ⟨⟨h1, h2⟩, h3⟩, h4⟩ := h
 refine ⟨?_, okReg_rng _ _ h1, okReg_rng _ _ h2, okReg_rng _ _ h3, okImm_rng _ _ _ h4⟩
 have := form_zero op
 have h5 : form op ≠ 0 := by simpa using h0
 by_cases hz : op = 0
 · rw [hz] at h5; exact absurd rfl h5
 · omega

theorem four (x : Int) (h0 : 0 ≤ x) (h : x < 4294967296) : x = E x 26 6 * 67108864 + E x 22 4 * 4194304 + E x 18 4 * 262144 + E x 0 18 := by
 rw [← E_eq _ _ _ h0, ← E_eq _ _ _ h0, ← E_eq _ _ _ h0, ← E_eq _ _ _ h0]; simp; omega
theorem five (x : Int) (h0 : 0 ≤ x) (h : x < 4294967296) : x = E x 26 6 * 67108864 + E x 22 4 * 4194304 + E x 18 4 * 262144 + E x 4 14 * 16 + E x 0 4 := by
 rw [← E_eq _ _ _ h0, ← E_eq _ _ _ h0, ← E_eq _ _ _ h0, ← E_eq _ _ _ h0, ← E_eq _ _ _ h0]; simp; omega

def head (op rd ra : Int) : Int := I (I (I 0 26 6 op) 22 4 rd) 18 4 ra

theorem head_rng (op rd ra : Int) : 0 ≤ head op rd ra ∧ head op rd ra < 4294967296 := by
 unfold head
 have h1 := I_rng 0 26 6 op (by decide) (by decide) (by decide) (by decide)
 have h2 := I_rng (I 0 26 6 op) 22 4 rd h1.2 (by decide) (by decide) (by decide)
 exact I_rng _ 18 4 ra h2.2 (by decide) (by decide) (by decide)

theorem E_low (x n : Int) (h0 : 0 ≤ x) (h : x < 2 ^ n.toNat) : E x 0 n = x := by
 rw [← E_eq _ _ _ h0]; simp [Int.emod_eq_of_lt h0 h]

theorem head_E (op rd ra : Int) (ho : 1 ≤ op ∧ op ≤ 25) (hd : 0 ≤ rd ∧ rd ≤ 15) (ha : 0 ≤ ra ∧ ra ≤ 15) :
   E (head op rd ra) 26 6 = op ∧ E (head op rd ra) 22 4 = rd ∧ E (head op rd ra) 18 4 = ra ∧ E (head op rd ra) 4 14 = 0 := by
 unfold head
 refine ⟨?_, ?_, ?_, ?_⟩
 · rw [E_apart _ _ _ _ _ _ (by decide) (by decide) (by decide) (by decide) (by decide), E_apart _ _ _ _ _ _ (by decide) (by decide) (by decide) (by decide) (by decide), E_I, E_low _ _ (by omega) (by simp; omega)]
 · rw [E_apart _ _ _ _ _ _ (by decide) (by decide) (by decide) (by decide) (by decide), E_I, E_low _ _ (by omega) (by simp; omega)]
 · rw [E_I, E_low _ _ (by omega) (by simp; omega)]
 · rw [E_apart _ _ _ _ _ _ (by decide) (by decide) (by decide) (by decide) (by decide), E_apart _ _ _ _ _ _ (by decide) (by decide) (by decide) (by decide) (by decide), E_apart _ _ _ _ _ _ (by decide) (by decide) (by decide) (by decide) (by decide)]
   decide

theorem pack_rb (op rd ra rb imm : Int) (h : ok op rd ra rb imm = true) (hf : form op = 1) : I (head op rd ra) 0 4 rb = word op rd ra rb imm := by
 obtain ⟨ho, hd, ha, hb, hi⟩ := ok_rng _ _ _ _ _ h
 obtain ⟨e1, e2, e3, e4⟩ := head_E op rd ra ho hd ha
 have r := head_rng op rd ra
 have r2 := I_rng (head op rd ra) 0 4 rb r.2 (by decide) (by decide) (by decide)
 rw [five (I (head op rd ra) 0 4 rb) r2.1 r2.2]
 rw [E_apart _ 0 4 _ 26 6 (by decide) (by decide) (by decide) (by decide) (by decide), E_apart _ 0 4 _ 22 4 (by decide) (by decide) (by decide) (by decide) (by decide), E_apart _ 0 4 _ 18 4 (by decide) (by decide) (by decide) (by decide) (by decide), E_apart _ 0 4 _ 4 14 (by decide) (by decide) (by decide) (by decide) (by decide), E_I, e1, e2, e3, e4, E_low rb 4 hb.1 (by simp; omega)]
 unfold word
 rw [if_pos hf]; omega

theorem pack_imm (op rd ra rb imm : Int) (h : ok op rd ra rb imm = true) (hf : form op ≠ 1) : I (head op rd ra) 0 18 (L imm 18) = word op rd ra rb imm := by
 obtain ⟨ho, hd, ha, hb, hi⟩ := ok_rng _ _ _ _ _ h
 obtain ⟨e1, e2, e3, e4⟩ := head_E op rd ra ho hd ha
 have r := head_rng op rd ra
 have r2 := I_rng (head op rd ra) 0 18 (L imm 18) r.2 (by decide) (by decide) (by decide)
 have hl : L imm 18 = imm % 262144 := rfl
 rw [four (I (head op rd ra) 0 18 (L imm 18)) r2.1 r2.2]
 rw [E_apart _ 0 18 _ 26 6 (by decide) (by decide) (by decide) (by decide) (by decide), E_apart _ 0 18 _ 22 4 (by decide) (by decide) (by decide) (by decide) (by decide), E_apart _ 0 18 _ 18 4 (by decide) (by decide) (by decide) (by decide) (by decide), E_I, e1, e2, e3, E_low _ 18 (by omega) (by simp; omega), hl]
 unfold word
 rw [if_neg hf]

theorem hasRb_form (op : Int) : (form op = 1 ∧ hasRb (form op) = true) ∨ (form op ≠ 1 ∧ hasRb (form op) = false) := by
 unfold hasRb
 by_cases h : form op = 1
 · exact .inl ⟨h, by simp [h]⟩
 · exact .inr ⟨h, by simp [h]⟩

theorem E_op (w : Int) (h0 : 0 ≤ w) (h : w < 4294967296) : E w 26 6 = dOp w := by
 rw [← E_eq _ _ _ h0]; unfold dOp; simp; omega
theorem E_rd (w : Int) (h0 : 0 ≤ w) : E w 22 4 = dRd w := by
 rw [← E_eq _ _ _ h0]; unfold dRd; simp
theorem E_ra (w : Int) (h0 : 0 ≤ w) : E w 18 4 = dRa w := by
 rw [← E_eq _ _ _ h0]; unfold dRa; simp
theorem E_rb (w : Int) (h0 : 0 ≤ w) (hf : form (dOp w) = 1) : E w 0 4 = dRb w := by
 rw [← E_eq _ _ _ h0]; unfold dRb; rw [if_pos hf]; simp
theorem E_imm (w : Int) (h0 : 0 ≤ w) (hf : form (dOp w) ≠ 1) : S (E w 0 18) 18 = dImm w := by
 rw [← E_eq _ _ _ h0]; unfold dImm S; rw [if_neg hf]; simp

theorem dImm_0 (w : Int) (hf : form (dOp w) = 1) : 0 = dImm w := by unfold dImm; rw [if_pos hf]
theorem dRb_0 (w : Int) (hf : form (dOp w) ≠ 1) : 0 = dRb w := by unfold dRb; rw [if_neg hf]

theorem form_none (op : Int) (h : ¬ (1 ≤ op ∧ op ≤ 25)) : form op = 0 := by
 by_cases hz : op = 0
 · rw [hz]; rfl
 · exact form_zero op (by omega)
theorem plain_op {op rd ra rb imm : Int} (h : ok op rd ra rb imm = true) (hp : priv op = false) : 1 ≤ op ∧ op ≤ 20 := by
 have h1 : form op ≠ 0 := by
   intro e
   unfold ok at h
   rw [e] at h
   simp at h
 have h2 : ¬ (21 ≤ op ∧ op ≤ 25) := by unfold priv at hp; simpa using hp
 unfold form at h1
 by_cases h3 : 1 ≤ op ∧ op ≤ 8
 · omega
 · rw [if_neg h3] at h1
   by_cases h4 : op = 10 ∨ op = 18
   · omega
   · rw [if_neg h4] at h1
     by_cases h5 : 9 ≤ op ∧ op ≤ 19
     · omega
     · rw [if_neg h5] at h1
       by_cases h6 : op = 20 ∨ op = 23 ∨ op = 24
       · omega
       · rw [if_neg h6] at h1
         by_cases h7 : op = 21
         · omega
         · rw [if_neg h7] at h1
           by_cases h8 : op = 22
           · omega
           · rw [if_neg h8] at h1
             by_cases h9 : op = 25
             · omega
             · rw [if_neg h9] at h1
               exact absurd rfl h1
end Go.Proofs.YtclpdjpaaagkdaaGreatDoor.Is.M
namespace Go.Proofs.YtclpdjpaaagkdaaGreatDoor.Is
open Go.ChangeShapes Go.WideShapes Go.ChangeAt Go.RowKit
set_option linter.unusedVariables false

theorem pow_step (k : Nat) (hk : k < 32) : IntKind.u64.wrap ((2 : Int) ^ k * 2) = 2 ^ (k + 1) := by
 rw [IntKind.wrap_u64, Int.pow_succ]
 have h : (2 : Nat) ^ k ≤ 2 ^ 32 := Nat.pow_le_pow_right (by decide) (by omega)
 have h2 : ((2 ^ k : Nat) : Int) = (2 : Int) ^ k := M.cast_pow k
 have h3 := Nat.two_pow_pos k
 omega

set_option maxHeartbeats 400000 in
theorem pow (n : Int) (W : World) (hn0 : 0 ≤ n) (hn : n ≤ 32) :
   Calls Tryz.prog 59 #[.int .i64 n] W fun e W' => e = .returned (.int .u64 (2 ^ n.toNat)) ∧ W = W' := by
 go_enter Tryz.func59, Tryz.ntmps59
 go_wp2
 go_loop [3, 4] (fun p i => ∃ k : Nat, k ≤ n.toNat ∧ i = .int .i64 k ∧ p = .int .u64 (2 ^ k)) (fun _ i => n.toNat - (intOf i).toNat)
 case atStart => exact ⟨0, by omega, rfl, rfl⟩
 case round =>
   obtain ⟨k, hk, rfl, rfl⟩ := hrel
   by_cases hlt : (k : Int) < n
   · have HS := Lib.hid (pow_step k (by omega))
     go_wp2
     go_round
     case rel => exact ⟨k + 1, by omega, by go_num, by rw [HS.out]⟩
     case measure => simp [intOf]; omega
   · obtain rfl : n = k := by omega
     go_wp2
     go_ret
     exact ⟨rfl, rfl⟩

theorem pow_q (n : Int) (W : World) (hn0 : 0 ≤ n) (hn : n ≤ 32) :
   Calls Tryz.prog 59 #[.int .i64 n] W fun e W' => e = .returned (.int .u64 (2 ^ n.toNat)) ∧ W' = W :=
 (pow n W hn0 hn).mono fun _ _ ⟨he, hw⟩ => ⟨he, hw.symm⟩

theorem field_eq (w a n : Int) (hx0 : 0 ≤ w) (hx : w < 4294967296) (hn : n ≤ 32) :
   (IntKind.u64.wrap (w.tdiv (2 ^ a.toNat))).tmod (2 ^ n.toNat) % 4294967296 = M.E w a n := by
 have h1 : 0 ≤ w / 2 ^ a.toNat := Int.ediv_nonneg hx0 (Int.le_of_lt (M.pow_pos32 a))
 have h2 : w / 2 ^ a.toNat < 4294967296 := Int.lt_of_le_of_lt (Int.ediv_le_self _ hx0) hx
 have r := M.E_rng w a n hn
 rw [Int.tdiv_eq_ediv_of_nonneg hx0, IntKind.wrap_u64, Int.emod_eq_of_lt h1 (by omega), Int.tmod_eq_emod_of_nonneg h1, M.E_eq _ _ _ hx0]
 omega

set_option maxHeartbeats 400000 in
theorem field (w a n : Int) (W : World) (hx0 : 0 ≤ w) (hx : w < 4294967296) (ha0 : 0 ≤ a) (ha : a ≤ 32) (hn0 : 0 ≤ n) (hn : n ≤ 32) :
   Calls Tryz.prog 37 #[.int .u32 w, .int .i64 a, .int .i64 n] W fun e W' => e = .returned (.int .u32 (M.E w a n)) ∧ ∃ q, W' = W.drewN q := by
 have p1 : (2 : Int) ^ a.toNat ≠ 0 := by have := M.pow_pos32 a; omega
 have p2 : (2 : Int) ^ n.toNat ≠ 0 := by have := M.pow_pos32 n; omega
 go_enter Tryz.func37, Tryz.ntmps37
 go_wp2
 go_quiet ((go_at_call 59; exact Calls.quiet_of_same (pow_q _ _ (by omega) (by omega))))
 go_wp2
 go_ret
 exact ⟨ret_int (field_eq w a n hx0 hx hn), nq, rfl⟩

theorem sign_eq (v n : Int) (hv0 : 0 ≤ v) (hn : n ≤ 32) : M.E v 0 n = v % 2 ^ n.toNat := by
 rw [← M.E_eq _ _ _ hv0]; simp

theorem S_hi (v n : Int) (hv0 : 0 ≤ v) (hn0 : 1 ≤ n) (hn : n ≤ 32) (h : 2 ^ (n.toNat - 1) ≤ M.E v 0 n) : M.E v 0 n - 2 ^ n.toNat = M.S v n := by
 rw [sign_eq v n hv0 hn] at h ⊢
 unfold M.S; rw [if_pos h]

theorem S_lo (v n : Int) (hv0 : 0 ≤ v) (hn0 : 1 ≤ n) (hn : n ≤ 32) (h : ¬ 2 ^ (n.toNat - 1) ≤ M.E v 0 n) : M.E v 0 n = M.S v n := by
 rw [sign_eq v n hv0 hn] at h ⊢
 unfold M.S; rw [if_neg h]

theorem half_rng (n : Int) (hn0 : 1 ≤ n) (hn : n ≤ 32) : 0 < (2 : Int) ^ (n.toNat - 1) ∧ (2 : Int) ^ (n.toNat - 1) ≤ 2147483648 := by
 have h : (2 : Nat) ^ (n.toNat - 1) ≤ 2 ^ 31 := Nat.pow_le_pow_right (by decide) (by omega)
 have h2 : ((2 ^ (n.toNat - 1) : Nat) : Int) = (2 : Int) ^ (n.toNat - 1) := M.cast_pow _
 have h3 := Nat.two_pow_pos (n.toNat - 1)
 omega

theorem wrap32_in (x : Int) (h : -2147483648 ≤ x ∧ x < 2147483648) : wrap32 x = x := by unfold wrap32; omega

set_option maxHeartbeats 400000 in
theorem sign (v n : Int) (W : World) (hv0 : 0 ≤ v) (hv : v < 4294967296) (hn0 : 1 ≤ n) (hn : n ≤ 32) :
   Calls Tryz.prog 73 #[.int .u32 v, .int .i64 n] W fun e W' => e = .returned (.int .i32 (M.S v n)) ∧ ∃ q, W' = W.drewN q := by
 have r1 := M.E_rng v 0 n hn
 have r3 := M.pow_le32 n hn
 have r4 := M.pow_pos32 n
 have r5 := half_rng n hn0 hn
 by_cases h : 2 ^ (n.toNat - 1) ≤ M.E v 0 n
 · have HE := Lib.hid (S_hi v n hv0 hn0 hn h)
   have HR := Lib.hid (M.S_rng v n hn0 hn)
   go_enter Tryz.func73, Tryz.ntmps73
   go_wp2_with (first
     | (go_at_call 37; refine (field _ _ _ _ (by omega) (by omega) (by omega) (by omega) (by omega) (by omega)).mono ?_; rintro e w' ⟨rfl, q1, rfl⟩)
     | (go_at_call 59; refine (pow _ _ (by omega) (by omega)).mono ?_; rintro e w' ⟨rfl, rfl⟩))
   go_ret
   exact ⟨ret_int (by rw [HE.out, wrap32_in _ HR.out]), _, rfl⟩
 · have HE := Lib.hid (S_lo v n hv0 hn0 hn h)
   go_enter Tryz.func73, Tryz.ntmps73
   go_wp2_with (first
     | (go_at_call 37; refine (field _ _ _ _ (by omega) (by omega) (by omega) (by omega) (by omega) (by omega)).mono ?_; rintro e w' ⟨rfl, q1, rfl⟩)
     | (go_at_call 59; refine (pow _ _ (by omega) (by omega)).mono ?_; rintro e w' ⟨rfl, rfl⟩))
   go_ret
   exact ⟨ret_int HE.out, _, rfl⟩

theorem F_no1 (x n : Int) (h : x < -2 ^ (n.toNat - 1)) : false = M.F x n := by
 symm; unfold M.F; rw [decide_eq_false_iff_not]; exact fun c => Int.not_le.2 h c.1
theorem F_no2 (x n : Int) (h : 2 ^ (n.toNat - 1) ≤ x) : false = M.F x n := by
 symm; unfold M.F; rw [decide_eq_false_iff_not]; exact fun c => Int.not_lt.2 h c.2
theorem F_yes (x n : Int) (h1 : -2 ^ (n.toNat - 1) ≤ x) (h2 : x < 2 ^ (n.toNat - 1)) : true = M.F x n := by
 symm; unfold M.F; rw [decide_eq_true_eq]; exact ⟨h1, h2⟩

set_option maxHeartbeats 400000 in
theorem fits (x n : Int) (W : World) (hx0 : -2147483648 ≤ x) (hx : x < 2147483648) (hn0 : 1 ≤ n) (hn : n ≤ 32) :
   Calls Tryz.prog 127 #[.int .i32 x, .int .i64 n] W fun e W' => e = .returned (.bool (M.F x n)) ∧ W = W' := by
 have r5 := half_rng n hn0 hn
 by_cases h1 : -2 ^ (n.toNat - 1) ≤ x
 · by_cases h2 : x < 2 ^ (n.toNat - 1)
   · go_enter Tryz.func127, Tryz.ntmps127
     go_wp2_with (go_at_call 59; refine (pow _ _ (by omega) (by omega)).mono ?_; rintro e w' ⟨rfl, rfl⟩)
     go_ret
     exact ⟨ret_bool (F_yes x n h1 h2), rfl⟩
   · go_enter Tryz.func127, Tryz.ntmps127
     go_wp2_with (go_at_call 59; refine (pow _ _ (by omega) (by omega)).mono ?_; rintro e w' ⟨rfl, rfl⟩)
     go_ret
     exact ⟨ret_bool (by rw [decide_eq_false (Int.not_lt.2 h2)]; exact F_no2 x n h2), rfl⟩
 · go_enter Tryz.func127, Tryz.ntmps127
   go_wp2_with (go_at_call 59; refine (pow _ _ (by omega) (by omega)).mono ?_; rintro e w' ⟨rfl, rfl⟩)
   go_ret
   exact ⟨ret_bool (F_no1 x n h1), rfl⟩

theorem low_eq (x y n : Int) (hn0 : 1 ≤ n) (hn : n ≤ 32) (e : x % 4294967296 = y) : y % 2 ^ n.toNat % 4294967296 = M.L x n := by
 have h := M.L_eq x n hn0 hn
 rw [e] at h
 have r := M.L_rng x n hn
 rw [h]
 omega

set_option maxHeartbeats 400000 in
theorem low (x n : Int) (W : World) (hx0 : -2147483648 ≤ x) (hx : x < 2147483648) (hn0 : 1 ≤ n) (hn : n ≤ 32) :
   Calls Tryz.prog 96 #[.int .i32 x, .int .i64 n] W fun e W' => e = .returned (.int .u32 (M.L x n)) ∧ W = W' := by
 have p1 : (2 : Int) ^ n.toNat ≠ 0 := by have := M.pow_pos32 n; omega
 by_cases h1 : x < 0
 · go_enter Tryz.func96, Tryz.ntmps96
   go_wp2_with (go_at_call 59; refine (pow _ _ (by omega) (by omega)).mono ?_; rintro e w' ⟨rfl, rfl⟩)
   go_ret
   exact ⟨ret_int (low_eq x _ n hn0 hn (by omega)), rfl⟩
 · go_enter Tryz.func96, Tryz.ntmps96
   go_wp2_with (go_at_call 59; refine (pow _ _ (by omega) (by omega)).mono ?_; rintro e w' ⟨rfl, rfl⟩)
   go_ret
   exact ⟨ret_int (low_eq x _ n hn0 hn (by omega)), rfl⟩

end Go.Proofs.YtclpdjpaaagkdaaGreatDoor.Is
namespace Go.Proofs.YtclpdjpaaagkdaaGreatDoor.Is
open Go.ChangeShapes Go.WideShapes Go.ChangeAt Go.RowKit
set_option linter.unusedVariables false

structure Tabs (W : World) : Prop where
 sizeF : 1 < W.heap.size
 sizeO : 0 < W.heap.size
 form : ∀ i : Int, 0 ≤ i → i ≤ 25 → W.cell? ⟨1, i.toNat, none⟩ = some (.int .i64 (M.form i))
 rd : ∀ f : Int, 0 ≤ f → f ≤ 7 → W.cell? ⟨0, f.toNat * 5, none⟩ = some (.bool (M.hasRd f))
 ra : ∀ f : Int, 0 ≤ f → f ≤ 7 → W.cell? ⟨0, f.toNat * 5 + 1, none⟩ = some (.bool (M.hasRa f))
 rb : ∀ f : Int, 0 ≤ f → f ≤ 7 → W.cell? ⟨0, f.toNat * 5 + 2, none⟩ = some (.bool (M.hasRb f))
 imm : ∀ f : Int, 0 ≤ f → f ≤ 7 → W.cell? ⟨0, f.toNat * 5 + 3, none⟩ = some (.bool (M.hasImm f))
 csr : ∀ f : Int, 0 ≤ f → f ≤ 7 → W.cell? ⟨0, f.toNat * 5 + 4, none⟩ = some (.bool (M.hasCsr f))

structure Up (W W' : World) : Prop where
 below : Below W.heap.size W W'
 frozen : ∀ a, W'.frozen? a = W.frozen? a
theorem Up.size {W W' : World} (h : Up W W') : W.heap.size ≤ W'.heap.size := h.below.size
theorem Up.refl (W : World) : Up W W := ⟨Below.refl _ _, fun _ => rfl⟩
theorem Up.trans {a b c : World} (h : Up a b) (k : Up b c) : Up a c := ⟨Below.trans h.below (Below.mono k.below h.size), fun x => (k.frozen x).trans (h.frozen x)⟩
theorem Up.cell {W W' : World} (h : Up W W') {p : Addr} (hp : p.block < W.heap.size) : W'.cell? p = W.cell? p := Below.cell h.below hp
theorem Tabs.upb {W W' : World} (h : Tabs W) (k : Below W.heap.size W W') : Tabs W' :=
 ⟨Nat.lt_of_lt_of_le h.sizeF k.size, Nat.lt_of_lt_of_le h.sizeO k.size, fun i a b => (k.cell h.sizeF).trans (h.form i a b), fun i a b => (k.cell h.sizeO).trans (h.rd i a b), fun i a b => (k.cell h.sizeO).trans (h.ra i a b), fun i a b => (k.cell h.sizeO).trans (h.rb i a b), fun i a b => (k.cell h.sizeO).trans (h.imm i a b), fun i a b => (k.cell h.sizeO).trans (h.csr i a b)⟩
theorem Tabs.up {W W' : World} (h : Tabs W) (k : Up W W') : Tabs W' := h.upb k.below

theorem Up.alloc {a w : World} (h : Up a w) (c : Array Value) {t : TypeId} : Up a (w.alloc (.cells c t)) := ⟨Below.alloc h.below h.size _, fun x => (frozen?_alloc_cells _ _ _ x).trans (h.frozen x)⟩
theorem Up.setCell {a w : World} (h : Up a w) {p : Addr} (hp : a.heap.size ≤ p.block) (u : Value) : Up a (w.setCell p u) := ⟨Below.setCell h.below hp u, fun x => (World.frozen?_setCell w p x u).trans (h.frozen x)⟩
theorem Up.drewN {a w : World} (h : Up a w) (n : Nat) : Up a (w.drewN n) := ⟨⟨h.below.os, h.below.tape, h.below.output, h.below.size, h.below.block⟩, h.frozen⟩

theorem lt_of_cell {w : World} {p : Addr} {v : Value} (h : w.cell? p = some v) : p.block < w.heap.size := by
 by_cases hb : p.block < w.heap.size
 · exact hb
 · have : w.heap[p.block]? = none := Array.getElem?_eq_none (by omega)
   simp [World.cell?, this] at h

theorem Up.keep {w w' : World} (h : Up w w') {p : Addr} {v : Value} (hc : w.cell? p = some v) : w'.cell? p = some v := (h.cell (lt_of_cell hc)).trans hc

theorem Up.froz {w w' : World} (h : Up w w') {p : Addr} (hp : p.block < w.heap.size) (hf : w.frozen? p = false) : w'.frozen? p = false := (h.frozen p).trans hf

structure Box (w : World) (b : Nat) (v0 v1 v2 v3 v4 : Value) : Prop where
 c0 : w.cell? ⟨b, 0, none⟩ = some v0
 c1 : w.cell? ⟨b, 1, none⟩ = some v1
 c2 : w.cell? ⟨b, 2, none⟩ = some v2
 c3 : w.cell? ⟨b, 3, none⟩ = some v3
 c4 : w.cell? ⟨b, 4, none⟩ = some v4
 lt : b < w.heap.size
 fr : ∀ j, w.frozen? ⟨b, j, none⟩ = false

theorem Box.up {w w' : World} {b : Nat} {v0 v1 v2 v3 v4 : Value} (h : Box w b v0 v1 v2 v3 v4) (k : Up w w') : Box w' b v0 v1 v2 v3 v4 :=
 ⟨k.keep h.c0, k.keep h.c1, k.keep h.c2, k.keep h.c3, k.keep h.c4, Nat.lt_of_lt_of_le h.lt k.size, fun j => k.froz h.lt (h.fr j)⟩

theorem Box.new (w : World) (v0 v1 v2 v3 v4 : Value) (t : TypeId) : Box (w.alloc (.cells #[v0, v1, v2, v3, v4] t)) w.heap.size v0 v1 v2 v3 v4 :=
 ⟨by rw [World.cell?_alloc_new]; rfl, by rw [World.cell?_alloc_new]; rfl, by rw [World.cell?_alloc_new]; rfl, by rw [World.cell?_alloc_new]; rfl, by rw [World.cell?_alloc_new]; rfl, by simp, fun j => by simp [go_sem]⟩

theorem Box.open {w : World} {b : Nat} {v0 v1 v2 v3 v4 : Value} (h : Box w b v0 v1 v2 v3 v4) :
   w.cell? ⟨b, 0, none⟩ = some v0 ∧ w.cell? ⟨b, 1, none⟩ = some v1 ∧ w.cell? ⟨b, 2, none⟩ = some v2 ∧ w.cell? ⟨b, 3, none⟩ = some v3 ∧ w.cell? ⟨b, 4, none⟩ = some v4 ∧ b < w.heap.size :=
 ⟨h.c0, h.c1, h.c2, h.c3, h.c4, h.lt⟩

set_option maxHeartbeats 400000 in
theorem formatOf (op : Int) (W : World) (T : Tabs W) :
   Calls Tryz.prog 101 #[.int .i64 op] W fun e W' => e = .returned (.int .i64 (M.form op)) ∧ W = W' := by
 by_cases h0 : op < 0
 · have HE := Lib.hid (M.form_zero op (.inl h0))
   go_enter Tryz.func101, Tryz.ntmps101
   go_wp2
   go_ret
   exact ⟨ret_int HE.out.symm, rfl⟩
 · by_cases h1 : 25 < op
   · have HE := Lib.hid (M.form_zero op (.inr h1))
     go_enter Tryz.func101, Tryz.ntmps101
     go_wp2
     go_ret
     exact ⟨ret_int HE.out.symm, rfl⟩
   · have hc := T.form op (by omega) (by omega)
     go_enter Tryz.func101, Tryz.ntmps101
     go_wp2
     go_ret
     exact ⟨rfl, rfl⟩

theorem okReg_true (r : Int) (a b : Bool) (ha : a = decide (0 ≤ r)) (hb : b = decide (r < 16)) : (a && b) = M.okReg r true := by
 unfold M.okReg; subst ha; subst hb
 rw [if_pos rfl, Bool.eq_iff_iff]; simp; omega

set_option maxHeartbeats 400000 in
theorem validRegister (r : Int) (used : Bool) (W : World) :
   Calls Tryz.prog 111 #[.int .i64 r, .bool used] W fun e W' => e = .returned (.bool (M.okReg r used)) ∧ W = W' := by
 cases used
 · go_enter Tryz.func111, Tryz.ntmps111
   go_wp2
   go_ret
   exact ⟨ret_bool rfl, rfl⟩
 · by_cases h0 : 0 ≤ r
   · go_enter Tryz.func111, Tryz.ntmps111
     go_wp2
     go_ret
     exact ⟨ret_bool (okReg_true r true _ (by simp [h0]) rfl), rfl⟩
   · go_enter Tryz.func111, Tryz.ntmps111
     go_wp2
     go_ret
     exact ⟨ret_bool (okReg_true r false true (by simp [h0]) (by simp; omega)), rfl⟩

theorem okCsr (x : Int) (a b : Bool) (ha : a = decide (0 ≤ x)) (hb : b = decide (x < 12)) : (a && b) = M.okImm x false true := by
 unfold M.okImm; subst ha; subst hb
 rw [if_neg (by decide), if_pos rfl, Bool.eq_iff_iff]; simp; omega

set_option maxHeartbeats 400000 in
theorem validImmediate (x : Int) (p q r imm csr : Bool) (W : World) (hx0 : -2147483648 ≤ x) (hx : x < 2147483648) :
   Calls Tryz.prog 112 #[.int .i32 x, .agg #[.bool p, .bool q, .bool r, .bool imm, .bool csr]] W fun e W' => e = .returned (.bool (M.okImm x imm csr)) ∧ Up W W' := by
 cases imm
 · cases csr
   · go_enter Tryz.func112, Tryz.ntmps112
     go_wp2
     go_ret
     exact ⟨ret_bool rfl, (Up.refl _).alloc _⟩
   · by_cases h0 : 0 ≤ x
     · go_enter Tryz.func112, Tryz.ntmps112
       go_wp2
       go_ret
       exact ⟨ret_bool (okCsr x true _ (by simp [h0]) rfl), (Up.refl _).alloc _⟩
     · go_enter Tryz.func112, Tryz.ntmps112
       go_wp2
       go_ret
       exact ⟨ret_bool (okCsr x false true (by simp [h0]) (by simp; omega)), (Up.refl _).alloc _⟩
 · go_enter Tryz.func112, Tryz.ntmps112
   go_wp2_with (go_at_call 139; refine (fitsSigned _ _ _ (by omega) (by omega) (by omega) (by omega)).mono ?_; rintro e w' ⟨rfl, rfl⟩)
   go_ret
   exact ⟨ret_bool rfl, (Up.refl _).alloc _⟩

set_option maxHeartbeats 400000 in
theorem valid (op rd ra rb imm : Int) (W : World) (T : Tabs W) (hx0 : -2147483648 ≤ imm) (hx : imm < 2147483648) :
   Calls Tryz.prog 90 #[.agg #[.int .i64 op, .int .i64 rd, .int .i64 ra, .int .i64 rb, .int .i32 imm]] W fun e W' => e = .returned (.bool (M.ok op rd ra rb imm)) ∧ Up W W' := by
 have hr := M.form_rng op
 have hs1 := T.sizeO
 cases hz : (M.form op == 0)
 · have c0 := T.rd (M.form op) (by omega) (by omega)
   have c1 := T.ra (M.form op) (by omega) (by omega)
   have c2 := T.rb (M.form op) (by omega) (by omega)
   have c3 := T.imm (M.form op) (by omega) (by omega)
   have c4 := T.csr (M.form op) (by omega) (by omega)
   have HE := Lib.hid (M.ok_eq op rd ra rb imm hz)
   cases h1 : M.okReg rd (M.hasRd (M.form op)) <;> cases h2 : M.okReg ra (M.hasRa (M.form op)) <;> cases h3 : M.okReg rb (M.hasRb (M.form op))
   all_goals
     go_enter Tryz.func90, Tryz.ntmps90
     go_wp2_with (first
       | (go_at_call 101; refine (formatOf _ _ (T.up ((Up.refl _).alloc _))).mono ?_; rintro e w' ⟨rfl, rfl⟩)
       | (go_at_call 111; refine (validRegister _ _ _).mono ?_; rintro e w' ⟨rfl, rfl⟩)
       | (go_at_call 112; refine (validImmediate _ _ _ _ _ _ _ (by omega) (by omega)).mono ?_; rintro e w' ⟨rfl, up⟩))
     go_ret
     first
     | exact ⟨ret_bool (by rw [HE.out, h1, h2, h3]; rfl), (((Up.refl _).alloc _).alloc _).trans up⟩
     | exact ⟨ret_bool (by rw [HE.out, h1, h2, h3]; rfl), ((Up.refl _).alloc _).alloc _⟩
 · go_enter Tryz.func90, Tryz.ntmps90
   go_wp2_with (go_at_call 101; refine (formatOf _ _ (T.up ((Up.refl _).alloc _))).mono ?_; rintro e w' ⟨rfl, rfl⟩)
   go_ret
   exact ⟨ret_bool (by unfold M.ok; simp [bne, hz]), (Up.refl _).alloc _⟩
end Go.Proofs.YtclpdjpaaagkdaaGreatDoor.Is
namespace Go.Proofs.YtclpdjpaaagkdaaGreatDoor.Is
open Go.ChangeShapes Go.WideShapes Go.ChangeAt Go.RowKit
set_option linter.unusedVariables false

theorem ops (op : Int) (h0 : 1 ≤ op) (h : op ≤ 25) : op = 1 ∨ op = 2 ∨ op = 3 ∨ op = 4 ∨ op = 5 ∨ op = 6 ∨ op = 7 ∨ op = 8 ∨ op = 9 ∨ op = 10 ∨ op = 11 ∨ op = 12 ∨ op = 13 ∨ op = 14 ∨ op = 15 ∨ op = 16 ∨ op = 17 ∨ op = 18 ∨ op = 19 ∨ op = 20 ∨ op = 21 ∨ op = 22 ∨ op = 23 ∨ op = 24 ∨ op = 25 := by omega

set_option maxHeartbeats 4000000 in
theorem refForm (op : Int) (W : World) :
   Calls Tryz.prog 72 #[.int .i64 op] W fun e W' => e = .returned (.int .i64 (M.form op)) ∧ W = W' := by
 by_cases hin : 1 ≤ op ∧ op ≤ 25
 · rcases ops op hin.1 hin.2 with rfl | rfl | rfl | rfl | rfl | rfl | rfl | rfl | rfl | rfl | rfl | rfl | rfl | rfl | rfl | rfl | rfl | rfl | rfl | rfl | rfl | rfl | rfl | rfl | rfl
   all_goals
     clear hin
     go_enter Tryz.func72, Tryz.ntmps72
     go_wp2
     go_ret
     exact ⟨ret_int (by decide), rfl⟩
 · have HE : Hid (M.form op = 0) := Lib.hid (M.form_none op hin)
   have n1 : (op == 1) = false := beq_eq_false_iff_ne.2 (by omega)
   have n2 : (op == 2) = false := beq_eq_false_iff_ne.2 (by omega)
   have n3 : (op == 3) = false := beq_eq_false_iff_ne.2 (by omega)
   have n4 : (op == 4) = false := beq_eq_false_iff_ne.2 (by omega)
   have n5 : (op == 5) = false := beq_eq_false_iff_ne.2 (by omega)
   have n6 : (op == 6) = false := beq_eq_false_iff_ne.2 (by omega)
   have n7 : (op == 7) = false := beq_eq_false_iff_ne.2 (by omega)
   have n8 : (op == 8) = false := beq_eq_false_iff_ne.2 (by omega)
   have n9 : (op == 9) = false := beq_eq_false_iff_ne.2 (by omega)
   have n10 : (op == 10) = false := beq_eq_false_iff_ne.2 (by omega)
   have n11 : (op == 11) = false := beq_eq_false_iff_ne.2 (by omega)
   have n12 : (op == 12) = false := beq_eq_false_iff_ne.2 (by omega)
   have n13 : (op == 13) = false := beq_eq_false_iff_ne.2 (by omega)
   have n14 : (op == 14) = false := beq_eq_false_iff_ne.2 (by omega)
   have n15 : (op == 15) = false := beq_eq_false_iff_ne.2 (by omega)
   have n16 : (op == 16) = false := beq_eq_false_iff_ne.2 (by omega)
   have n17 : (op == 17) = false := beq_eq_false_iff_ne.2 (by omega)
   have n18 : (op == 18) = false := beq_eq_false_iff_ne.2 (by omega)
   have n19 : (op == 19) = false := beq_eq_false_iff_ne.2 (by omega)
   have n20 : (op == 20) = false := beq_eq_false_iff_ne.2 (by omega)
   have n21 : (op == 21) = false := beq_eq_false_iff_ne.2 (by omega)
   have n22 : (op == 22) = false := beq_eq_false_iff_ne.2 (by omega)
   have n23 : (op == 23) = false := beq_eq_false_iff_ne.2 (by omega)
   have n24 : (op == 24) = false := beq_eq_false_iff_ne.2 (by omega)
   have n25 : (op == 25) = false := beq_eq_false_iff_ne.2 (by omega)
   clear hin
   go_enter Tryz.func72, Tryz.ntmps72
   go_wp2
   go_ret
   exact ⟨ret_int HE.out.symm, rfl⟩

theorem five_ops (op : Int) : op = 21 ∨ op = 22 ∨ op = 23 ∨ op = 24 ∨ op = 25 ∨ (op < 21 ∨ 25 < op) := by omega
theorem priv_no (op : Int) (h : op < 21 ∨ 25 < op) : false = M.priv op := by
 unfold M.priv; symm; rw [decide_eq_false_iff_not]; omega

set_option maxHeartbeats 1000000 in
theorem isPrivileged (op : Int) (W : World) :
   Calls Tryz.prog 67 #[.int .i64 op] W fun e W' => e = .returned (.bool (M.priv op)) ∧ W = W' := by
 rcases five_ops op with rfl | rfl | rfl | rfl | rfl | hn
 case inr.inr.inr.inr.inr =>
   have HE := Lib.hid (priv_no op hn)
   have n21 : (op == 21) = false := beq_eq_false_iff_ne.2 (by omega)
   have n22 : (op == 22) = false := beq_eq_false_iff_ne.2 (by omega)
   have n23 : (op == 23) = false := beq_eq_false_iff_ne.2 (by omega)
   have n24 : (op == 24) = false := beq_eq_false_iff_ne.2 (by omega)
   have n25 : (op == 25) = false := beq_eq_false_iff_ne.2 (by omega)
   clear hn
   go_enter Tryz.func67, Tryz.ntmps67
   go_wp2
   go_ret
   exact ⟨ret_bool HE.out, rfl⟩
 all_goals
   go_enter Tryz.func67, Tryz.ntmps67
   go_wp2
   go_ret
   exact ⟨ret_bool (by decide), rfl⟩

set_option maxHeartbeats 1000000 in
theorem refPrivileged (op : Int) (W : World) :
   Calls Tryz.prog 34 #[.int .i64 op] W fun e W' => e = .returned (.bool (M.priv op)) ∧ W = W' := by
 rcases five_ops op with rfl | rfl | rfl | rfl | rfl | hn
 case inr.inr.inr.inr.inr =>
   have HE := Lib.hid (priv_no op hn)
   have n21 : (op == 21) = false := beq_eq_false_iff_ne.2 (by omega)
   have n22 : (op == 22) = false := beq_eq_false_iff_ne.2 (by omega)
   have n23 : (op == 23) = false := beq_eq_false_iff_ne.2 (by omega)
   have n24 : (op == 24) = false := beq_eq_false_iff_ne.2 (by omega)
   have n25 : (op == 25) = false := beq_eq_false_iff_ne.2 (by omega)
   clear hn
   go_enter Tryz.func34, Tryz.ntmps34
   go_wp2
   go_ret
   exact ⟨ret_bool HE.out, rfl⟩
 all_goals
   go_enter Tryz.func34, Tryz.ntmps34
   go_wp2
   go_ret
   exact ⟨ret_bool (by decide), rfl⟩

set_option maxHeartbeats 400000 in
theorem refReg (r : Int) (has : Bool) (W : World) :
   Calls Tryz.prog 126 #[.int .i64 r, .bool has] W fun e W' => e = .returned (.bool (M.okReg r has)) ∧ W = W' := by
 cases has
 · go_enter Tryz.func126, Tryz.ntmps126
   go_wp2
   go_ret
   exact ⟨ret_bool rfl, rfl⟩
 · by_cases h0 : 0 ≤ r
   · go_enter Tryz.func126, Tryz.ntmps126
     go_wp2
     go_ret
     exact ⟨ret_bool (okReg_true r true (decide (r ≤ 15)) (by simp [h0]) (by rw [Bool.eq_iff_iff, decide_eq_true_eq, decide_eq_true_eq]; omega)), rfl⟩
   · go_enter Tryz.func126, Tryz.ntmps126
     go_wp2
     go_ret
     exact ⟨ret_bool (okReg_true r false true (by simp [h0]) (by simp; omega)), rfl⟩

theorem forms (f : Int) (h : 0 ≤ f ∧ f ≤ 7) : f = 0 ∨ f = 1 ∨ f = 2 ∨ f = 3 ∨ f = 4 ∨ f = 5 ∨ f = 6 ∨ f = 7 := by omega

theorem ok_no1 (op rd ra rb imm : Int) (f : Int) (hf : M.form op = f) (hz : f ≠ 0) (h : M.okReg rd (M.hasRd f) = false) : false = M.ok op rd ra rb imm := by
 subst hf; rw [M.ok_eq op rd ra rb imm (by simpa using hz), h]; rfl
theorem ok_no2 (op rd ra rb imm : Int) (f : Int) (hf : M.form op = f) (hz : f ≠ 0) (h1 : M.okReg rd (M.hasRd f) = true) (h : M.okReg ra (M.hasRa f) = false) : false = M.ok op rd ra rb imm := by
 subst hf; rw [M.ok_eq op rd ra rb imm (by simpa using hz), h1, h]; rfl
theorem ok_no3 (op rd ra rb imm : Int) (f : Int) (hf : M.form op = f) (hz : f ≠ 0) (h1 : M.okReg rd (M.hasRd f) = true) (h2 : M.okReg ra (M.hasRa f) = true) (h : M.okReg rb (M.hasRb f) = false) : false = M.ok op rd ra rb imm := by
 subst hf; rw [M.ok_eq op rd ra rb imm (by simpa using hz), h1, h2, h]; rfl
theorem ok_yes (op rd ra rb imm : Int) (f : Int) (hf : M.form op = f) (hz : f ≠ 0) (h1 : M.okReg rd (M.hasRd f) = true) (h2 : M.okReg ra (M.hasRa f) = true) (h : M.okReg rb (M.hasRb f) = true) : M.okImm imm (M.hasImm f) (M.hasCsr f) = M.ok op rd ra rb imm := by
 subst hf; rw [M.ok_eq op rd ra rb imm (by simpa using hz), h1, h2, h]; rfl

theorem ways (op rd ra rb imm : Int) (f : Int) (hf : M.form op = f) (hz : f ≠ 0) :
   (M.okReg rd (M.hasRd f) = false ∧ Hid (false = M.ok op rd ra rb imm)) ∨
   (M.okReg rd (M.hasRd f) = true ∧ M.okReg ra (M.hasRa f) = false ∧ Hid (false = M.ok op rd ra rb imm)) ∨
   (M.okReg rd (M.hasRd f) = true ∧ M.okReg ra (M.hasRa f) = true ∧ M.okReg rb (M.hasRb f) = false ∧ Hid (false = M.ok op rd ra rb imm)) ∨
   (M.okReg rd (M.hasRd f) = true ∧ M.okReg ra (M.hasRa f) = true ∧ M.okReg rb (M.hasRb f) = true ∧ Hid (M.okImm imm (M.hasImm f) (M.hasCsr f) = M.ok op rd ra rb imm)) := by
 cases h1 : M.okReg rd (M.hasRd f)
 · exact .inl ⟨rfl, Lib.hid (ok_no1 _ _ _ _ _ f hf hz h1)⟩
 · cases h2 : M.okReg ra (M.hasRa f)
   · exact .inr (.inl ⟨rfl, rfl, Lib.hid (ok_no2 _ _ _ _ _ f hf hz h1 h2)⟩)
   · cases h3 : M.okReg rb (M.hasRb f)
     · exact .inr (.inr (.inl ⟨rfl, rfl, rfl, Lib.hid (ok_no3 _ _ _ _ _ f hf hz h1 h2 h3)⟩))
     · exact .inr (.inr (.inr ⟨rfl, rfl, rfl, Lib.hid (ok_yes _ _ _ _ _ f hf hz h1 h2 h3)⟩))

set_option maxHeartbeats 4000000 in
theorem may (op rd ra rb imm : Int) (W : World) (hx0 : -2147483648 ≤ imm) (hx : imm < 2147483648) :
   Calls Tryz.prog 95 #[.agg #[.int .i64 op, .int .i64 rd, .int .i64 ra, .int .i64 rb, .int .i32 imm]] W fun e W' => e = .returned (.bool (M.ok op rd ra rb imm)) ∧ Up W W' := by
 rcases forms _ (M.form_rng op) with hf | hf | hf | hf | hf | hf | hf | hf
 case inl =>
   have HE : Hid (false = M.ok op rd ra rb imm) := Lib.hid (by unfold M.ok; simp [hf])
   go_enter Tryz.func95, Tryz.ntmps95
   go_wp2_with (go_at_call 72; refine (refForm _ _).mono ?_; rintro e w' ⟨rfl, rfl⟩)
   go_ret
   exact ⟨ret_bool HE.out, (Up.refl _).alloc _⟩
 case inr.inl =>
   rcases ways op rd ra rb imm _ hf (by decide) with ⟨h1, HE⟩ | ⟨h1, h2, HE⟩ | ⟨h1, h2, h3, HE⟩ | ⟨h1, h2, h3, HE⟩
   · rw [show M.hasRd 1 = true from rfl] at h1
     go_enter Tryz.func95, Tryz.ntmps95
     go_wp2_with (first
       | (go_at_call 72; refine (refForm _ _).mono ?_; rintro e w' ⟨rfl, rfl⟩)
       | (go_at_call 126; refine (refReg _ _ _).mono ?_; rintro e w' ⟨rfl, rfl⟩)
       | (go_at_call 127; refine (fits _ _ _ (by omega) (by omega) (by omega) (by omega)).mono ?_; rintro e w' ⟨rfl, rfl⟩))
     go_ret
     exact ⟨ret_bool HE.out, (Up.refl _).alloc _⟩
   · rw [show M.hasRd 1 = true from rfl] at h1; rw [show M.hasRa 1 = true from rfl] at h2
     go_enter Tryz.func95, Tryz.ntmps95
     go_wp2_with (first
       | (go_at_call 72; refine (refForm _ _).mono ?_; rintro e w' ⟨rfl, rfl⟩)
       | (go_at_call 126; refine (refReg _ _ _).mono ?_; rintro e w' ⟨rfl, rfl⟩)
       | (go_at_call 127; refine (fits _ _ _ (by omega) (by omega) (by omega) (by omega)).mono ?_; rintro e w' ⟨rfl, rfl⟩))
     go_ret
     exact ⟨ret_bool HE.out, (Up.refl _).alloc _⟩
   · rw [show M.hasRd 1 = true from rfl] at h1; rw [show M.hasRa 1 = true from rfl] at h2; rw [show M.hasRb 1 = true from rfl] at h3
     go_enter Tryz.func95, Tryz.ntmps95
     go_wp2_with (first
       | (go_at_call 72; refine (refForm _ _).mono ?_; rintro e w' ⟨rfl, rfl⟩)
       | (go_at_call 126; refine (refReg _ _ _).mono ?_; rintro e w' ⟨rfl, rfl⟩)
       | (go_at_call 127; refine (fits _ _ _ (by omega) (by omega) (by omega) (by omega)).mono ?_; rintro e w' ⟨rfl, rfl⟩))
     go_ret
     exact ⟨ret_bool HE.out, (Up.refl _).alloc _⟩
   · rw [show M.hasRd 1 = true from rfl] at h1; rw [show M.hasRa 1 = true from rfl] at h2; rw [show M.hasRb 1 = true from rfl] at h3
     go_enter Tryz.func95, Tryz.ntmps95
     go_wp2_with (first
       | (go_at_call 72; refine (refForm _ _).mono ?_; rintro e w' ⟨rfl, rfl⟩)
       | (go_at_call 126; refine (refReg _ _ _).mono ?_; rintro e w' ⟨rfl, rfl⟩)
       | (go_at_call 127; refine (fits _ _ _ (by omega) (by omega) (by omega) (by omega)).mono ?_; rintro e w' ⟨rfl, rfl⟩))
     go_ret
     exact ⟨ret_bool HE.out, (Up.refl _).alloc _⟩
 case inr.inr.inl =>
   rcases ways op rd ra rb imm _ hf (by decide) with ⟨h1, HE⟩ | ⟨h1, h2, HE⟩ | ⟨h1, h2, h3, HE⟩ | ⟨h1, h2, h3, HE⟩
   · rw [show M.hasRd 2 = true from rfl] at h1
     go_enter Tryz.func95, Tryz.ntmps95
     go_wp2_with (first
       | (go_at_call 72; refine (refForm _ _).mono ?_; rintro e w' ⟨rfl, rfl⟩)
       | (go_at_call 126; refine (refReg _ _ _).mono ?_; rintro e w' ⟨rfl, rfl⟩)
       | (go_at_call 127; refine (fits _ _ _ (by omega) (by omega) (by omega) (by omega)).mono ?_; rintro e w' ⟨rfl, rfl⟩))
     go_ret
     exact ⟨ret_bool HE.out, (Up.refl _).alloc _⟩
   · rw [show M.hasRd 2 = true from rfl] at h1; rw [show M.hasRa 2 = true from rfl] at h2
     go_enter Tryz.func95, Tryz.ntmps95
     go_wp2_with (first
       | (go_at_call 72; refine (refForm _ _).mono ?_; rintro e w' ⟨rfl, rfl⟩)
       | (go_at_call 126; refine (refReg _ _ _).mono ?_; rintro e w' ⟨rfl, rfl⟩)
       | (go_at_call 127; refine (fits _ _ _ (by omega) (by omega) (by omega) (by omega)).mono ?_; rintro e w' ⟨rfl, rfl⟩))
     go_ret
     exact ⟨ret_bool HE.out, (Up.refl _).alloc _⟩
   · rw [show M.hasRd 2 = true from rfl] at h1; rw [show M.hasRa 2 = true from rfl] at h2; rw [show M.hasRb 2 = false from rfl] at h3
     go_enter Tryz.func95, Tryz.ntmps95
     go_wp2_with (first
       | (go_at_call 72; refine (refForm _ _).mono ?_; rintro e w' ⟨rfl, rfl⟩)
       | (go_at_call 126; refine (refReg _ _ _).mono ?_; rintro e w' ⟨rfl, rfl⟩)
       | (go_at_call 127; refine (fits _ _ _ (by omega) (by omega) (by omega) (by omega)).mono ?_; rintro e w' ⟨rfl, rfl⟩))
     go_ret
     exact ⟨ret_bool HE.out, (Up.refl _).alloc _⟩
   · rw [show M.hasRd 2 = true from rfl] at h1; rw [show M.hasRa 2 = true from rfl] at h2; rw [show M.hasRb 2 = false from rfl] at h3
     go_enter Tryz.func95, Tryz.ntmps95
     go_wp2_with (first
       | (go_at_call 72; refine (refForm _ _).mono ?_; rintro e w' ⟨rfl, rfl⟩)
       | (go_at_call 126; refine (refReg _ _ _).mono ?_; rintro e w' ⟨rfl, rfl⟩)
       | (go_at_call 127; refine (fits _ _ _ (by omega) (by omega) (by omega) (by omega)).mono ?_; rintro e w' ⟨rfl, rfl⟩))
     go_ret
     exact ⟨ret_bool HE.out, (Up.refl _).alloc _⟩
 case inr.inr.inr.inl =>
   rcases ways op rd ra rb imm _ hf (by decide) with ⟨h1, HE⟩ | ⟨h1, h2, HE⟩ | ⟨h1, h2, h3, HE⟩ | ⟨h1, h2, h3, HE⟩
   · rw [show M.hasRd 3 = true from rfl] at h1
     go_enter Tryz.func95, Tryz.ntmps95
     go_wp2_with (first
       | (go_at_call 72; refine (refForm _ _).mono ?_; rintro e w' ⟨rfl, rfl⟩)
       | (go_at_call 126; refine (refReg _ _ _).mono ?_; rintro e w' ⟨rfl, rfl⟩)
       | (go_at_call 127; refine (fits _ _ _ (by omega) (by omega) (by omega) (by omega)).mono ?_; rintro e w' ⟨rfl, rfl⟩))
     go_ret
     exact ⟨ret_bool HE.out, (Up.refl _).alloc _⟩
   · rw [show M.hasRd 3 = true from rfl] at h1; rw [show M.hasRa 3 = false from rfl] at h2
     go_enter Tryz.func95, Tryz.ntmps95
     go_wp2_with (first
       | (go_at_call 72; refine (refForm _ _).mono ?_; rintro e w' ⟨rfl, rfl⟩)
       | (go_at_call 126; refine (refReg _ _ _).mono ?_; rintro e w' ⟨rfl, rfl⟩)
       | (go_at_call 127; refine (fits _ _ _ (by omega) (by omega) (by omega) (by omega)).mono ?_; rintro e w' ⟨rfl, rfl⟩))
     go_ret
     exact ⟨ret_bool HE.out, (Up.refl _).alloc _⟩
   · rw [show M.hasRd 3 = true from rfl] at h1; rw [show M.hasRa 3 = false from rfl] at h2; rw [show M.hasRb 3 = false from rfl] at h3
     go_enter Tryz.func95, Tryz.ntmps95
     go_wp2_with (first
       | (go_at_call 72; refine (refForm _ _).mono ?_; rintro e w' ⟨rfl, rfl⟩)
       | (go_at_call 126; refine (refReg _ _ _).mono ?_; rintro e w' ⟨rfl, rfl⟩)
       | (go_at_call 127; refine (fits _ _ _ (by omega) (by omega) (by omega) (by omega)).mono ?_; rintro e w' ⟨rfl, rfl⟩))
     go_ret
     exact ⟨ret_bool HE.out, (Up.refl _).alloc _⟩
   · rw [show M.hasRd 3 = true from rfl] at h1; rw [show M.hasRa 3 = false from rfl] at h2; rw [show M.hasRb 3 = false from rfl] at h3
     go_enter Tryz.func95, Tryz.ntmps95
     go_wp2_with (first
       | (go_at_call 72; refine (refForm _ _).mono ?_; rintro e w' ⟨rfl, rfl⟩)
       | (go_at_call 126; refine (refReg _ _ _).mono ?_; rintro e w' ⟨rfl, rfl⟩)
       | (go_at_call 127; refine (fits _ _ _ (by omega) (by omega) (by omega) (by omega)).mono ?_; rintro e w' ⟨rfl, rfl⟩))
     go_ret
     exact ⟨ret_bool HE.out, (Up.refl _).alloc _⟩
 case inr.inr.inr.inr.inl =>
   rcases ways op rd ra rb imm _ hf (by decide) with ⟨h1, HE⟩ | ⟨h1, h2, HE⟩ | ⟨h1, h2, h3, HE⟩ | ⟨h1, h2, h3, HE⟩
   · rw [show M.hasRd 4 = false from rfl] at h1
     go_enter Tryz.func95, Tryz.ntmps95
     go_wp2_with (first
       | (go_at_call 72; refine (refForm _ _).mono ?_; rintro e w' ⟨rfl, rfl⟩)
       | (go_at_call 126; refine (refReg _ _ _).mono ?_; rintro e w' ⟨rfl, rfl⟩)
       | (go_at_call 127; refine (fits _ _ _ (by omega) (by omega) (by omega) (by omega)).mono ?_; rintro e w' ⟨rfl, rfl⟩))
     go_ret
     exact ⟨ret_bool HE.out, (Up.refl _).alloc _⟩
   · rw [show M.hasRd 4 = false from rfl] at h1; rw [show M.hasRa 4 = false from rfl] at h2
     go_enter Tryz.func95, Tryz.ntmps95
     go_wp2_with (first
       | (go_at_call 72; refine (refForm _ _).mono ?_; rintro e w' ⟨rfl, rfl⟩)
       | (go_at_call 126; refine (refReg _ _ _).mono ?_; rintro e w' ⟨rfl, rfl⟩)
       | (go_at_call 127; refine (fits _ _ _ (by omega) (by omega) (by omega) (by omega)).mono ?_; rintro e w' ⟨rfl, rfl⟩))
     go_ret
     exact ⟨ret_bool HE.out, (Up.refl _).alloc _⟩
   · rw [show M.hasRd 4 = false from rfl] at h1; rw [show M.hasRa 4 = false from rfl] at h2; rw [show M.hasRb 4 = false from rfl] at h3
     go_enter Tryz.func95, Tryz.ntmps95
     go_wp2_with (first
       | (go_at_call 72; refine (refForm _ _).mono ?_; rintro e w' ⟨rfl, rfl⟩)
       | (go_at_call 126; refine (refReg _ _ _).mono ?_; rintro e w' ⟨rfl, rfl⟩)
       | (go_at_call 127; refine (fits _ _ _ (by omega) (by omega) (by omega) (by omega)).mono ?_; rintro e w' ⟨rfl, rfl⟩))
     go_ret
     exact ⟨ret_bool HE.out, (Up.refl _).alloc _⟩
   · rw [show M.hasRd 4 = false from rfl] at h1; rw [show M.hasRa 4 = false from rfl] at h2; rw [show M.hasRb 4 = false from rfl] at h3
     go_enter Tryz.func95, Tryz.ntmps95
     go_wp2_with (first
       | (go_at_call 72; refine (refForm _ _).mono ?_; rintro e w' ⟨rfl, rfl⟩)
       | (go_at_call 126; refine (refReg _ _ _).mono ?_; rintro e w' ⟨rfl, rfl⟩)
       | (go_at_call 127; refine (fits _ _ _ (by omega) (by omega) (by omega) (by omega)).mono ?_; rintro e w' ⟨rfl, rfl⟩))
     go_ret
     exact ⟨ret_bool HE.out, (Up.refl _).alloc _⟩
 case inr.inr.inr.inr.inr.inl =>
   rcases ways op rd ra rb imm _ hf (by decide) with ⟨h1, HE⟩ | ⟨h1, h2, HE⟩ | ⟨h1, h2, h3, HE⟩ | ⟨h1, h2, h3, HE⟩
   · rw [show M.hasRd 5 = true from rfl] at h1
     go_enter Tryz.func95, Tryz.ntmps95
     go_wp2_with (first
       | (go_at_call 72; refine (refForm _ _).mono ?_; rintro e w' ⟨rfl, rfl⟩)
       | (go_at_call 126; refine (refReg _ _ _).mono ?_; rintro e w' ⟨rfl, rfl⟩)
       | (go_at_call 127; refine (fits _ _ _ (by omega) (by omega) (by omega) (by omega)).mono ?_; rintro e w' ⟨rfl, rfl⟩))
     go_ret
     exact ⟨ret_bool HE.out, (Up.refl _).alloc _⟩
   · rw [show M.hasRd 5 = true from rfl] at h1; rw [show M.hasRa 5 = false from rfl] at h2
     go_enter Tryz.func95, Tryz.ntmps95
     go_wp2_with (first
       | (go_at_call 72; refine (refForm _ _).mono ?_; rintro e w' ⟨rfl, rfl⟩)
       | (go_at_call 126; refine (refReg _ _ _).mono ?_; rintro e w' ⟨rfl, rfl⟩)
       | (go_at_call 127; refine (fits _ _ _ (by omega) (by omega) (by omega) (by omega)).mono ?_; rintro e w' ⟨rfl, rfl⟩))
     go_ret
     exact ⟨ret_bool HE.out, (Up.refl _).alloc _⟩
   · rw [show M.hasRd 5 = true from rfl] at h1; rw [show M.hasRa 5 = false from rfl] at h2; rw [show M.hasRb 5 = false from rfl] at h3
     go_enter Tryz.func95, Tryz.ntmps95
     go_wp2_with (first
       | (go_at_call 72; refine (refForm _ _).mono ?_; rintro e w' ⟨rfl, rfl⟩)
       | (go_at_call 126; refine (refReg _ _ _).mono ?_; rintro e w' ⟨rfl, rfl⟩)
       | (go_at_call 127; refine (fits _ _ _ (by omega) (by omega) (by omega) (by omega)).mono ?_; rintro e w' ⟨rfl, rfl⟩))
     go_ret
     exact ⟨ret_bool HE.out, (Up.refl _).alloc _⟩
   · rw [show M.hasRd 5 = true from rfl] at h1; rw [show M.hasRa 5 = false from rfl] at h2; rw [show M.hasRb 5 = false from rfl] at h3
     by_cases h0 : 0 ≤ imm
     · go_enter Tryz.func95, Tryz.ntmps95
       go_wp2_with (first
       | (go_at_call 72; refine (refForm _ _).mono ?_; rintro e w' ⟨rfl, rfl⟩)
       | (go_at_call 126; refine (refReg _ _ _).mono ?_; rintro e w' ⟨rfl, rfl⟩)
       | (go_at_call 127; refine (fits _ _ _ (by omega) (by omega) (by omega) (by omega)).mono ?_; rintro e w' ⟨rfl, rfl⟩))
       go_ret
       exact ⟨ret_bool ((okCsr imm true (decide (imm ≤ 11)) (by simp [h0]) (by rw [Bool.eq_iff_iff, decide_eq_true_eq, decide_eq_true_eq]; omega)).trans HE.out), (Up.refl _).alloc _⟩
     · go_enter Tryz.func95, Tryz.ntmps95
       go_wp2_with (first
       | (go_at_call 72; refine (refForm _ _).mono ?_; rintro e w' ⟨rfl, rfl⟩)
       | (go_at_call 126; refine (refReg _ _ _).mono ?_; rintro e w' ⟨rfl, rfl⟩)
       | (go_at_call 127; refine (fits _ _ _ (by omega) (by omega) (by omega) (by omega)).mono ?_; rintro e w' ⟨rfl, rfl⟩))
       go_ret
       exact ⟨ret_bool ((okCsr imm false true (by simp [h0]) (by simp; omega)).trans HE.out), (Up.refl _).alloc _⟩
 case inr.inr.inr.inr.inr.inr.inl =>
   rcases ways op rd ra rb imm _ hf (by decide) with ⟨h1, HE⟩ | ⟨h1, h2, HE⟩ | ⟨h1, h2, h3, HE⟩ | ⟨h1, h2, h3, HE⟩
   · rw [show M.hasRd 6 = false from rfl] at h1
     go_enter Tryz.func95, Tryz.ntmps95
     go_wp2_with (first
       | (go_at_call 72; refine (refForm _ _).mono ?_; rintro e w' ⟨rfl, rfl⟩)
       | (go_at_call 126; refine (refReg _ _ _).mono ?_; rintro e w' ⟨rfl, rfl⟩)
       | (go_at_call 127; refine (fits _ _ _ (by omega) (by omega) (by omega) (by omega)).mono ?_; rintro e w' ⟨rfl, rfl⟩))
     go_ret
     exact ⟨ret_bool HE.out, (Up.refl _).alloc _⟩
   · rw [show M.hasRd 6 = false from rfl] at h1; rw [show M.hasRa 6 = true from rfl] at h2
     go_enter Tryz.func95, Tryz.ntmps95
     go_wp2_with (first
       | (go_at_call 72; refine (refForm _ _).mono ?_; rintro e w' ⟨rfl, rfl⟩)
       | (go_at_call 126; refine (refReg _ _ _).mono ?_; rintro e w' ⟨rfl, rfl⟩)
       | (go_at_call 127; refine (fits _ _ _ (by omega) (by omega) (by omega) (by omega)).mono ?_; rintro e w' ⟨rfl, rfl⟩))
     go_ret
     exact ⟨ret_bool HE.out, (Up.refl _).alloc _⟩
   · rw [show M.hasRd 6 = false from rfl] at h1; rw [show M.hasRa 6 = true from rfl] at h2; rw [show M.hasRb 6 = false from rfl] at h3
     go_enter Tryz.func95, Tryz.ntmps95
     go_wp2_with (first
       | (go_at_call 72; refine (refForm _ _).mono ?_; rintro e w' ⟨rfl, rfl⟩)
       | (go_at_call 126; refine (refReg _ _ _).mono ?_; rintro e w' ⟨rfl, rfl⟩)
       | (go_at_call 127; refine (fits _ _ _ (by omega) (by omega) (by omega) (by omega)).mono ?_; rintro e w' ⟨rfl, rfl⟩))
     go_ret
     exact ⟨ret_bool HE.out, (Up.refl _).alloc _⟩
   · rw [show M.hasRd 6 = false from rfl] at h1; rw [show M.hasRa 6 = true from rfl] at h2; rw [show M.hasRb 6 = false from rfl] at h3
     by_cases h0 : 0 ≤ imm
     · go_enter Tryz.func95, Tryz.ntmps95
       go_wp2_with (first
       | (go_at_call 72; refine (refForm _ _).mono ?_; rintro e w' ⟨rfl, rfl⟩)
       | (go_at_call 126; refine (refReg _ _ _).mono ?_; rintro e w' ⟨rfl, rfl⟩)
       | (go_at_call 127; refine (fits _ _ _ (by omega) (by omega) (by omega) (by omega)).mono ?_; rintro e w' ⟨rfl, rfl⟩))
       go_ret
       exact ⟨ret_bool ((okCsr imm true (decide (imm ≤ 11)) (by simp [h0]) (by rw [Bool.eq_iff_iff, decide_eq_true_eq, decide_eq_true_eq]; omega)).trans HE.out), (Up.refl _).alloc _⟩
     · go_enter Tryz.func95, Tryz.ntmps95
       go_wp2_with (first
       | (go_at_call 72; refine (refForm _ _).mono ?_; rintro e w' ⟨rfl, rfl⟩)
       | (go_at_call 126; refine (refReg _ _ _).mono ?_; rintro e w' ⟨rfl, rfl⟩)
       | (go_at_call 127; refine (fits _ _ _ (by omega) (by omega) (by omega) (by omega)).mono ?_; rintro e w' ⟨rfl, rfl⟩))
       go_ret
       exact ⟨ret_bool ((okCsr imm false true (by simp [h0]) (by simp; omega)).trans HE.out), (Up.refl _).alloc _⟩
 case inr.inr.inr.inr.inr.inr.inr =>
   rcases ways op rd ra rb imm _ hf (by decide) with ⟨h1, HE⟩ | ⟨h1, h2, HE⟩ | ⟨h1, h2, h3, HE⟩ | ⟨h1, h2, h3, HE⟩
   · rw [show M.hasRd 7 = false from rfl] at h1
     go_enter Tryz.func95, Tryz.ntmps95
     go_wp2_with (first
       | (go_at_call 72; refine (refForm _ _).mono ?_; rintro e w' ⟨rfl, rfl⟩)
       | (go_at_call 126; refine (refReg _ _ _).mono ?_; rintro e w' ⟨rfl, rfl⟩)
       | (go_at_call 127; refine (fits _ _ _ (by omega) (by omega) (by omega) (by omega)).mono ?_; rintro e w' ⟨rfl, rfl⟩))
     go_ret
     exact ⟨ret_bool HE.out, (Up.refl _).alloc _⟩
   · rw [show M.hasRd 7 = false from rfl] at h1; rw [show M.hasRa 7 = true from rfl] at h2
     go_enter Tryz.func95, Tryz.ntmps95
     go_wp2_with (first
       | (go_at_call 72; refine (refForm _ _).mono ?_; rintro e w' ⟨rfl, rfl⟩)
       | (go_at_call 126; refine (refReg _ _ _).mono ?_; rintro e w' ⟨rfl, rfl⟩)
       | (go_at_call 127; refine (fits _ _ _ (by omega) (by omega) (by omega) (by omega)).mono ?_; rintro e w' ⟨rfl, rfl⟩))
     go_ret
     exact ⟨ret_bool HE.out, (Up.refl _).alloc _⟩
   · rw [show M.hasRd 7 = false from rfl] at h1; rw [show M.hasRa 7 = true from rfl] at h2; rw [show M.hasRb 7 = false from rfl] at h3
     go_enter Tryz.func95, Tryz.ntmps95
     go_wp2_with (first
       | (go_at_call 72; refine (refForm _ _).mono ?_; rintro e w' ⟨rfl, rfl⟩)
       | (go_at_call 126; refine (refReg _ _ _).mono ?_; rintro e w' ⟨rfl, rfl⟩)
       | (go_at_call 127; refine (fits _ _ _ (by omega) (by omega) (by omega) (by omega)).mono ?_; rintro e w' ⟨rfl, rfl⟩))
     go_ret
     exact ⟨ret_bool HE.out, (Up.refl _).alloc _⟩
   · rw [show M.hasRd 7 = false from rfl] at h1; rw [show M.hasRa 7 = true from rfl] at h2; rw [show M.hasRb 7 = false from rfl] at h3
     go_enter Tryz.func95, Tryz.ntmps95
     go_wp2_with (first
       | (go_at_call 72; refine (refForm _ _).mono ?_; rintro e w' ⟨rfl, rfl⟩)
       | (go_at_call 126; refine (refReg _ _ _).mono ?_; rintro e w' ⟨rfl, rfl⟩)
       | (go_at_call 127; refine (fits _ _ _ (by omega) (by omega) (by omega) (by omega)).mono ?_; rintro e w' ⟨rfl, rfl⟩))
     go_ret
     exact ⟨ret_bool HE.out, (Up.refl _).alloc _⟩

end Go.Proofs.YtclpdjpaaagkdaaGreatDoor.Is
namespace Go.Proofs.YtclpdjpaaagkdaaGreatDoor.Is
open Go.ChangeShapes Go.WideShapes Go.ChangeAt Go.RowKit
set_option linter.unusedVariables false

set_option maxHeartbeats 400000 in
theorem pack (op rd ra rb imm : Int) (W : World) (T : Tabs W) (h : M.ok op rd ra rb imm = true) :
   Calls Tryz.prog 103 #[.agg #[.int .i64 op, .int .i64 rd, .int .i64 ra, .int .i64 rb, .int .i32 imm]] W fun e W' => e = .returned (.int .u32 (M.word op rd ra rb imm)) ∧ Up W W' := by
 have hr := M.form_rng op
 have hs1 := T.sizeO
 obtain ⟨⟨o1, o2⟩, ⟨d1, d2⟩, ⟨a1, a2⟩, ⟨b1, b2⟩, ⟨i1, i2⟩⟩ := M.ok_rng _ _ _ _ _ h
 have c2 := T.rb (M.form op) (by omega) (by omega)
 have g1 := M.I_rng 0 26 6 op (by decide) (by decide) (by decide) (by decide)
 have g2 := M.I_rng (M.I 0 26 6 op) 22 4 rd g1.2 (by decide) (by decide) (by decide)
 have g3 := M.I_rng (M.I (M.I 0 26 6 op) 22 4 rd) 18 4 ra g2.2 (by decide) (by decide) (by decide)
 have g4 := M.L_rng imm 18 (by decide)
 rcases M.hasRb_form op with ⟨hf, hb⟩ | ⟨hf, hb⟩
 · have HE := Lib.hid (M.pack_rb op rd ra rb imm h hf)
   clear hf h
   go_enter Tryz.func103, Tryz.ntmps103
   go_wp2_with (first
     | (go_at_call 101; refine (formatOf _ _ (T.up ((Up.refl _).alloc _))).mono ?_; rintro e w' ⟨rfl, rfl⟩)
     | (go_at_call 132; refine (insert _ _ _ _ _ (by omega) (by omega) (by omega) (by omega) (by omega) (by omega) (by omega)).mono ?_; rintro e w' ⟨rfl, rfl⟩)
     | (go_at_call 133; refine (lowBits _ _ _ (by omega) (by omega) (by omega) (by omega)).mono ?_; rintro e w' ⟨rfl, rfl⟩))
   go_ret
   exact ⟨ret_int HE.out, (Up.refl _).alloc _⟩
 · have HE := Lib.hid (M.pack_imm op rd ra rb imm h hf)
   clear hf h
   go_enter Tryz.func103, Tryz.ntmps103
   go_wp2_with (first
     | (go_at_call 101; refine (formatOf _ _ (T.up ((Up.refl _).alloc _))).mono ?_; rintro e w' ⟨rfl, rfl⟩)
     | (go_at_call 132; refine (insert _ _ _ _ _ (by omega) (by omega) (by omega) (by omega) (by omega) (by omega) (by omega)).mono ?_; rintro e w' ⟨rfl, rfl⟩)
     | (go_at_call 133; refine (lowBits _ _ _ (by omega) (by omega) (by omega) (by omega)).mono ?_; rintro e w' ⟨rfl, rfl⟩))
   go_ret
   exact ⟨ret_int HE.out, (Up.refl _).alloc _⟩

set_option maxHeartbeats 400000 in
theorem encode_yes (op rd ra rb imm : Int) (W : World) (T : Tabs W) (h : M.ok op rd ra rb imm = true) :
   Calls Tryz.prog 83 #[.agg #[.int .i64 op, .int .i64 rd, .int .i64 ra, .int .i64 rb, .int .i32 imm]] W fun e W' => e = .returned (.tuple #[.int .u32 (M.word op rd ra rb imm), .bool true]) ∧ Up W W' := by
 have hr := M.ok_rng _ _ _ _ _ h
 go_enter Tryz.func83, Tryz.ntmps83
 go_wp2_with (first
   | (go_at_call 90; refine (valid _ _ _ _ _ _ (T.up ((Up.refl _).alloc _)) (by omega) (by omega)).mono ?_; rintro e w' ⟨rfl, up⟩; obtain ⟨k0, k1, k2, k3, k4, k5⟩ := ((Box.new _ _ _ _ _ _ _).up up).open)
   | (go_at_call 103; refine (pack _ _ _ _ _ _ (T.up (((Up.refl _).alloc _).trans up)) h).mono ?_; rintro e w'' ⟨rfl, up2⟩))
 go_ret2
 exact ⟨rfl, (((Up.refl _).alloc _).trans up).trans up2⟩

set_option maxHeartbeats 400000 in
theorem encode_no (op rd ra rb imm : Int) (W : World) (T : Tabs W) (h : M.ok op rd ra rb imm = false) (hx0 : -2147483648 ≤ imm) (hx : imm < 2147483648) :
   Calls Tryz.prog 83 #[.agg #[.int .i64 op, .int .i64 rd, .int .i64 ra, .int .i64 rb, .int .i32 imm]] W fun e W' => e = .returned (.tuple #[.int .u32 0, .bool false]) ∧ Up W W' := by
 go_enter Tryz.func83, Tryz.ntmps83
 go_wp2_with (go_at_call 90; refine (valid _ _ _ _ _ _ (T.up ((Up.refl _).alloc _)) (by omega) (by omega)).mono ?_; rintro e w' ⟨rfl, up⟩)
 go_ret2
 exact ⟨rfl, ((Up.refl _).alloc _).trans up⟩

set_option maxHeartbeats 400000 in
theorem unpack (w : Int) (W : World) (T : Tabs W) (h0 : 0 ≤ w) (h : w < 4294967296) :
   Calls Tryz.prog 82 #[.int .u32 w] W fun e W' => e = .returned (.agg #[.int .i64 (M.dOp w), .int .i64 (M.dRd w), .int .i64 (M.dRa w), .int .i64 (M.dRb w), .int .i32 (M.dImm w)]) ∧ Up W W' := by
 have hr := M.form_rng (M.E w 26 6)
 have hs1 := T.sizeO
 have hs0 : 0 < W.heap.size := by omega
 have hs2 : 0 < W.heap.size + 1 := by omega
 have c2 := T.rb (M.form (M.E w 26 6)) (by omega) (by omega)
 have g1 := M.E_rng w 26 6 (by decide)
 have g2 := M.E_rng w 22 4 (by decide)
 have g3 := M.E_rng w 18 4 (by decide)
 have g4 := M.E_rng w 0 4 (by decide)
 have g5 := M.E_rng w 0 18 (by decide)
 have HO := Lib.hid (M.E_op w h0 h)
 have HD := Lib.hid (M.E_rd w h0)
 have HA := Lib.hid (M.E_ra w h0)
 rcases M.hasRb_form (M.E w 26 6) with ⟨hf, hb⟩ | ⟨hf, hb⟩
 · have HB := Lib.hid (M.E_rb w h0 (by rw [← M.E_op w h0 h]; exact hf))
   have HI := Lib.hid (M.dImm_0 w (by rw [← M.E_op w h0 h]; exact hf))
   clear hf
   go_enter Tryz.func82, Tryz.ntmps82
   go_wp2_with (first
     | (go_at_call 101; refine (formatOf _ _ (T.up (((Up.refl _).alloc _).alloc _))).mono ?_; rintro e w' ⟨rfl, rfl⟩)
     | (go_at_call 100; refine (extract _ _ _ _ (by omega) (by omega) (by omega) (by omega) (by omega)).mono ?_; rintro e w' ⟨rfl, rfl⟩)
     | (go_at_call 102; refine (signExtend _ _ _ (by omega) (by omega) (by omega) (by omega)).mono ?_; rintro e w' ⟨rfl, rfl⟩))
   go_returns
   refine ⟨?_, ((Up.refl _).alloc _).alloc _⟩
   rw [← HO.out, ← HD.out, ← HA.out, ← HB.out, ← HI.out]
 · have HB := Lib.hid (M.dRb_0 w (by rw [← M.E_op w h0 h]; exact hf))
   have HI := Lib.hid (M.E_imm w h0 (by rw [← M.E_op w h0 h]; exact hf))
   clear hf
   go_enter Tryz.func82, Tryz.ntmps82
   go_wp2_with (first
     | (go_at_call 101; refine (formatOf _ _ (T.up (((Up.refl _).alloc _).alloc _))).mono ?_; rintro e w' ⟨rfl, rfl⟩)
     | (go_at_call 100; refine (extract _ _ _ _ (by omega) (by omega) (by omega) (by omega) (by omega)).mono ?_; rintro e w' ⟨rfl, rfl⟩)
     | (go_at_call 102; refine (signExtend _ _ _ (by omega) (by omega) (by omega) (by omega)).mono ?_; rintro e w' ⟨rfl, rfl⟩))
   go_returns
   refine ⟨?_, ((Up.refl _).alloc _).alloc _⟩
   rw [← HO.out, ← HD.out, ← HA.out, ← HB.out, ← HI.out]

theorem dImm_rng (w : Int) : -2147483648 ≤ M.dImm w ∧ M.dImm w < 2147483648 := by
 have h := M.S_rng w 18 (by decide) (by decide)
 unfold M.dImm
 split <;> omega

set_option maxHeartbeats 400000 in
theorem decode_yes (w : Int) (W : World) (T : Tabs W) (h0 : 0 ≤ w) (h : w < 4294967296) (hd : M.dok w = true) :
   Calls Tryz.prog 65 #[.int .u32 w] W fun e W' => e = .returned (.tuple #[.agg #[.int .i64 (M.dOp w), .int .i64 (M.dRd w), .int .i64 (M.dRa w), .int .i64 (M.dRb w), .int .i32 (M.dImm w)], .bool true]) ∧ Up W W' := by
 have hr := dImm_rng w
 unfold M.dok at hd
 simp only [Bool.and_eq_true] at hd
 obtain ⟨hd1, hd2⟩ := hd
 have HW : Hid (M.word (M.dOp w) (M.dRd w) (M.dRa w) (M.dRb w) (M.dImm w) = w) := Lib.hid (by simpa using hd2)
 have hd3 : (M.word (M.dOp w) (M.dRd w) (M.dRa w) (M.dRb w) (M.dImm w) != w) = false := by rw [HW.out]; simp
 clear hd2
 go_enter Tryz.func65, Tryz.ntmps65
 go_wp2_with (first
   | (go_at_call 82; refine (unpack _ _ (T.up ((Up.refl _).alloc _)) (by omega) (by omega)).mono ?_; rintro e w1 ⟨rfl, up1⟩; obtain ⟨k0, k1, k2, k3, k4, k5⟩ := ((Box.new _ _ _ _ _ _ _).up up1).open)
   | (go_at_call 83; refine (encode_yes _ _ _ _ _ _ (T.up ((((Up.refl _).alloc _).trans up1).alloc _)) hd1).mono ?_; rintro e w2 ⟨rfl, up2⟩; obtain ⟨l0, l1, l2, l3, l4, l5⟩ := ((Box.new _ _ _ _ _ _ _).up up2).open; have bx := (((Box.new _ _ _ _ _ _ _).up up1).up ((Up.refl _).alloc _)).up up2; obtain ⟨m0, m1, m2, m3, m4, m5⟩ := bx.open; have fr := bx.fr; clear bx))
 refine bodyPost_ret (by simp [results, Tryz.results65, go_sem, m0, m1, m2, m3, m4]; try rfl) rfl ?_
 have s0 : Up W w2 := ((((Up.refl _).alloc _).trans up1).alloc _).trans up2
 exact ⟨rfl, ((((s0.setCell (Nat.le_refl _) _).setCell (Nat.le_refl _) _).setCell (Nat.le_refl _) _).setCell (Nat.le_refl _) _).setCell (Nat.le_refl _) _⟩

theorem dok_no (w : Int) (hd : M.dok w = false) : M.ok (M.dOp w) (M.dRd w) (M.dRa w) (M.dRb w) (M.dImm w) = false ∨ (M.ok (M.dOp w) (M.dRd w) (M.dRa w) (M.dRb w) (M.dImm w) = true ∧ (M.word (M.dOp w) (M.dRd w) (M.dRa w) (M.dRb w) (M.dImm w) != w) = true) := by
 unfold M.dok at hd
 cases h : M.ok (M.dOp w) (M.dRd w) (M.dRa w) (M.dRb w) (M.dImm w)
 · exact .inl rfl
 · rw [h] at hd
   exact .inr ⟨rfl, by simp at hd; simpa using hd⟩

set_option maxHeartbeats 400000 in
theorem decode_no (w : Int) (W : World) (T : Tabs W) (h0 : 0 ≤ w) (h : w < 4294967296) (hd : M.dok w = false) :
   Calls Tryz.prog 65 #[.int .u32 w] W fun e W' => e = .returned (.tuple #[.agg #[.int .i64 0, .int .i64 0, .int .i64 0, .int .i64 0, .int .i32 0], .bool false]) ∧ Up W W' := by
 have hr := dImm_rng w
 rcases dok_no w hd with hd1 | ⟨hd1, hd3⟩
 · clear hd
   go_enter Tryz.func65, Tryz.ntmps65
   go_wp2_with (first
     | (go_at_call 82; refine (unpack _ _ (T.up ((Up.refl _).alloc _)) (by omega) (by omega)).mono ?_; rintro e w1 ⟨rfl, up1⟩; obtain ⟨k0, k1, k2, k3, k4, k5⟩ := ((Box.new _ _ _ _ _ _ _).up up1).open)
     | (go_at_call 83; refine (encode_no _ _ _ _ _ _ (T.up ((((Up.refl _).alloc _).trans up1).alloc _)) hd1 (by omega) (by omega)).mono ?_; rintro e w2 ⟨rfl, up2⟩; obtain ⟨l0, l1, l2, l3, l4, l5⟩ := ((Box.new _ _ _ _ _ _ _).up up2).open; have bx := (((Box.new _ _ _ _ _ _ _).up up1).up ((Up.refl _).alloc _)).up up2; obtain ⟨m0, m1, m2, m3, m4, m5⟩ := bx.open; have fr := bx.fr; clear bx))
   refine bodyPost_ret (by simp [results, Tryz.results65, go_sem, m0, m1, m2, m3, m4]; try rfl) rfl ?_
   have s0 : Up W w2 := ((((Up.refl _).alloc _).trans up1).alloc _).trans up2
   exact ⟨rfl, ((((s0.setCell (Nat.le_refl _) _).setCell (Nat.le_refl _) _).setCell (Nat.le_refl _) _).setCell (Nat.le_refl _) _).setCell (Nat.le_refl _) _⟩
 · clear hd
   go_enter Tryz.func65, Tryz.ntmps65
   go_wp2_with (first
     | (go_at_call 82; refine (unpack _ _ (T.up ((Up.refl _).alloc _)) (by omega) (by omega)).mono ?_; rintro e w1 ⟨rfl, up1⟩; obtain ⟨k0, k1, k2, k3, k4, k5⟩ := ((Box.new _ _ _ _ _ _ _).up up1).open)
     | (go_at_call 83; refine (encode_yes _ _ _ _ _ _ (T.up ((((Up.refl _).alloc _).trans up1).alloc _)) hd1).mono ?_; rintro e w2 ⟨rfl, up2⟩; obtain ⟨l0, l1, l2, l3, l4, l5⟩ := ((Box.new _ _ _ _ _ _ _).up up2).open; have bx := (((Box.new _ _ _ _ _ _ _).up up1).up ((Up.refl _).alloc _)).up up2; obtain ⟨m0, m1, m2, m3, m4, m5⟩ := bx.open; have fr := bx.fr; clear bx))
   refine bodyPost_ret (by simp [results, Tryz.results65, go_sem, m0, m1, m2, m3, m4]; try rfl) rfl ?_
   have s0 : Up W w2 := ((((Up.refl _).alloc _).trans up1).alloc _).trans up2
   exact ⟨rfl, ((((s0.setCell (Nat.le_refl _) _).setCell (Nat.le_refl _) _).setCell (Nat.le_refl _) _).setCell (Nat.le_refl _) _).setCell (Nat.le_refl _) _⟩

end Go.Proofs.YtclpdjpaaagkdaaGreatDoor.Is
namespace Go.Proofs.YtclpdjpaaagkdaaGreatDoor.Is
open Go.ChangeShapes Go.WideShapes Go.ChangeAt Go.RowKit
set_option linter.unusedVariables false

set_option maxHeartbeats 400000 in
theorem refEncode_yes (op rd ra rb imm : Int) (W : World) (h : M.ok op rd ra rb imm = true) :
   Calls Tryz.prog 74 #[.agg #[.int .i64 op, .int .i64 rd, .int .i64 ra, .int .i64 rb, .int .i32 imm]] W fun e W' => e = .returned (.tuple #[.int .u32 (M.word op rd ra rb imm), .bool true]) ∧ Up W W' := by
 obtain ⟨⟨o1, o2⟩, ⟨d1, d2⟩, ⟨a1, a2⟩, ⟨b1, b2⟩, ⟨i1, i2⟩⟩ := M.ok_rng _ _ _ _ _ h
 have g4 : 0 ≤ M.L imm 18 ∧ M.L imm 18 < 262144 := by show 0 ≤ imm % 262144 ∧ imm % 262144 < 262144; omega
 by_cases hf : M.form op = 1
 · have HW : Hid (op * 67108864 + rd * 4194304 + ra * 262144 + rb = M.word op rd ra rb imm) := Lib.hid (by unfold M.word; rw [if_pos hf])
   have hb : (M.form op == 1) = true := by rw [hf]; rfl
   clear hf
   go_enter Tryz.func74, Tryz.ntmps74
   go_wp2_with (first
     | (go_at_call 95; refine (may _ _ _ _ _ _ (by omega) (by omega)).mono ?_; rintro e w' ⟨rfl, up⟩; obtain ⟨k0, k1, k2, k3, k4, k5⟩ := ((Box.new _ _ _ _ _ _ _).up up).open)
     | (go_at_call 72; refine (refForm _ _).mono ?_; rintro e w'' ⟨rfl, rfl⟩)
     | (go_at_call 96; refine (low _ _ _ (by omega) (by omega) (by omega) (by omega)).mono ?_; rintro e w'' ⟨rfl, rfl⟩))
   go_ret2
   exact ⟨by rw [← HW.out]; rfl, ((Up.refl _).alloc _).trans up⟩
 · have HW : Hid (op * 67108864 + rd * 4194304 + ra * 262144 + M.L imm 18 = M.word op rd ra rb imm) := Lib.hid (by unfold M.word; rw [if_neg hf]; rfl)
   have hb : (M.form op == 1) = false := beq_eq_false_iff_ne.2 hf
   clear hf
   go_enter Tryz.func74, Tryz.ntmps74
   go_wp2_with (first
     | (go_at_call 95; refine (may _ _ _ _ _ _ (by omega) (by omega)).mono ?_; rintro e w' ⟨rfl, up⟩; obtain ⟨k0, k1, k2, k3, k4, k5⟩ := ((Box.new _ _ _ _ _ _ _).up up).open)
     | (go_at_call 72; refine (refForm _ _).mono ?_; rintro e w'' ⟨rfl, rfl⟩)
     | (go_at_call 96; refine (low _ _ _ (by omega) (by omega) (by omega) (by omega)).mono ?_; rintro e w'' ⟨rfl, rfl⟩))
   go_ret2
   exact ⟨by rw [← HW.out]; rfl, ((Up.refl _).alloc _).trans up⟩

set_option maxHeartbeats 400000 in
theorem refEncode_no (op rd ra rb imm : Int) (W : World) (h : M.ok op rd ra rb imm = false) (hx0 : -2147483648 ≤ imm) (hx : imm < 2147483648) :
   Calls Tryz.prog 74 #[.agg #[.int .i64 op, .int .i64 rd, .int .i64 ra, .int .i64 rb, .int .i32 imm]] W fun e W' => e = .returned (.tuple #[.int .u32 0, .bool false]) ∧ Up W W' := by
 go_enter Tryz.func74, Tryz.ntmps74
 go_wp2_with (go_at_call 95; refine (may _ _ _ _ _ _ (by omega) (by omega)).mono ?_; rintro e w' ⟨rfl, up⟩)
 go_ret2
 exact ⟨rfl, ((Up.refl _).alloc _).trans up⟩

theorem Box.new2 (w : World) (o : Obj) (v0 v1 v2 v3 v4 : Value) (t : TypeId) : Box ((w.alloc o).alloc (.cells #[v0, v1, v2, v3, v4] t)) (w.heap.size + 1) v0 v1 v2 v3 v4 := by
 have h := Box.new (w.alloc o) v0 v1 v2 v3 v4 t
 rwa [World.size_alloc] at h
theorem Box.drewN {w : World} {b : Nat} {v0 v1 v2 v3 v4 : Value} (h : Box w b v0 v1 v2 v3 v4) (n : Nat) : Box (w.drewN n) b v0 v1 v2 v3 v4 := ⟨h.c0, h.c1, h.c2, h.c3, h.c4, h.lt, h.fr⟩
theorem addr_ne {b i c j : Nat} (h : b ≠ c ∨ i ≠ j) : (⟨b, i, none⟩ : Addr) ≠ ⟨c, j, none⟩ := by
 intro e; injection e with e1 e2; omega
theorem Box.set4 {w : World} {b : Nat} {v0 v1 v2 v3 v4 : Value} (h : Box w b v0 v1 v2 v3 v4) (u : Value) : Box (w.setCell ⟨b, 4, none⟩ u) b v0 v1 v2 v3 u :=
 ⟨(World.cell?_setCell_other _ _ _ _ (addr_ne (.inr (by decide)))).trans h.c0, (World.cell?_setCell_other _ _ _ _ (addr_ne (.inr (by decide)))).trans h.c1, (World.cell?_setCell_other _ _ _ _ (addr_ne (.inr (by decide)))).trans h.c2,
   (World.cell?_setCell_other _ _ _ _ (addr_ne (.inr (by decide)))).trans h.c3, World.cell?_setCell_same _ _ _ h.c4, by rw [World.size_setCell]; exact h.lt, fun j => by rw [World.frozen?_setCell]; exact h.fr j⟩
theorem Box.other {w : World} {b c j : Nat} {v0 v1 v2 v3 v4 : Value} (h : Box w b v0 v1 v2 v3 v4) (hn : c ≠ b) (u : Value) : Box (w.setCell ⟨c, j, none⟩ u) b v0 v1 v2 v3 v4 :=
 ⟨(World.cell?_setCell_other _ _ _ _ (addr_ne (.inl hn))).trans h.c0, (World.cell?_setCell_other _ _ _ _ (addr_ne (.inl hn))).trans h.c1, (World.cell?_setCell_other _ _ _ _ (addr_ne (.inl hn))).trans h.c2,
   (World.cell?_setCell_other _ _ _ _ (addr_ne (.inl hn))).trans h.c3, (World.cell?_setCell_other _ _ _ _ (addr_ne (.inl hn))).trans h.c4, by rw [World.size_setCell]; exact h.lt, fun j => by rw [World.frozen?_setCell]; exact h.fr j⟩

set_option maxHeartbeats 400000 in
theorem refDecode_yes (w : Int) (W : World) (h0 : 0 ≤ w) (h : w < 4294967296) (hd : M.dok w = true) :
   Calls Tryz.prog 47 #[.int .u32 w] W fun e W' => e = .returned (.tuple #[.agg #[.int .i64 (M.dOp w), .int .i64 (M.dRd w), .int .i64 (M.dRa w), .int .i64 (M.dRb w), .int .i32 (M.dImm w)], .bool true]) ∧ Up W W' := by
 have hr := dImm_rng w
 unfold M.dok at hd
 simp only [Bool.and_eq_true] at hd
 obtain ⟨hd1, hd2⟩ := hd
 have HW : Hid (M.word (M.dOp w) (M.dRd w) (M.dRa w) (M.dRb w) (M.dImm w) = w) := Lib.hid (by simpa using hd2)
 have hd3 : (M.word (M.dOp w) (M.dRd w) (M.dRa w) (M.dRb w) (M.dImm w) != w) = false := by rw [HW.out]; simp
 clear hd2
 by_cases hf : M.form (M.dOp w) = 1
 · have hb : (M.form (w / 67108864) == 1) = true := beq_iff_eq.2 hf
   have e1 : M.dRb w = w % 16 := if_pos hf
   have e2 : M.dImm w = 0 := if_pos hf
   rw [e1, e2] at hd1 hd3
   replace hd1 : M.ok (w / 67108864) (w / 4194304 % 16) (w / 262144 % 16) (w % 16) 0 = true := hd1
   replace hd3 : (M.word (w / 67108864) (w / 4194304 % 16) (w / 262144 % 16) (w % 16) 0 != w) = false := hd3
   have E1 := Lib.hid e1
   have E2 := Lib.hid e2
   clear hf e1 e2
   go_enter Tryz.func47, Tryz.ntmps47
   go_wp2_with (first
     | (go_at_call 72; refine (refForm _ _).mono ?_; rintro e w'' ⟨rfl, rfl⟩)
     | (go_at_call 74; refine (refEncode_yes _ _ _ _ _ _ hd1).mono ?_; rintro e w2 ⟨rfl, up2⟩; obtain ⟨l0, l1, l2, l3, l4, l5⟩ := ((Box.new2 _ _ _ _ _ _ _ _).up up2).open; have bx := ((Box.new _ _ _ _ _ _ _).up ((Up.refl _).alloc _)).up up2; obtain ⟨m0, m1, m2, m3, m4, m5⟩ := bx.open; have fr := bx.fr; clear bx))
   refine bodyPost_ret (by simp [results, Tryz.results47, go_sem, m0, m1, m2, m3, m4]; try rfl) rfl ?_
   have s0 : Up W w2 := (((Up.refl _).alloc _).alloc _).trans up2
   exact ⟨by rw [E1.out, E2.out]; rfl, ((((s0.setCell (Nat.le_refl _) _).setCell (Nat.le_refl _) _).setCell (Nat.le_refl _) _).setCell (Nat.le_refl _) _).setCell (Nat.le_refl _) _⟩
 · have hb : (M.form (w / 67108864) == 1) = false := beq_eq_false_iff_ne.2 hf
   have e1 : M.dRb w = 0 := if_neg hf
   have e2 : M.dImm w = M.S w 18 := if_neg hf
   rw [e1, e2] at hd1 hd3
   replace hd1 : M.ok (w / 67108864) (w / 4194304 % 16) (w / 262144 % 16) 0 (M.S w 18) = true := hd1
   replace hd3 : (M.word (w / 67108864) (w / 4194304 % 16) (w / 262144 % 16) 0 (M.S w 18) != w) = false := hd3
   have E1 := Lib.hid e1
   have E2 := Lib.hid e2
   clear hf e1 e2
   go_enter Tryz.func47, Tryz.ntmps47
   go_wp2_with (first
     | (go_at_call 72; refine (refForm _ _).mono ?_; rintro e w'' ⟨rfl, rfl⟩)
     | (go_at_call 73; refine (sign _ _ _ (by omega) (by omega) (by omega) (by omega)).mono ?_; rintro e w'' ⟨rfl, q, rfl⟩)
     | (go_at_call 74; refine (refEncode_yes _ _ _ _ _ _ hd1).mono ?_; rintro e w2 ⟨rfl, up2⟩; obtain ⟨l0, l1, l2, l3, l4, l5⟩ := ((((Box.new2 _ _ _ _ _ _ _ _).drewN q).set4 _).up up2).open; have bx := ((((Box.new _ _ _ _ _ _ _).up ((Up.refl _).alloc _)).drewN q).other (Nat.succ_ne_self _) _).up up2; obtain ⟨m0, m1, m2, m3, m4, m5⟩ := bx.open; have fr := bx.fr; clear bx))
   refine bodyPost_ret (by simp [results, Tryz.results47, go_sem, m0, m1, m2, m3, m4]; try rfl) rfl ?_
   have s0 : Up W w2 := (((((Up.refl _).alloc _).alloc _).drewN q).setCell (Nat.le_succ _) _).trans up2
   exact ⟨by rw [E1.out, E2.out]; rfl, ((((s0.setCell (Nat.le_refl _) _).setCell (Nat.le_refl _) _).setCell (Nat.le_refl _) _).setCell (Nat.le_refl _) _).setCell (Nat.le_refl _) _⟩

set_option maxHeartbeats 400000 in
theorem refDecode_no1 (w : Int) (W : World) (h0 : 0 ≤ w) (h : w < 4294967296) (hd1 : M.ok (M.dOp w) (M.dRd w) (M.dRa w) (M.dRb w) (M.dImm w) = false) :
   Calls Tryz.prog 47 #[.int .u32 w] W fun e W' => e = .returned (.tuple #[.agg #[.int .i64 0, .int .i64 0, .int .i64 0, .int .i64 0, .int .i32 0], .bool false]) ∧ Up W W' := by
 have hr := M.S_rng w 18 (by decide) (by decide)
 by_cases hf : M.form (M.dOp w) = 1
 · have hb : (M.form (w / 67108864) == 1) = true := beq_iff_eq.2 hf
   have e1 : M.dRb w = w % 16 := if_pos hf
   have e2 : M.dImm w = 0 := if_pos hf
   rw [e1, e2] at hd1
   replace hd1 : M.ok (w / 67108864) (w / 4194304 % 16) (w / 262144 % 16) (w % 16) 0 = false := hd1
   clear hf e1 e2
   go_enter Tryz.func47, Tryz.ntmps47
   go_wp2_with (first
     | (go_at_call 72; refine (refForm _ _).mono ?_; rintro e w'' ⟨rfl, rfl⟩)
     | (go_at_call 74; refine (refEncode_no _ _ _ _ _ _ hd1 (by omega) (by omega)).mono ?_; rintro e w2 ⟨rfl, up2⟩; obtain ⟨l0, l1, l2, l3, l4, l5⟩ := ((Box.new2 _ _ _ _ _ _ _ _).up up2).open; have bx := ((Box.new _ _ _ _ _ _ _).up ((Up.refl _).alloc _)).up up2; obtain ⟨m0, m1, m2, m3, m4, m5⟩ := bx.open; have fr := bx.fr; clear bx))
   refine bodyPost_ret (by simp [results, Tryz.results47, go_sem, m0, m1, m2, m3, m4]; try rfl) rfl ?_
   have s0 : Up W w2 := (((Up.refl _).alloc _).alloc _).trans up2
   exact ⟨rfl, ((((s0.setCell (Nat.le_refl _) _).setCell (Nat.le_refl _) _).setCell (Nat.le_refl _) _).setCell (Nat.le_refl _) _).setCell (Nat.le_refl _) _⟩
 · have hb : (M.form (w / 67108864) == 1) = false := beq_eq_false_iff_ne.2 hf
   have e1 : M.dRb w = 0 := if_neg hf
   have e2 : M.dImm w = M.S w 18 := if_neg hf
   rw [e1, e2] at hd1
   replace hd1 : M.ok (w / 67108864) (w / 4194304 % 16) (w / 262144 % 16) 0 (M.S w 18) = false := hd1
   clear hf e1 e2
   go_enter Tryz.func47, Tryz.ntmps47
   go_wp2_with (first
     | (go_at_call 72; refine (refForm _ _).mono ?_; rintro e w'' ⟨rfl, rfl⟩)
     | (go_at_call 73; refine (sign _ _ _ (by omega) (by omega) (by omega) (by omega)).mono ?_; rintro e w'' ⟨rfl, q, rfl⟩)
     | (go_at_call 74; refine (refEncode_no _ _ _ _ _ _ hd1 (by omega) (by omega)).mono ?_; rintro e w2 ⟨rfl, up2⟩; obtain ⟨l0, l1, l2, l3, l4, l5⟩ := ((((Box.new2 _ _ _ _ _ _ _ _).drewN q).set4 _).up up2).open; have bx := ((((Box.new _ _ _ _ _ _ _).up ((Up.refl _).alloc _)).drewN q).other (Nat.succ_ne_self _) _).up up2; obtain ⟨m0, m1, m2, m3, m4, m5⟩ := bx.open; have fr := bx.fr; clear bx))
   refine bodyPost_ret (by simp [results, Tryz.results47, go_sem, m0, m1, m2, m3, m4]; try rfl) rfl ?_
   have s0 : Up W w2 := (((((Up.refl _).alloc _).alloc _).drewN q).setCell (Nat.le_succ _) _).trans up2
   exact ⟨rfl, ((((s0.setCell (Nat.le_refl _) _).setCell (Nat.le_refl _) _).setCell (Nat.le_refl _) _).setCell (Nat.le_refl _) _).setCell (Nat.le_refl _) _⟩

set_option maxHeartbeats 400000 in
theorem refDecode_no2 (w : Int) (W : World) (h0 : 0 ≤ w) (h : w < 4294967296) (hd1 : M.ok (M.dOp w) (M.dRd w) (M.dRa w) (M.dRb w) (M.dImm w) = true) (hd3 : (M.word (M.dOp w) (M.dRd w) (M.dRa w) (M.dRb w) (M.dImm w) != w) = true) :
   Calls Tryz.prog 47 #[.int .u32 w] W fun e W' => e = .returned (.tuple #[.agg #[.int .i64 0, .int .i64 0, .int .i64 0, .int .i64 0, .int .i32 0], .bool false]) ∧ Up W W' := by
 have hr := M.S_rng w 18 (by decide) (by decide)
 by_cases hf : M.form (M.dOp w) = 1
 · have hb : (M.form (w / 67108864) == 1) = true := beq_iff_eq.2 hf
   have e1 : M.dRb w = w % 16 := if_pos hf
   have e2 : M.dImm w = 0 := if_pos hf
   rw [e1, e2] at hd1 hd3
   replace hd1 : M.ok (w / 67108864) (w / 4194304 % 16) (w / 262144 % 16) (w % 16) 0 = true := hd1
   replace hd3 : (M.word (w / 67108864) (w / 4194304 % 16) (w / 262144 % 16) (w % 16) 0 != w) = true := hd3
   clear hf e1 e2
   go_enter Tryz.func47, Tryz.ntmps47
   go_wp2_with (first
     | (go_at_call 72; refine (refForm _ _).mono ?_; rintro e w'' ⟨rfl, rfl⟩)
     | (go_at_call 74; refine (refEncode_yes _ _ _ _ _ _ hd1).mono ?_; rintro e w2 ⟨rfl, up2⟩; obtain ⟨l0, l1, l2, l3, l4, l5⟩ := ((Box.new2 _ _ _ _ _ _ _ _).up up2).open; have bx := ((Box.new _ _ _ _ _ _ _).up ((Up.refl _).alloc _)).up up2; obtain ⟨m0, m1, m2, m3, m4, m5⟩ := bx.open; have fr := bx.fr; clear bx))
   refine bodyPost_ret (by simp [results, Tryz.results47, go_sem, m0, m1, m2, m3, m4]; try rfl) rfl ?_
   have s0 : Up W w2 := (((Up.refl _).alloc _).alloc _).trans up2
   exact ⟨rfl, ((((s0.setCell (Nat.le_refl _) _).setCell (Nat.le_refl _) _).setCell (Nat.le_refl _) _).setCell (Nat.le_refl _) _).setCell (Nat.le_refl _) _⟩
 · have hb : (M.form (w / 67108864) == 1) = false := beq_eq_false_iff_ne.2 hf
   have e1 : M.dRb w = 0 := if_neg hf
   have e2 : M.dImm w = M.S w 18 := if_neg hf
   rw [e1, e2] at hd1 hd3
   replace hd1 : M.ok (w / 67108864) (w / 4194304 % 16) (w / 262144 % 16) 0 (M.S w 18) = true := hd1
   replace hd3 : (M.word (w / 67108864) (w / 4194304 % 16) (w / 262144 % 16) 0 (M.S w 18) != w) = true := hd3
   clear hf e1 e2
   go_enter Tryz.func47, Tryz.ntmps47
   go_wp2_with (first
     | (go_at_call 72; refine (refForm _ _).mono ?_; rintro e w'' ⟨rfl, rfl⟩)
     | (go_at_call 73; refine (sign _ _ _ (by omega) (by omega) (by omega) (by omega)).mono ?_; rintro e w'' ⟨rfl, q, rfl⟩)
     | (go_at_call 74; refine (refEncode_yes _ _ _ _ _ _ hd1).mono ?_; rintro e w2 ⟨rfl, up2⟩; obtain ⟨l0, l1, l2, l3, l4, l5⟩ := ((((Box.new2 _ _ _ _ _ _ _ _).drewN q).set4 _).up up2).open; have bx := ((((Box.new _ _ _ _ _ _ _).up ((Up.refl _).alloc _)).drewN q).other (Nat.succ_ne_self _) _).up up2; obtain ⟨m0, m1, m2, m3, m4, m5⟩ := bx.open; have fr := bx.fr; clear bx))
   refine bodyPost_ret (by simp [results, Tryz.results47, go_sem, m0, m1, m2, m3, m4]; try rfl) rfl ?_
   have s0 : Up W w2 := (((((Up.refl _).alloc _).alloc _).drewN q).setCell (Nat.le_succ _) _).trans up2
   exact ⟨rfl, ((((s0.setCell (Nat.le_refl _) _).setCell (Nat.le_refl _) _).setCell (Nat.le_refl _) _).setCell (Nat.le_refl _) _).setCell (Nat.le_refl _) _⟩

end Go.Proofs.YtclpdjpaaagkdaaGreatDoor.Is
