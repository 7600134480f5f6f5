/-
  The signed reading of a field of 1 to 32 bits, and what the Go operations of package bits come to, as plain facts on integers, with no program in sight. Conditions: those that stand in each lemma.
-/
import Derived.Test.YthkhahfhbhgfhaaDoorMath
import Derived.WalkKit
namespace Go.Proofs.YthkhahfhbhgfhaaDoor.M
open Go.RowKit

/-- a field read, a field replaced, the signed reading, whether a value fits, its low bits: over integers -/
def E (w a n : Int) : Int := (ext w.toNat a.toNat n.toNat : Nat)
def I (w a n v : Int) : Int := (ins w.toNat a.toNat n.toNat v.toNat : Nat)
def S (v n : Int) : Int := if 2 ^ (n.toNat - 1) ≤ v % 2 ^ n.toNat then v % 2 ^ n.toNat - 2 ^ n.toNat else v % 2 ^ n.toNat
def F (x n : Int) : Bool := decide (-2 ^ (n.toNat - 1) ≤ x ∧ x < 2 ^ (n.toNat - 1))
def L (x n : Int) : Int := x % 2 ^ n.toNat

theorem widths (m : Nat) (h1 : 1 ≤ m) (h2 : m ≤ 32) : m = 1 ∨ m = 2 ∨ m = 3 ∨ m = 4 ∨ m = 5 ∨ m = 6 ∨ m = 7 ∨ m = 8 ∨ m = 9 ∨ m = 10 ∨ m = 11 ∨ m = 12 ∨ m = 13 ∨ m = 14 ∨ m = 15 ∨ m = 16 ∨ m = 17 ∨ m = 18 ∨ m = 19 ∨ m = 20 ∨ m = 21 ∨ m = 22 ∨ m = 23 ∨ m = 24 ∨ m = 25 ∨ m = 26 ∨ m = 27 ∨ m = 28 ∨ m = 29 ∨ m = 30 ∨ m = 31 ∨ m = 32 := by omega

theorem pow_le32 (n : Int) (hn : n ≤ 32) : (2 : Int) ^ n.toNat ≤ 4294967296 := by
  have h : 2 ^ n.toNat ≤ 2 ^ 32 := Nat.pow_le_pow_right (by decide) (by omega)
  have e : ((2 ^ n.toNat : Nat) : Int) = (2 : Int) ^ n.toNat := by simp
  rw [← e]; omega

theorem pow_pos32 (n : Int) : 0 < (2 : Int) ^ n.toNat := Int.pow_pos (by decide)

theorem cast_pow (k : Nat) : ((2 ^ k : Nat) : Int) = (2 : Int) ^ k := by simp

theorem and32 (x n : Int) (hx0 : 0 ≤ x) (hx : x < 4294967296) (hn : n ≤ 32) : bits .and .u32 x ((2 ^ n.toNat - 1) % 4294967296) = x % 2 ^ n.toNat := by
  have h1 := pow_le32 n hn
  have h2 := pow_pos32 n
  rw [Int.emod_eq_of_lt (by omega) (by omega)]
  obtain ⟨X, rfl⟩ := Int.eq_ofNat_of_zero_le hx0
  have h3 := Nat.two_pow_pos n.toNat
  have e : (2 : Int) ^ n.toNat - 1 = ((2 ^ n.toNat - 1 : Nat) : Int) := by rw [Int.natCast_sub (by omega), cast_pow]; rfl
  have h4 : 2 ^ n.toNat - 1 < 4294967296 := by rw [← cast_pow] at h1; omega
  rw [e, u32_and_nat _ _ (by omega) h4, Nat.and_two_pow_sub_one_eq_mod, Int.natCast_emod, cast_pow]

theorem and64 (x n : Int) (hx0 : 0 ≤ x) (hx : x < 18446744073709551616) (hn : n ≤ 32) : bits .and .u64 x (IntKind.u64.wrap (IntKind.u64.wrap (2 ^ n.toNat) - 1)) = x % 2 ^ n.toNat := by
  have h1 := pow_le32 n hn
  have h2 := pow_pos32 n
  rw [IntKind.wrap_u64, IntKind.wrap_u64, Int.emod_eq_of_lt (a := 2 ^ n.toNat) (by omega) (by omega), Int.emod_eq_of_lt (by omega) (by omega)]
  obtain ⟨X, rfl⟩ := Int.eq_ofNat_of_zero_le hx0
  have h3 := Nat.two_pow_pos n.toNat
  have e : (2 : Int) ^ n.toNat - 1 = ((2 ^ n.toNat - 1 : Nat) : Int) := by rw [Int.natCast_sub (by omega), cast_pow]; rfl
  have h4 : 2 ^ n.toNat - 1 < 18446744073709551616 := by rw [← cast_pow] at h1; omega
  rw [e, u64_and_nat _ _ (by omega) h4, Nat.and_two_pow_sub_one_eq_mod, Int.natCast_emod, cast_pow]

theorem E_eq (w a n : Int) (hw : 0 ≤ w) : w / 2 ^ a.toNat % 2 ^ n.toNat = E w a n := by
  obtain ⟨X, rfl⟩ := Int.eq_ofNat_of_zero_le hw
  unfold E ext
  rw [Int.natCast_emod, Int.natCast_ediv, cast_pow, cast_pow]; rfl

theorem I_eq (w a n v : Int) (hw0 : 0 ≤ w) (hw : w < 4294967296) (hv0 : 0 ≤ v) (ha : 0 ≤ a) (hn : 0 ≤ n) (h : a + n ≤ 32) :
    bits .or .u32 (bits .andNot .u32 w (4294967295 % 2 ^ n.toNat * 2 ^ a.toNat % 4294967296)) (v % 2 ^ n.toNat * 2 ^ a.toNat % 4294967296) = I w a n v := by
  obtain ⟨W, rfl⟩ := Int.eq_ofNat_of_zero_le hw0
  obtain ⟨V, rfl⟩ := Int.eq_ofNat_of_zero_le hv0
  obtain ⟨A, rfl⟩ := Int.eq_ofNat_of_zero_le ha
  obtain ⟨N, rfl⟩ := Int.eq_ofNat_of_zero_le hn
  rw [Int.toNat_natCast, Int.toNat_natCast]
  have hAN : A + N ≤ 32 := by omega
  have fit : ∀ y : Nat, y < 2 ^ N → y * 2 ^ A < 4294967296 := by
    intro y hy
    have h1 : y * 2 ^ A < 2 ^ N * 2 ^ A := Nat.mul_lt_mul_of_pos_right hy (Nat.two_pow_pos A)
    rw [← Nat.pow_add] at h1
    exact Nat.lt_of_lt_of_le h1 (Nat.pow_le_pow_right (n := 2) (by decide) (show N + A ≤ 32 by omega))
  have hm : 4294967295 % 2 ^ N = 2 ^ N - 1 := by
    have h1 : (2 ^ 32 - 1) % 2 ^ N = 2 ^ N - 1 := by
      apply Nat.eq_of_testBit_eq; intro i
      rw [Nat.testBit_mod_two_pow, Nat.testBit_two_pow_sub_one, Nat.testBit_two_pow_sub_one]
      by_cases hi : i < N
      · have : i < 32 := by omega
        simp [hi, this]
      · simp [hi]
    exact h1
  have e1 : (4294967295 : Int) % 2 ^ N * 2 ^ A % 4294967296 = (((2 ^ N - 1) * 2 ^ A : Nat) : Int) := by
    have h2 : (((4294967295 % 2 ^ N) * 2 ^ A % 4294967296 : Nat) : Int) = (4294967295 : Int) % 2 ^ N * 2 ^ A % 4294967296 := by simp
    rw [← h2, hm, Nat.mod_eq_of_lt (fit _ (by have := Nat.two_pow_pos N; omega))]
  have e2 : (V : Int) % 2 ^ N * 2 ^ A % 4294967296 = ((V % 2 ^ N * 2 ^ A : Nat) : Int) := by
    have h2 : ((V % 2 ^ N * 2 ^ A % 4294967296 : Nat) : Int) = (V : Int) % 2 ^ N * 2 ^ A % 4294967296 := by simp
    rw [← h2, Nat.mod_eq_of_lt (fit _ (Nat.mod_lt _ (Nat.two_pow_pos N)))]
  have f1 := fit (2 ^ N - 1) (by have := Nat.two_pow_pos N; omega)
  have f2 := fit (V % 2 ^ N) (Nat.mod_lt _ (Nat.two_pow_pos N))
  rw [e1, e2, u32_andNot_nat _ _ (by omega) f1, u32_or_nat _ _ (Nat.lt_of_le_of_lt Nat.and_le_left (by omega)) f2]
  have hc := ins_code W A N V (by omega) hAN
  unfold I
  rw [Int.toNat_natCast, Int.toNat_natCast, Int.toNat_natCast, Int.toNat_natCast, ← hc]

theorem S_eq (x n : Int) (hn0 : 1 ≤ n) (hn : n ≤ 32) :
    wrap32 (x * 2 ^ (32 - n).toNat % 4294967296) / 2 ^ (32 - n).toNat = S x n := by
  obtain ⟨m, rfl⟩ := Int.eq_ofNat_of_zero_le (show 0 ≤ n by omega)
  unfold S wrap32
  rcases widths m (by omega) (by omega) with rfl | rfl | rfl | rfl | rfl | rfl | rfl | rfl | rfl | rfl | rfl | rfl | rfl | rfl | rfl | rfl | rfl | rfl | rfl | rfl | rfl | rfl | rfl | rfl | rfl | rfl | rfl | rfl | rfl | rfl | rfl | rfl <;> simp <;> omega

theorem F_eq (x n : Int) (h0 : -2147483648 ≤ x) (h1 : x < 2147483648) (hn0 : 1 ≤ n) (hn : n ≤ 32) :
    (IntKind.u64.wrap (wrap64 (x + wrap64 (2 ^ (n.toNat - 1)))) % 2 ^ n.toNat == IntKind.u64.wrap (wrap64 (x + wrap64 (2 ^ (n.toNat - 1))))) = F x n := by
  obtain ⟨m, rfl⟩ := Int.eq_ofNat_of_zero_le (show 0 ≤ n by omega)
  rw [Bool.eq_iff_iff]
  unfold F wrap64
  rw [IntKind.wrap_u64, beq_iff_eq, decide_eq_true_eq]
  rcases widths m (by omega) (by omega) with rfl | rfl | rfl | rfl | rfl | rfl | rfl | rfl | rfl | rfl | rfl | rfl | rfl | rfl | rfl | rfl | rfl | rfl | rfl | rfl | rfl | rfl | rfl | rfl | rfl | rfl | rfl | rfl | rfl | rfl | rfl | rfl <;> simp <;> omega

theorem L_eq (x n : Int) (hn0 : 1 ≤ n) (hn : n ≤ 32) : x % 4294967296 % 2 ^ n.toNat = L x n := by
  unfold L
  obtain ⟨m, rfl⟩ := Int.eq_ofNat_of_zero_le (show 0 ≤ n by omega)
  apply Int.emod_emod_of_dvd
  have e : (4294967296 : Int) = 2 ^ m * 2 ^ (32 - m) := by rw [← Int.pow_add, show m + (32 - m) = 32 by omega]; rfl
  rw [e]; exact Int.dvd_mul_right _ _

end Go.Proofs.YthkhahfhbhgfhaaDoor.M
