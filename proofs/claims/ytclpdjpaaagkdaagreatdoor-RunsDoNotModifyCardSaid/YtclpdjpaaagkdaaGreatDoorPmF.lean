/-
  Contracts over the translated program and the plain facts behind them, of the texts: Math, Fields, Laws. Conditions: those that stand in each theorem.
-/
import Derived.KernelRfl
import Derived.WalkKit
namespace Go.Proofs.YtclpdjpaaagkdaaGreatDoor.M

def ext (w a n : Nat) : Nat := w / 2 ^ a % 2 ^ n
def ins (w a n v : Nat) : Nat := w ^^^ ((ext w a n ^^^ v % 2 ^ n) * 2 ^ a)

theorem bit_ext (w a n i : Nat) : (ext w a n).testBit i = (decide (i < n) && w.testBit (i + a)) := by
 unfold ext
 rw [Nat.testBit_mod_two_pow, Nat.testBit_div_two_pow]

theorem bit_ins (w a n v i : Nat) : (ins w a n v).testBit i = if a ≤ i ∧ i < a + n then v.testBit (i - a) else w.testBit i := by
 unfold ins
 rw [Nat.testBit_xor, Nat.testBit_mul_two_pow, Nat.testBit_xor, bit_ext, Nat.testBit_mod_two_pow]
 by_cases h1 : a ≤ i
 · have e : i - a + a = i := by omega
   rw [e]
   by_cases h2 : i < a + n
   · have h3 : i - a < n := by omega
     simp only [h1, h2, h3, decide_true, Bool.true_and, and_self, if_true]
     cases w.testBit i <;> cases v.testBit (i - a) <;> rfl
   · have h3 : ¬ (i - a < n) := by omega
     simp [h1, h2, h3]
 · simp [h1]

theorem ext_lt (w a n : Nat) : ext w a n < 2 ^ n := Nat.mod_lt _ (Nat.two_pow_pos n)

theorem bit_high {w k i : Nat} (h : w < 2 ^ k) (hi : k ≤ i) : w.testBit i = false :=
 Nat.testBit_lt_two_pow (Nat.lt_of_lt_of_le h (Nat.pow_le_pow_right (by decide) hi))

theorem ins_lt (w a n v k : Nat) (h : w < 2 ^ k) (hk : a + n ≤ k) : ins w a n v < 2 ^ k := by
 apply Nat.lt_pow_two_of_testBit
 intro i hi
 rw [bit_ins, if_neg (by omega)]
 exact bit_high h hi

theorem ext_ins (w a n v : Nat) : ext (ins w a n v) a n = ext v 0 n := by
 apply Nat.eq_of_testBit_eq; intro i
 rw [bit_ext, bit_ext, bit_ins]
 by_cases h : i < n
 · rw [if_pos (by omega)]; simp [h]
 · simp [h]

theorem ext_apart (w a n v b m : Nat) (h : a + n ≤ b ∨ b + m ≤ a) : ext (ins w a n v) b m = ext w b m := by
 apply Nat.eq_of_testBit_eq; intro i
 rw [bit_ext, bit_ext, bit_ins]
 by_cases hi : i < m
 · rw [if_neg (by omega)]
 · simp [hi]

theorem mod_succ (x k : Nat) : x % 2 ^ (k + 1) = x % 2 ^ k + (x / 2 ^ k % 2) * 2 ^ k := by
 rw [Nat.pow_succ, Nat.mod_mul, Nat.mul_comm]

theorem ext_one (w i : Nat) : ext w i 1 = (w.testBit i).toNat := by
 unfold ext
 rw [Nat.testBit_eq_decide_div_mod_eq, Nat.pow_one]
 have : w / 2 ^ i % 2 < 2 := Nat.mod_lt _ (by decide)
 by_cases h : w / 2 ^ i % 2 = 1
 · simp [h]
 · have h0 : w / 2 ^ i % 2 = 0 := by omega
   simp [h0]

theorem bit_of_ins_in (w a n v i : Nat) (h : a ≤ i ∧ i < a + n) : ext (ins w a n v) i 1 = ext v (i - a) 1 := by
 rw [ext_one, ext_one, bit_ins, if_pos h]

theorem bit_of_ins_out (w a n v i : Nat) (h : ¬ (a ≤ i ∧ i < a + n)) : ext (ins w a n v) i 1 = ext w i 1 := by
 rw [ext_one, ext_one, bit_ins, if_neg h]

end Go.Proofs.YtclpdjpaaagkdaaGreatDoor.M
namespace Go.Proofs.YtclpdjpaaagkdaaGreatDoor.M
open Go.RowKit

def E (w a n : Int) : Int := (ext w.toNat a.toNat n.toNat : Nat)
def I (w a n v : Int) : Int := (ins w.toNat a.toNat n.toNat v.toNat : Nat)
theorem pow_pos32 (n : Int) : 0 < (2 : Int) ^ n.toNat := Int.pow_pos (by decide)

theorem cast_pow (k : Nat) : ((2 ^ k : Nat) : Int) = (2 : Int) ^ k := by simp

theorem E_eq (w a n : Int) (hw : 0 ≤ w) : w / 2 ^ a.toNat % 2 ^ n.toNat = E w a n := by
 obtain ⟨X, rfl⟩ := Int.eq_ofNat_of_zero_le hw
 unfold E ext
 rw [Int.natCast_emod, Int.natCast_ediv, cast_pow, cast_pow]; rfl

end Go.Proofs.YtclpdjpaaagkdaaGreatDoor.M
namespace Go.Proofs.YtclpdjpaaagkdaaGreatDoor.M
open Go.RowKit

theorem E_rng (w a n : Int) (hn : n ≤ 32) : 0 ≤ E w a n ∧ E w a n < 4294967296 := by
 have h := ext_lt w.toNat a.toNat n.toNat
 have h2 : 2 ^ n.toNat ≤ 2 ^ 32 := Nat.pow_le_pow_right (by decide) (by omega)
 unfold E; omega

theorem I_rng (w a n v : Int) (hw : w < 4294967296) (ha : 0 ≤ a) (hn : 0 ≤ n) (h : a + n ≤ 32) : 0 ≤ I w a n v ∧ I w a n v < 4294967296 := by
 have h := ins_lt w.toNat a.toNat n.toNat v.toNat 32 (by omega) (by omega)
 unfold I; omega

theorem E_I (w a n v : Int) : E (I w a n v) a n = E v 0 n := by
 unfold E I; rw [Int.toNat_natCast, ext_ins]; rfl

theorem E_apart (w a n v b m : Int) (ha : 0 ≤ a) (hn : 0 ≤ n) (hb : 0 ≤ b) (hm : 0 ≤ m) (h : a + n ≤ b ∨ b + m ≤ a) : E (I w a n v) b m = E w b m := by
 unfold E I; rw [Int.toNat_natCast, ext_apart _ _ _ _ _ _ (by omega)]

end Go.Proofs.YtclpdjpaaagkdaaGreatDoor.M
