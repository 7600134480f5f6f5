/-
  Plain mathematics of bit fields of natural numbers, with no program in sight: a field read (ext) and a field replaced (ins), told by their bits; the signed reading of a field. Conditions: none but those that stand in each lemma.
-/
import Derived.KernelRfl
namespace Go.Proofs.YthkhahfhbhgfhaaDoor.M

def ext (w a n : Nat) : Nat := w / 2 ^ a % 2 ^ n
def ins (w a n v : Nat) : Nat := w ^^^ ((ext w a n ^^^ v % 2 ^ n) * 2 ^ a)

theorem bit_ext (w a n i : Nat) : (ext w a n).testBit i = (decide (i < n) && w.testBit (i + a)) := by
  unfold ext
  rw [Nat.testBit_mod_two_pow, Nat.testBit_div_two_pow]

theorem bit_ins (w a n v i : Nat) : (ins w a n v).testBit i = if a ≤ i ∧ i < a + n then v.testBit (i - a) else w.testBit i := by
  unfold ins
  rw [Nat.testBit_xor, Nat.testBit_mul_two_pow, Nat.testBit_xor, bit_ext, Nat.testBit_mod_two_pow]
  by_cases h1 : a ≤ i
  · have e : i - a + a = i := by omega
    rw [e]
    by_cases h2 : i < a + n
    · have h3 : i - a < n := by omega
      simp only [h1, h2, h3, decide_true, Bool.true_and, and_self, if_true]
      cases w.testBit i <;> cases v.testBit (i - a) <;> rfl
    · have h3 : ¬ (i - a < n) := by omega
      simp [h1, h2, h3]
  · simp [h1]

theorem ext_lt (w a n : Nat) : ext w a n < 2 ^ n := Nat.mod_lt _ (Nat.two_pow_pos n)

theorem bit_high {w k i : Nat} (h : w < 2 ^ k) (hi : k ≤ i) : w.testBit i = false :=
  Nat.testBit_lt_two_pow (Nat.lt_of_lt_of_le h (Nat.pow_le_pow_right (by decide) hi))

theorem ins_lt (w a n v k : Nat) (h : w < 2 ^ k) (hk : a + n ≤ k) : ins w a n v < 2 ^ k := by
  apply Nat.lt_pow_two_of_testBit
  intro i hi
  rw [bit_ins, if_neg (by omega)]
  exact bit_high h hi

theorem ext_ins (w a n v : Nat) : ext (ins w a n v) a n = ext v 0 n := by
  apply Nat.eq_of_testBit_eq; intro i
  rw [bit_ext, bit_ext, bit_ins]
  by_cases h : i < n
  · rw [if_pos (by omega)]; simp [h]
  · simp [h]

theorem ins_back (w a n v : Nat) : ins (ins w a n v) a n (ext w a n) = w := by
  apply Nat.eq_of_testBit_eq; intro i
  rw [bit_ins, bit_ins]
  by_cases h : a ≤ i ∧ i < a + n
  · rw [if_pos h, bit_ext]
    have h1 : i - a < n := by omega
    have h2 : i - a + a = i := by omega
    simp [h1, h2]
  · rw [if_neg h, if_neg h]

theorem ins_ins (w a n v u : Nat) : ins (ins w a n v) a n u = ins w a n u := by
  apply Nat.eq_of_testBit_eq; intro i
  rw [bit_ins, bit_ins, bit_ins]
  by_cases h : a ≤ i ∧ i < a + n
  · rw [if_pos h, if_pos h]
  · rw [if_neg h, if_neg h, if_neg h]

theorem ext_apart (w a n v b m : Nat) (h : a + n ≤ b ∨ b + m ≤ a) : ext (ins w a n v) b m = ext w b m := by
  apply Nat.eq_of_testBit_eq; intro i
  rw [bit_ext, bit_ext, bit_ins]
  by_cases hi : i < m
  · rw [if_neg (by omega)]
  · simp [hi]

theorem ins_apart (w a n v b m u : Nat) (h : a + n ≤ b ∨ b + m ≤ a) : ins (ins w b m u) a n v = ins (ins w a n v) b m u := by
  apply Nat.eq_of_testBit_eq; intro i
  rw [bit_ins, bit_ins, bit_ins, bit_ins]
  by_cases h1 : a ≤ i ∧ i < a + n
  · rw [if_pos h1, if_neg (by omega), if_pos h1]
  · rw [if_neg h1]
    by_cases h2 : b ≤ i ∧ i < b + m
    · rw [if_pos h2, if_pos h2]
    · rw [if_neg h2, if_neg h2, if_neg h1]

theorem ins_whole (u w k : Nat) (hu : u < 2 ^ k) (hw : w < 2 ^ k) : ins u 0 k w = w := by
  apply Nat.eq_of_testBit_eq; intro i
  rw [bit_ins]
  by_cases h : i < k
  · rw [if_pos (by omega)]; rfl
  · rw [if_neg (by omega), bit_high hu (by omega), bit_high hw (by omega)]

theorem ext_whole (w k : Nat) (hw : w < 2 ^ k) : ext w 0 k = w := by
  unfold ext; rw [Nat.pow_zero, Nat.div_one]; exact Nat.mod_eq_of_lt hw

theorem ext_split (w a n k : Nat) (hk : k ≤ n) : ext w a n = ins (ext w a k) k (n - k) (ext w (a + k) (n - k)) := by
  apply Nat.eq_of_testBit_eq; intro i
  rw [bit_ins, bit_ext, bit_ext, bit_ext]
  by_cases h : k ≤ i ∧ i < k + (n - k)
  · rw [if_pos h]
    have h1 : i < n := by omega
    have h2 : i - k < n - k := by omega
    have h3 : i - k + (a + k) = i + a := by omega
    simp [h1, h2, h3]
  · rw [if_neg h]
    by_cases h1 : i < k
    · have h2 : i < n := by omega
      simp [h1, h2]
    · have h2 : ¬ i < n := by omega
      simp [h1, h2]

theorem ins_split (u w a n k : Nat) (hk : k ≤ n) : ins u a n (ext w a n) = ins (ins u a k (ext w a k)) (a + k) (n - k) (ext w (a + k) (n - k)) := by
  apply Nat.eq_of_testBit_eq; intro i
  rw [bit_ins, bit_ins, bit_ins, bit_ext, bit_ext, bit_ext]
  by_cases h : a ≤ i ∧ i < a + n
  · rw [if_pos h]
    have h1 : i - a < n := by omega
    have h2 : i - a + a = i := by omega
    by_cases h3 : i < a + k
    · rw [if_neg (by omega), if_pos (by omega)]
      have h4 : i - a < k := by omega
      simp [h1, h2, h4]
    · rw [if_pos (by omega)]
      have h4 : i - (a + k) < n - k := by omega
      have h5 : i - (a + k) + (a + k) = i := by omega
      simp [h1, h2, h4, h5]
  · rw [if_neg h, if_neg (by omega), if_neg (by omega)]

/-- one bit more of a number -/
theorem mod_succ (x k : Nat) : x % 2 ^ (k + 1) = x % 2 ^ k + (x / 2 ^ k % 2) * 2 ^ k := by
  rw [Nat.pow_succ, Nat.mod_mul, Nat.mul_comm]

theorem ext_one (w i : Nat) : ext w i 1 = (w.testBit i).toNat := by
  unfold ext
  rw [Nat.testBit_eq_decide_div_mod_eq, Nat.pow_one]
  have : w / 2 ^ i % 2 < 2 := Nat.mod_lt _ (by decide)
  by_cases h : w / 2 ^ i % 2 = 1
  · simp [h]
  · have h0 : w / 2 ^ i % 2 = 0 := by omega
    simp [h0]

theorem bit_of_ins_in (w a n v i : Nat) (h : a ≤ i ∧ i < a + n) : ext (ins w a n v) i 1 = ext v (i - a) 1 := by
  rw [ext_one, ext_one, bit_ins, if_pos h]

theorem bit_of_ins_out (w a n v i : Nat) (h : ¬ (a ≤ i ∧ i < a + n)) : ext (ins w a n v) i 1 = ext w i 1 := by
  rw [ext_one, ext_one, bit_ins, if_neg h]

/-- the program's own formula for a field replaced -/
theorem ins_code (w a n v : Nat) (hw : w < 2 ^ 32) (h : a + n ≤ 32) :
    w &&& (2 ^ 32 - 1 - (2 ^ n - 1) * 2 ^ a) ||| (v % 2 ^ n) * 2 ^ a = ins w a n v := by
  have hlt : (2 ^ n - 1) * 2 ^ a < 2 ^ 32 := by
    have h1 : (2 ^ n - 1) * 2 ^ a < 2 ^ n * 2 ^ a := Nat.mul_lt_mul_of_pos_right (by have := Nat.two_pow_pos n; omega) (Nat.two_pow_pos a)
    rw [← Nat.pow_add] at h1
    exact Nat.lt_of_lt_of_le h1 (Nat.pow_le_pow_right (by decide) (by omega))
  apply Nat.eq_of_testBit_eq; intro i
  have e : 2 ^ 32 - 1 - (2 ^ n - 1) * 2 ^ a = 2 ^ 32 - ((2 ^ n - 1) * 2 ^ a + 1) := by omega
  rw [bit_ins, Nat.testBit_or, Nat.testBit_and, e, Nat.testBit_two_pow_sub_succ hlt, Nat.testBit_mul_two_pow, Nat.testBit_mul_two_pow, Nat.testBit_mod_two_pow, Nat.testBit_two_pow_sub_one]
  by_cases h1 : a ≤ i ∧ i < a + n
  · rw [if_pos h1]
    have h2 : i - a < n := by omega
    simp [h1.1, h2]
  · rw [if_neg h1]
    by_cases h3 : i < 32
    · by_cases h4 : a ≤ i
      · have h5 : ¬ i - a < n := by omega
        simp [h3, h5]
      · simp [h3, h4]
    · rw [bit_high hw (by omega)]
      have h5 : ¬ i - a < n := by omega
      simp [h5]

end Go.Proofs.YthkhahfhbhgfhaaDoor.M
