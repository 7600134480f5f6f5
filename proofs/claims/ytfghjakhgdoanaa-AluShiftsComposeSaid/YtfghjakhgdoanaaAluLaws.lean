/-
  Plain mathematics: the laws of the arithmetic unit. No program in sight.
-/
import Derived.Test.YtfghjakhgdoanaaAluMath
namespace Go.Proofs.Ytfghjakhgdoanaa.M
set_option linter.unusedVariables false

/-! bits of two natural numbers together -/
theorem bits_sum : ∀ (n a b : Nat), a < 2 ^ n → b < 2 ^ n → (a &&& b) + (a ||| b) = a + b ∧ (a ||| b) = (a ^^^ b) + (a &&& b)
  | 0, a, b, ha, hb => by
    have ea : a = 0 := by simpa using ha
    have eb : b = 0 := by simpa using hb
    subst ea; subst eb; simp
  | n + 1, a, b, ha, hb => by
    have ih := bits_sum n (a / 2) (b / 2) (by omega) (by omega)
    have d1 : (a &&& b) / 2 = a / 2 &&& b / 2 := Nat.and_div_two
    have d2 : (a ||| b) / 2 = a / 2 ||| b / 2 := Nat.or_div_two
    have d3 : (a ^^^ b) / 2 = a / 2 ^^^ b / 2 := Nat.xor_div_two
    have m1 : (a &&& b) % 2 = 1 ↔ a % 2 = 1 ∧ b % 2 = 1 := Nat.and_mod_two_eq_one
    have m2 : (a ||| b) % 2 = 1 ↔ a % 2 = 1 ∨ b % 2 = 1 := Nat.or_mod_two_eq_one
    have m3 : (a ^^^ b) % 2 = 1 ↔ ¬ (a % 2 = 1 ↔ b % 2 = 1) := Nat.xor_mod_two_eq_one
    rw [← d1, ← d2, ← d3] at ih
    generalize a &&& b = p at *
    generalize a ||| b = q at *
    generalize a ^^^ b = r at *
    by_cases h1 : a % 2 = 1 <;> by_cases h2 : b % 2 = 1 <;> simp only [h1, h2, and_true, and_false, or_true, or_false, iff_true, iff_false, not_true, not_false_iff] at m1 m2 m3 <;> omega

theorem toNat_and (x y : Int) : (ev 3 x y).toNat = x.toNat &&& y.toNat := by rw [ev3, Int.toNat_natCast]
theorem toNat_or (x y : Int) : (ev 4 x y).toNat = x.toNat ||| y.toNat := by rw [ev4, Int.toNat_natCast]
theorem toNat_xor (x y : Int) : (ev 5 x y).toNat = x.toNat ^^^ y.toNat := by rw [ev5, Int.toNat_natCast]

theorem sub_add {x y : Int} (hx : U x) (hy : U y) : ev 2 (ev 1 x y) y = x := by
  have := hx.1; have := hx.2
  rw [ev2, ev1]; omega
theorem xor_xor {x : Int} (y : Int) (hx : U x) : ev 5 (ev 5 x y) y = x := by
  have := hx.1
  rw [ev5, toNat_xor, Nat.xor_assoc, Nat.xor_self, Nat.xor_zero]; omega
theorem add_and_or {x y : Int} (hx : U x) (hy : U y) : ev 1 (ev 3 x y) (ev 4 x y) = ev 1 x y := by
  have h := (bits_sum 32 x.toNat y.toNat (by have := hx.2; omega) (by have := hy.2; omega)).1
  have := hx.1; have := hy.1
  rw [ev1, ev1, ev3, ev4]; omega
theorem sub_or_and {x y : Int} (hx : U x) (hy : U y) : ev 2 (ev 4 x y) (ev 3 x y) = ev 5 x y := by
  have h := (bits_sum 32 x.toNat y.toNat (by have := hx.2; omega) (by have := hy.2; omega)).2
  have u := hx.ev (op := 5) hy
  have := u.1; have := u.2
  rw [ev5] at *
  rw [ev2, ev3, ev4]; omega

/-- the four commutative operations -/
def Comm (op : Int) : Prop := op = 1 ∨ op = 3 ∨ op = 4 ∨ op = 5
theorem comm {op : Int} (h : Comm op) (x y : Int) : ev op x y = ev op y x := by
  rcases h with rfl | rfl | rfl | rfl
  · rw [ev1, ev1, Int.add_comm]
  · rw [ev3, ev3, Nat.and_comm]
  · rw [ev4, ev4, Nat.or_comm]
  · rw [ev5, ev5, Nat.xor_comm]
theorem assoc {op : Int} (h : Comm op) (x y z : Int) : ev op (ev op x y) z = ev op x (ev op y z) := by
  rcases h with rfl | rfl | rfl | rfl
  · rw [ev1, ev1, ev1, ev1]; omega
  · rw [ev3, toNat_and, ev3 x, toNat_and, Nat.and_assoc]
  · rw [ev4, toNat_or, ev4 x, toNat_or, Nat.or_assoc]
  · rw [ev5, toNat_xor, ev5 x, toNat_xor, Nat.xor_assoc]

theorem sh_low (y : Int) : sh (y % 32) = sh y := by unfold sh; omega
theorem sh_in {y : Int} (h : 0 ≤ y) (h2 : y < 32) : sh y = y.toNat := by unfold sh; omega
theorem shl_low (x y : Int) : ev 7 x (y % 32) = ev 7 x y := by rw [ev7, ev7, sh_low]
theorem shr_low (x y : Int) : ev 8 x (y % 32) = ev 8 x y := by rw [ev8, ev8, sh_low]
theorem shl_one (x : Int) : ev 7 x 1 = ev 1 x x := by
  have : sh 1 = 1 := rfl
  rw [ev7, ev1, this]; omega

theorem split32 {s : Nat} (h : s ≤ 32) : (4294967296 : Int) = 2 ^ s * 2 ^ (32 - s) := by
  rw [← Int.pow_add, Nat.add_sub_cancel' h]; rfl
/-- what is left when a word is shifted up and down -/
theorem shl_eq (x : Int) {s : Nat} (h : s ≤ 32) : x * 2 ^ s % 4294967296 = 2 ^ s * (x % 2 ^ (32 - s)) := by
  rw [split32 h, Int.mul_comm x, Int.mul_emod_mul_of_pos _ _ (pow_pos s)]
theorem down (x y : Int) : ev 8 (ev 7 x y) y = x % 2 ^ (32 - sh y) := by
  rw [ev8, ev7, shl_eq x (by have := sh_lt y; omega), Int.mul_ediv_cancel_left _ (Int.ne_of_gt (pow_pos _))]
theorem up_again (x y : Int) : ev 7 (x % 2 ^ (32 - sh y)) (y % 32) = ev 7 x y := by
  have h := sh_lt y
  rw [shl_low, ev7, ev7, shl_eq _ (by omega), shl_eq x (by omega), Int.emod_emod_of_dvd _ (Int.dvd_refl _)]
theorem down_same {x : Int} (k : Nat) (x0 : 0 ≤ x) (h : x / 2 ^ k = 0) : x % 2 ^ k = x := by
  have := Int.mul_ediv_add_emod x (2 ^ k)
  rw [h] at this
  omega
theorem down_other {x : Int} (k : Nat) (h : x / 2 ^ k ≠ 0) (x0 : 0 ≤ x) : x % 2 ^ k ≠ x := by
  intro e
  have h2 : x % 2 ^ k < 2 ^ k := Int.emod_lt_of_pos _ (pow_pos k)
  rw [e] at h2
  exact h (Int.ediv_eq_zero_of_lt x0 h2)
theorem down_none {x : Int} (hx : U x) {y : Int} (h : sh y = 0) : x % 2 ^ (32 - sh y) = x := by
  have := hx.1; have := hx.2
  have e : (2 : Int) ^ (32 - sh y) = 4294967296 := by rw [h]; rfl
  rw [e]; omega

/-! the signed order -/
theorem lt_self (x : Int) : lt x x = false := by unfold lt; simp
theorem lt_less {x y : Int} (h : x < y) (hs : (2147483648 ≤ x ∧ 2147483648 ≤ y) ∨ (¬ 2147483648 ≤ x ∧ ¬ 2147483648 ≤ y)) : lt x y = true ∧ lt y x = false := by
  unfold lt sg
  constructor
  · rw [decide_eq_true_eq]; split <;> split <;> omega
  · rw [decide_eq_false_iff_not]; split <;> split <;> omega
theorem lt_high {x y : Int} (hx : U x) (hy : U y) (h : 2147483648 ≤ x) (h2 : ¬ 2147483648 ≤ y) : lt x y = true ∧ lt y x = false := by
  have := hx.2; have := hy.1
  unfold lt sg
  constructor
  · rw [decide_eq_true_eq]; split <;> split <;> omega
  · rw [decide_eq_false_iff_not]; split <;> split <;> omega
theorem lt_trans {x y z : Int} (h : lt x y = true) (h2 : lt y z = true) : lt x z = true := by
  unfold lt at *
  simp only [decide_eq_true_eq] at *
  omega
theorem sub_zero (x : Int) : ev 2 x x = 0 := by rw [ev2]; simp
theorem sub_other {x y : Int} (hx : U x) (hy : U y) (h : x ≠ y) : ev 2 x y ≠ 0 := by
  have := hx.1; have := hx.2; have := hy.1; have := hy.2
  rw [ev2]; omega

/-! shifts one after the other -/
theorem shl_shl (x : Int) {i k : Int} (i0 : 0 ≤ i) (i1 : i < 32) (k0 : 0 ≤ k) (k1 : k < 32) : ev 7 (ev 7 x i) k = x * 2 ^ (i.toNat + k.toNat) % 4294967296 := by
  rw [ev7, ev7, sh_in i0 i1, sh_in k0 k1, Int.pow_add, ← Int.mul_assoc]
  rw [Int.mul_emod, Int.emod_emod_of_dvd _ (Int.dvd_refl _), ← Int.mul_emod]
theorem shl_sum (x : Int) {i k : Int} (i0 : 0 ≤ i) (i1 : i < 32) (k0 : 0 ≤ k) (k1 : k < 32) (h : i + k < 32) : ev 7 (ev 7 x i) k = ev 7 x (i + k) := by
  rw [shl_shl x i0 i1 k0 k1, ev7, sh_in (by omega) h]
  have : (i + k).toNat = i.toNat + k.toNat := by omega
  rw [this]
theorem shl_over (x : Int) {i k : Int} (i0 : 0 ≤ i) (i1 : i < 32) (k0 : 0 ≤ k) (k1 : k < 32) (h : 32 ≤ i + k) : ev 7 (ev 7 x i) k = 0 := by
  rw [shl_shl x i0 i1 k0 k1]
  have e : i.toNat + k.toNat = 32 + (i.toNat + k.toNat - 32) := by omega
  have e2 : (2 : Int) ^ 32 = 4294967296 := rfl
  rw [e, Int.pow_add, e2, ← Int.mul_assoc, Int.mul_comm x, Int.mul_assoc]
  exact Int.mul_emod_right _ _
theorem shr_shr {x : Int} {i k : Int} (i0 : 0 ≤ i) (i1 : i < 32) (k0 : 0 ≤ k) (k1 : k < 32) : ev 8 (ev 8 x i) k = x / 2 ^ (i.toNat + k.toNat) := by
  rw [ev8, ev8, sh_in i0 i1, sh_in k0 k1, Int.pow_add]
  exact Int.ediv_ediv_of_nonneg (Int.le_of_lt (pow_pos _))
theorem shr_sum (x : Int) {i k : Int} (i0 : 0 ≤ i) (i1 : i < 32) (k0 : 0 ≤ k) (k1 : k < 32) (h : i + k < 32) : ev 8 (ev 8 x i) k = ev 8 x (i + k) := by
  rw [shr_shr i0 i1 k0 k1, ev8, sh_in (by omega) h]
  have : (i + k).toNat = i.toNat + k.toNat := by omega
  rw [this]
theorem shr_over {x : Int} (hx : U x) {i k : Int} (i0 : 0 ≤ i) (i1 : i < 32) (k0 : 0 ≤ k) (k1 : k < 32) (h : 32 ≤ i + k) : ev 8 (ev 8 x i) k = 0 := by
  rw [shr_shr i0 i1 k0 k1]
  have h2 : (2 : Nat) ^ 32 ≤ 2 ^ (i.toNat + k.toNat) := Nat.pow_le_pow_right (by decide) (by omega)
  have h3 := cast_pow (i.toNat + k.toNat)
  have := hx.2
  exact Int.ediv_eq_zero_of_lt hx.1 (by omega)

/-! the high part and the low part of a word -/
theorem high_eq {x : Int} (hx : U x) {i : Int} (i0 : 0 ≤ i) (i1 : i < 32) : ev 7 (ev 8 x i) i = 2 ^ i.toNat * (x / 2 ^ i.toNat) := by
  have := hx.1; have := hx.2
  rw [ev7, ev8, sh_in i0 i1, Int.mul_comm]
  have h := Int.mul_ediv_add_emod x (2 ^ i.toNat)
  have h2 : 0 ≤ x % 2 ^ i.toNat := Int.emod_nonneg _ (Int.ne_of_gt (pow_pos _))
  have h3 : 0 ≤ 2 ^ i.toNat * (x / 2 ^ i.toNat) := Int.mul_nonneg (Int.le_of_lt (pow_pos _)) (Int.ediv_nonneg hx.1 (Int.le_of_lt (pow_pos _)))
  omega
theorem low_eq {x : Int} (hx : U x) {i : Int} (i0 : 0 ≤ i) (i1 : i < 32) : ev 2 x (ev 7 (ev 8 x i) i) = x % 2 ^ i.toNat := by
  have := hx.1; have := hx.2
  rw [high_eq hx i0 i1, ev2]
  have h := Int.mul_ediv_add_emod x (2 ^ i.toNat)
  have h2 : 0 ≤ x % 2 ^ i.toNat := Int.emod_nonneg _ (Int.ne_of_gt (pow_pos _))
  have h3 : 0 ≤ 2 ^ i.toNat * (x / 2 ^ i.toNat) := Int.mul_nonneg (Int.le_of_lt (pow_pos _)) (Int.ediv_nonneg hx.1 (Int.le_of_lt (pow_pos _)))
  omega
theorem parts {x : Int} (hx : U x) (s : Nat) : ∃ q r : Nat, r < 2 ^ s ∧ (2 : Int) ^ s * (x / 2 ^ s) = ((2 ^ s * q : Nat) : Int) ∧ x % 2 ^ s = (r : Int) ∧ x = ((2 ^ s * q + r : Nat) : Int) := by
  obtain ⟨n, rfl⟩ := Int.eq_ofNat_of_zero_le hx.1
  refine ⟨n / 2 ^ s, n % 2 ^ s, Nat.mod_lt _ (Nat.two_pow_pos s), ?_, ?_, ?_⟩
  · rw [← cast_pow, ← Int.natCast_ediv, ← Int.natCast_mul]
  · rw [← cast_pow, ← Int.natCast_emod]
  · rw [Nat.div_add_mod]
theorem or_parts {x : Int} (hx : U x) {i : Int} (i0 : 0 ≤ i) (i1 : i < 32) : ev 4 (ev 7 (ev 8 x i) i) (ev 2 x (ev 7 (ev 8 x i) i)) = x := by
  rw [low_eq hx i0 i1, high_eq hx i0 i1]
  obtain ⟨q, r, hr, e1, e2, e3⟩ := parts hx i.toNat
  rw [e1, e2, ev4, Int.toNat_natCast, Int.toNat_natCast, ← Nat.two_pow_add_eq_or_of_lt hr, ← e3]
theorem and_parts {x : Int} (hx : U x) {i : Int} (i0 : 0 ≤ i) (i1 : i < 32) : ev 3 (ev 7 (ev 8 x i) i) (ev 2 x (ev 7 (ev 8 x i) i)) = 0 := by
  rw [low_eq hx i0 i1, high_eq hx i0 i1]
  obtain ⟨q, r, hr, e1, e2, e3⟩ := parts hx i.toNat
  rw [e1, e2, ev3, Int.toNat_natCast, Int.toNat_natCast]
  have : 2 ^ i.toNat * q &&& r = 0 := by
    apply Nat.eq_of_testBit_eq
    intro j
    rw [Nat.testBit_and, Nat.mul_comm, Nat.testBit_mul_two_pow, Nat.zero_testBit]
    by_cases h : i.toNat ≤ j
    · rw [Nat.testBit_lt_two_pow (Nat.lt_of_lt_of_le hr (Nat.pow_le_pow_right (by decide) h)), Bool.and_false]
    · simp [h]
  rw [this]; rfl
theorem low_zero {x : Int} (hx : U x) {i : Int} (h : i = 0) : ev 2 x (ev 7 (ev 8 x i) i) = 0 := by
  rw [low_eq hx (by omega) (by omega), h]
  have : (2 : Int) ^ (0 : Int).toNat = 1 := rfl
  rw [this]; omega
theorem low_gone {x : Int} (hx : U x) {i : Int} (i0 : 0 ≤ i) (i1 : i < 32) : ev 8 (ev 2 x (ev 7 (ev 8 x i) i)) i = 0 := by
  rw [low_eq hx i0 i1, ev8, sh_in i0 i1]
  exact Int.ediv_eq_zero_of_lt (Int.emod_nonneg _ (Int.ne_of_gt (pow_pos _))) (Int.emod_lt_of_pos _ (pow_pos _))

end Go.Proofs.Ytfghjakhgdoanaa.M
