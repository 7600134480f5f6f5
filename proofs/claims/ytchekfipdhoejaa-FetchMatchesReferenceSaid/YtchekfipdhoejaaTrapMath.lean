/-
  Plain mathematics of trap entry and trap return, with no program in sight. Conditions: none but those that stand in each lemma.
-/
import Derived.Test.YtchekfipdhoejaaRelMath
namespace Go.Proofs.Ytchekfipdhoejaa.M
open Go.RowKit
set_option linter.unusedVariables false

/-- a bit of the status, by its weight, and the status with that bit so -/
def bt (s p : Int) : Bool := decide (s / p % 2 = 1)
def wt (s p : Int) (b : Bool) : Int := s - s / p % 2 * p + if b = true then p else 0
/-- the status after trap entry and after trap return -/
def ent (s : Int) : Int := s / 16 * 16 + 1 + 4 * (s % 2) + 8 * (s / 2 % 2)
def rtn (s : Int) : Int := s / 16 * 16 + s / 4 % 2 + 2 * (s / 8 % 2) + 4 * (s / 4 % 2) + 8 * (s / 8 % 2)
/-- the program counter -/
def pc (c : List Int) : Int := c.getD 16 0
/-- interrupts are enabled -/
def ien (c : List Int) : Bool := bt (csr c 0) 2
/-- the processor that goes on at p with the status s -/
def goTo (c : List Int) (p s : Int) : List Int := (c.set 17 s).set 16 p
/-- the processor after trap entry and after trap return -/
def enter (c : List Int) (k v : Int) : List Int := if k = 0 then c else goTo (((c.set 18 (pc c)).set 19 (k % 4294967296)).set 20 v) (csr c 4) (ent (csr c 0))
def leave (c : List Int) : List Int := goTo c (csr c 1) (rtn (csr c 0))

theorem sup_bt (c : List Int) : sup c = bt (csr c 0) 1 := by
  unfold sup bt
  rw [Int.ediv_one]
  generalize csr c 0 = x
  by_cases h : x % 2 = 1 <;> simp [h]

theorem nib_and (n p : Nat) (hp : p < 16) : n &&& p = n % 16 &&& p := by
  have h1 := Nat.and_mod_two_pow (a := n) (b := p) (n := 4)
  have h2 := Nat.and_div_two_pow (a := n) (b := p) (n := 4)
  rw [Nat.mod_eq_of_lt (a := p) (by omega)] at h1
  rw [Nat.div_eq_of_lt (a := p) (by omega), Nat.and_zero] at h2
  rw [show (2 : Nat) ^ 4 = 16 from rfl] at h1 h2
  omega
theorem nib_or (n p : Nat) (hp : p < 16) : n ||| p = n / 16 * 16 + (n % 16 ||| p) := by
  have h1 := Nat.or_mod_two_pow (a := n) (b := p) (n := 4)
  have h2 := Nat.or_div_two_pow (a := n) (b := p) (n := 4)
  rw [Nat.mod_eq_of_lt (a := p) (by omega)] at h1
  rw [Nat.div_eq_of_lt (a := p) (by omega), Nat.or_zero] at h2
  rw [show (2 : Nat) ^ 4 = 16 from rfl] at h1 h2
  omega
theorem nib_not (n p : Nat) (hn : n < 4294967296) (hp : p < 16) : n &&& (4294967295 - p) = n / 16 * 16 + (n % 16 &&& (15 - p)) := by
  have h1 := Nat.and_mod_two_pow (a := n) (b := 4294967295 - p) (n := 4)
  have h2 := Nat.and_div_two_pow (a := n) (b := 4294967295 - p) (n := 4)
  have e1 : (4294967295 - p) % 2 ^ 4 = 15 - p := by omega
  have e2 : (4294967295 - p) / 2 ^ 4 = 2 ^ 28 - 1 := by omega
  rw [e1] at h1
  rw [e2, Nat.and_two_pow_sub_one_eq_mod, Nat.mod_eq_of_lt (by omega)] at h2
  rw [show (2 : Nat) ^ 4 = 16 from rfl] at h1 h2
  omega

/-- the four bits -/
def P4 (p : Int) : Prop := p = 1 ∨ p = 2 ∨ p = 4 ∨ p = 8

theorem bt_and (s p : Int) (h0 : 0 ≤ s) (h1 : s < 4294967296) (hp : P4 p) : (bits .and .u32 s p != 0) = bt s p := by
  obtain ⟨n, rfl⟩ := Int.eq_ofNat_of_zero_le h0
  have key : ∀ q : Nat, q < 16 → (∀ r, r < 16 → ((r &&& q = 0) ↔ ¬ r / q % 2 = 1)) → (∀ m : Nat, m % 16 / q % 2 = m / q % 2) → (bits .and .u32 (n : Int) (q : Int) != 0) = bt n q := by
    intro q hq hr hm
    rw [u32_and_nat _ _ (by omega) (by omega), nib_and n q hq]
    have h := hr (n % 16) (by omega)
    rw [hm n] at h
    unfold bt
    have e : (n : Int) / (q : Int) % 2 = ((n / q % 2 : Nat) : Int) := by simp
    rw [e]
    by_cases hb : n / q % 2 = 1
    · have : ¬ (n % 16 &&& q = 0) := fun c => (h.1 c) hb
      rw [hb]
      simp; omega
    · have : n % 16 &&& q = 0 := h.2 hb
      rw [this]
      simp; omega
  rcases hp with rfl | rfl | rfl | rfl
  · exact key 1 (by decide) (by decide) (by omega)
  · exact key 2 (by decide) (by decide) (by omega)
  · exact key 4 (by decide) (by decide) (by omega)
  · exact key 8 (by decide) (by decide) (by omega)

theorem wt_or (s p : Int) (h0 : 0 ≤ s) (h1 : s < 4294967296) (hp : P4 p) : bits .or .u32 s p = wt s p true := by
  obtain ⟨n, rfl⟩ := Int.eq_ofNat_of_zero_le h0
  have key : ∀ q : Nat, q < 16 → (∀ r, r < 16 → r ||| q = r - r / q % 2 * q + q) → bits .or .u32 (n : Int) (q : Int) = ((n / 16 * 16 + (n % 16 - n % 16 / q % 2 * q + q) : Nat) : Int) := by
    intro q hq hr
    rw [u32_or_nat _ _ (by omega) (by omega), nib_or n q hq, hr _ (by omega)]
  unfold wt
  rw [if_pos rfl]
  rcases hp with rfl | rfl | rfl | rfl
  · rw [show (1 : Int) = ((1 : Nat) : Int) from rfl, key 1 (by decide) (by decide)]; omega
  · rw [show (2 : Int) = ((2 : Nat) : Int) from rfl, key 2 (by decide) (by decide)]; omega
  · rw [show (4 : Int) = ((4 : Nat) : Int) from rfl, key 4 (by decide) (by decide)]; omega
  · rw [show (8 : Int) = ((8 : Nat) : Int) from rfl, key 8 (by decide) (by decide)]; omega

theorem wt_not (s p : Int) (h0 : 0 ≤ s) (h1 : s < 4294967296) (hp : P4 p) : bits .andNot .u32 s p = wt s p false := by
  obtain ⟨n, rfl⟩ := Int.eq_ofNat_of_zero_le h0
  have key : ∀ q : Nat, q < 16 → (∀ r, r < 16 → r &&& (15 - q) = r - r / q % 2 * q) → bits .andNot .u32 (n : Int) (q : Int) = ((n / 16 * 16 + (n % 16 - n % 16 / q % 2 * q) : Nat) : Int) := by
    intro q hq hr
    rw [u32_andNot_nat _ _ (by omega) (by omega), nib_not n q (by omega) hq, hr _ (by omega)]
  unfold wt
  rw [if_neg (by decide)]
  rcases hp with rfl | rfl | rfl | rfl
  · rw [show (1 : Int) = ((1 : Nat) : Int) from rfl, key 1 (by decide) (by decide)]; omega
  · rw [show (2 : Int) = ((2 : Nat) : Int) from rfl, key 2 (by decide) (by decide)]; omega
  · rw [show (4 : Int) = ((4 : Nat) : Int) from rfl, key 4 (by decide) (by decide)]; omega
  · rw [show (8 : Int) = ((8 : Nat) : Int) from rfl, key 8 (by decide) (by decide)]; omega

theorem wt_rng (s p : Int) (b : Bool) (h0 : 0 ≤ s) (h1 : s < 4294967296) (hp : P4 p) : 0 ≤ wt s p b ∧ wt s p b < 4294967296 := by
  unfold wt
  rcases hp with rfl | rfl | rfl | rfl <;> cases b <;> simp <;> omega
theorem ent_rng (s : Int) (h0 : 0 ≤ s) (h1 : s < 4294967296) : 0 ≤ ent s ∧ ent s < 4294967296 := by unfold ent; omega
theorem rtn_rng (s : Int) (h0 : 0 ≤ s) (h1 : s < 4294967296) : 0 ≤ rtn s ∧ rtn s < 4294967296 := by unfold rtn; omega

theorem wt_bits (q d3 d2 d1 d0 : Int) (h3 : d3 = 0 ∨ d3 = 1) (h2 : d2 = 0 ∨ d2 = 1) (h1 : d1 = 0 ∨ d1 = 1) (h0 : d0 = 0 ∨ d0 = 1) (b : Bool) :
    wt (16 * q + 8 * d3 + 4 * d2 + 2 * d1 + d0) 1 b = 16 * q + 8 * d3 + 4 * d2 + 2 * d1 + (if b = true then 1 else 0) ∧
    wt (16 * q + 8 * d3 + 4 * d2 + 2 * d1 + d0) 2 b = 16 * q + 8 * d3 + 4 * d2 + 2 * (if b = true then 1 else 0) + d0 ∧
    wt (16 * q + 8 * d3 + 4 * d2 + 2 * d1 + d0) 4 b = 16 * q + 8 * d3 + 4 * (if b = true then 1 else 0) + 2 * d1 + d0 ∧
    wt (16 * q + 8 * d3 + 4 * d2 + 2 * d1 + d0) 8 b = 16 * q + 8 * (if b = true then 1 else 0) + 4 * d2 + 2 * d1 + d0 := by
  unfold wt
  cases b
  · refine ⟨?_, ?_, ?_, ?_⟩ <;> simp only [Bool.false_eq_true, if_false] <;> omega
  · refine ⟨?_, ?_, ?_, ?_⟩ <;> simp only [if_true] <;> omega
theorem bt_bits (s : Int) : ∃ q d3 d2 d1 d0 : Int, (d3 = 0 ∨ d3 = 1) ∧ (d2 = 0 ∨ d2 = 1) ∧ (d1 = 0 ∨ d1 = 1) ∧ (d0 = 0 ∨ d0 = 1) ∧ s = 16 * q + 8 * d3 + 4 * d2 + 2 * d1 + d0 ∧ q = s / 16 ∧ d3 = s / 8 % 2 ∧ d2 = s / 4 % 2 ∧ d1 = s / 2 % 2 ∧ d0 = s % 2 :=
  ⟨s / 16, s / 8 % 2, s / 4 % 2, s / 2 % 2, s % 2, by omega, by omega, by omega, by omega, by omega, rfl, rfl, rfl, rfl, rfl⟩
theorem bit_if (d : Int) (h : d = 0 ∨ d = 1) : (if decide (d = 1) = true then 1 else 0 : Int) = d := by
  rcases h with rfl | rfl <;> simp
theorem if01 (b : Bool) : (if b = true then 1 else 0 : Int) = 0 ∨ (if b = true then 1 else 0 : Int) = 1 := by cases b <;> simp
theorem wt_ent (s : Int) : wt (wt (wt (wt s 4 (bt s 1)) 8 (bt s 2)) 1 true) 2 false = ent s := by
  obtain ⟨q, d3, d2, d1, d0, h3, h2, h1, h0, e, eq, e3, e2, e1, e0⟩ := bt_bits s
  have b1 : bt s 1 = decide (d0 = 1) := by unfold bt; rw [Int.ediv_one, ← e0]
  have b2 : bt s 2 = decide (d1 = 1) := by unfold bt; rw [← e1]
  have ee : ent s = 16 * q + 8 * d1 + 4 * d0 + 2 * 0 + 1 := by unfold ent; rw [← eq, ← e1, ← e0]; omega
  rw [b1, b2, ee, e, (wt_bits q d3 d2 d1 d0 h3 h2 h1 h0 _).2.2.1, bit_if d0 h0, (wt_bits q d3 d0 d1 d0 h3 h0 h1 h0 _).2.2.2, bit_if d1 h1, (wt_bits q d1 d0 d1 d0 h1 h0 h1 h0 _).1, if_pos rfl, (wt_bits q d1 d0 d1 1 h1 h0 h1 (.inr rfl) _).2.1]
  rfl
theorem wt_rtn (s : Int) : wt (wt s 1 (bt s 4)) 2 (bt s 8) = rtn s := by
  obtain ⟨q, d3, d2, d1, d0, h3, h2, h1, h0, e, eq, e3, e2, e1, e0⟩ := bt_bits s
  have b1 : bt s 4 = decide (d2 = 1) := by unfold bt; rw [← e2]
  have b2 : bt s 8 = decide (d3 = 1) := by unfold bt; rw [← e3]
  have ee : rtn s = 16 * q + 8 * d3 + 4 * d2 + 2 * d3 + d2 := by unfold rtn; rw [← eq, ← e2, ← e3]; omega
  rw [b1, b2, ee, e, (wt_bits q d3 d2 d1 d0 h3 h2 h1 h0 _).1, bit_if d2 h2, (wt_bits q d3 d2 d1 d2 h3 h2 h1 h2 _).2.1, bit_if d3 h3]

theorem Core.goTo {c : List Int} (h : Core c) {p s : Int} (hp : 0 ≤ p ∧ p < 4294967296) (hs : 0 ≤ s ∧ s < 4294967296) : Core (goTo c p s) := (h.set 17 s hs.1 hs.2).set 16 p hp.1 hp.2
theorem Core.pc {c : List Int} (h : Core c) : 0 ≤ M.pc c ∧ M.pc c < 4294967296 := h.rng 16
theorem Core.enter {c : List Int} (h : Core c) {k v : Int} (v0 : 0 ≤ v) (v1 : v < 4294967296) : Core (enter c k v) := by
  unfold M.enter
  split
  · exact h
  · exact (((h.set 18 _ h.pc.1 h.pc.2).set 19 _ (by omega) (by omega)).set 20 v v0 v1).goTo (h.csr 4) (ent_rng _ (h.csr 0).1 (h.csr 0).2)
theorem Core.leave {c : List Int} (h : Core c) : Core (leave c) := h.goTo (h.csr 1) (rtn_rng _ (h.csr 0).1 (h.csr 0).2)
end Go.Proofs.Ytchekfipdhoejaa.M
