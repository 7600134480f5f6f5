/-
  A memory as a list of bytes: what is written and read, as plain facts on lists, with no program in sight. Conditions: those that stand in each lemma.
-/
import Derived.Test.YtchekfipdhoejaaBase
namespace Go.Proofs.Ytchekfipdhoejaa.M
open Go.RowKit
set_option linter.unusedVariables false

/-- bs written at a -/
def wr (xs : List Int) (a : Nat) (bs : List Int) : List Int := xs.take a ++ (bs ++ xs.drop (a + bs.length))
/-- n bytes from a on -/
def rd (xs : List Int) (a n : Nat) : List Int := (xs.drop a).take n
/-- the value of a cell, the least significant byte first -/
def leval : List Int → Int
  | [] => 0
  | x :: r => x + 256 * leval r
/-- the low bytes of a value -/
def bytes (v : Int) : Nat → List Int
  | 0 => []
  | n + 1 => bytes v n ++ [v / 256 ^ n % 256]
def By (xs : List Int) : Prop := ∀ x ∈ xs, 0 ≤ x ∧ x ≤ 255

theorem wr_at (xs bs : List Int) (a i : Nat) (h : a ≤ xs.length) : (wr xs a bs)[i]? = if i < a then xs[i]? else if i < a + bs.length then bs[i - a]? else xs[i]? := by
  unfold wr
  have hl : (xs.take a).length = a := by simp; omega
  rw [List.getElem?_append, List.getElem?_append, List.getElem?_drop, hl]
  by_cases h1 : i < a
  · rw [if_pos h1, if_pos h1, List.getElem?_take, if_pos h1]
  · rw [if_neg h1, if_neg h1]
    by_cases h2 : i < a + bs.length
    · rw [if_pos h2, if_pos (by omega)]
    · rw [if_neg h2, if_neg (by omega)]
      congr 1
      omega
theorem rd_at (xs : List Int) (a n i : Nat) : (rd xs a n)[i]? = if i < n then xs[a + i]? else none := by
  unfold rd
  rw [List.getElem?_take, List.getElem?_drop]
theorem wr_len {xs bs : List Int} {a : Nat} (h : a + bs.length ≤ xs.length) : (wr xs a bs).length = xs.length := by
  unfold wr
  simp
  omega
theorem rd_len {xs : List Int} {a n : Nat} (h : a + n ≤ xs.length) : (rd xs a n).length = n := by
  unfold rd
  simp
  omega
theorem wr_nil (xs : List Int) (a : Nat) : wr xs a [] = xs := by simp [wr]
theorem getD_at {xs : List Int} {i : Nat} (h : i < xs.length) : xs[i]? = some (xs.getD i 0) := by simp [List.getD, h]
theorem wr_step {xs bs : List Int} {a : Nat} (x : Int) (h : a + bs.length < xs.length) : (wr xs a bs).set (a + bs.length) x = wr xs a (bs ++ [x]) := by
  apply List.ext_getElem?
  intro i
  rw [List.getElem?_set, wr_len (by omega), wr_at _ _ _ _ (by omega), wr_at _ _ _ _ (by omega)]
  simp only [List.length_append, List.length_cons, List.length_nil]
  by_cases h1 : i < a
  · rw [if_neg (by omega), if_pos h1, if_pos h1]
  · by_cases h2 : i < a + bs.length
    · rw [if_neg (by omega), if_neg h1, if_neg h1, if_pos h2, if_pos (by omega), List.getElem?_append, if_pos (by omega)]
    · by_cases h3 : i = a + bs.length
      · subst h3
        rw [if_pos rfl, if_pos h, if_neg h1, if_pos (by omega), List.getElem?_append, if_neg (by omega)]
        simp [Nat.add_sub_cancel_left]
      · rw [if_neg (by omega), if_neg h1, if_neg h2, if_neg h1, if_neg (by omega)]
theorem rd_succ {xs : List Int} {a k : Nat} (h : a + k < xs.length) : rd xs a (k + 1) = rd xs a k ++ [xs.getD (a + k) 0] := by
  unfold rd
  rw [List.take_succ_eq_append_getElem (by simp; omega)]
  simp [List.getD, h]
theorem rd_cons {xs : List Int} {a n : Nat} (h : a < xs.length) : rd xs a (n + 1) = xs.getD a 0 :: rd xs (a + 1) n := by
  unfold rd
  rw [List.drop_eq_getElem_cons h, List.take_succ_cons]
  simp [List.getD, h]
theorem rd_zero (xs : List Int) (a : Nat) : rd xs a 0 = [] := by simp [rd]
theorem wr_wr {xs bs cs : List Int} {a : Nat} (h : a + bs.length ≤ xs.length) (hl : bs.length = cs.length) : wr (wr xs a bs) a cs = wr xs a cs := by
  apply List.ext_getElem?
  intro i
  rw [wr_at _ _ _ _ (by rw [wr_len h]; omega), wr_at _ _ _ _ (by omega), wr_at _ _ _ _ (by omega)]
  by_cases h1 : i < a
  · rw [if_pos h1, if_pos h1, if_pos h1]
  · by_cases h2 : i < a + cs.length
    · rw [if_neg h1, if_pos h2, if_neg h1, if_pos h2]
    · rw [if_neg h1, if_neg h2, if_neg h1, if_neg (by omega), if_neg h1, if_neg h2]
theorem wr_next {xs bs : List Int} {a : Nat} (x : Int) (h : a + bs.length < xs.length) : wr (wr xs a bs) (a + bs.length) [x] = wr xs a (bs ++ [x]) := by
  rw [← wr_step x h]
  have h2 : a + bs.length < (wr xs a bs).length := by rw [wr_len (by omega)]; exact h
  have := wr_step (xs := wr xs a bs) (bs := []) (a := a + bs.length) x (by simpa using h2)
  rw [wr_nil] at this
  simpa using this.symm
theorem rd_wr {xs bs : List Int} {a : Nat} (h : a ≤ xs.length) : rd (wr xs a bs) a bs.length = bs := by
  apply List.ext_getElem?
  intro i
  rw [rd_at]
  by_cases h1 : i < bs.length
  · rw [if_pos h1, wr_at _ _ _ _ h, if_neg (by omega), if_pos (by omega), Nat.add_sub_cancel_left]
  · rw [if_neg h1, List.getElem?_eq_none (by omega)]
theorem rd_wr_before {xs bs : List Int} {a b n : Nat} (h : a ≤ xs.length) (hb : b + n ≤ a) : rd (wr xs a bs) b n = rd xs b n := by
  apply List.ext_getElem?
  intro i
  rw [rd_at, rd_at]
  by_cases h1 : i < n
  · rw [if_pos h1, if_pos h1, wr_at _ _ _ _ h, if_pos (by omega)]
  · rw [if_neg h1, if_neg h1]
theorem rd_wr_after {xs bs : List Int} {a b n : Nat} (h : a ≤ xs.length) (hb : a + bs.length ≤ b) : rd (wr xs a bs) b n = rd xs b n := by
  apply List.ext_getElem?
  intro i
  rw [rd_at, rd_at]
  by_cases h1 : i < n
  · rw [if_pos h1, if_pos h1, wr_at _ _ _ _ h, if_neg (by omega), if_neg (by omega)]
  · rw [if_neg h1, if_neg h1]
theorem rd_wr_in {xs bs : List Int} {a i : Nat} (h : a ≤ xs.length) (hi : i < bs.length) : rd (wr xs a bs) (a + i) 1 = [bs.getD i 0] := by
  apply List.ext_getElem?
  intro j
  rw [rd_at]
  by_cases h1 : j < 1
  · have : j = 0 := by omega
    subst this
    rw [if_pos h1, wr_at _ _ _ _ h, if_neg (by omega), if_pos (by omega), Nat.add_zero, Nat.add_sub_cancel_left, getD_at hi]
    rfl
  · rw [if_neg h1, List.getElem?_eq_none (by simp; omega)]
theorem wr_full (zs xs : List Int) (h : zs.length = xs.length) : wr zs 0 xs = xs := by simp [wr, h]
theorem rd_one {xs : List Int} {a : Nat} (h : a < xs.length) : rd xs a 1 = [xs.getD a 0] := by
  rw [rd_cons h, rd_zero]
theorem rd_all (xs : List Int) : rd xs 0 xs.length = xs := by simp [rd]
theorem rd_tail {xs : List Int} {a : Nat} (h : a ≤ xs.length) : rd xs a (xs.length - a) = xs.drop a := by
  unfold rd
  rw [List.take_of_length_le (by simp)]
/-- a memory is the concatenation of its parts -/
theorem parts {xs bs : List Int} {a : Nat} (h : a + bs.length ≤ xs.length) : rd (wr xs a bs) 0 a ++ bs ++ rd (wr xs a bs) (a + bs.length) (xs.length - (a + bs.length)) = wr xs a bs := by
  rw [rd_wr_before (by omega) (by omega), rd_wr_after (by omega) (Nat.le_refl _), rd_tail h]
  unfold rd wr
  simp

theorem By.wr {xs bs : List Int} {a : Nat} (h : By xs) (k : By bs) : By (wr xs a bs) := by
  intro x hx
  unfold M.wr at hx
  rcases List.mem_append.1 hx with h1 | h1
  · exact h x (List.mem_of_mem_take h1)
  · rcases List.mem_append.1 h1 with h2 | h2
    · exact k x h2
    · exact h x (List.mem_of_mem_drop h2)
theorem By.rd {xs : List Int} {a n : Nat} (h : By xs) : By (rd xs a n) := fun x hx => h x (List.mem_of_mem_drop (List.mem_of_mem_take hx))
theorem By.app {xs ys : List Int} (h : By xs) (k : By ys) : By (xs ++ ys) := fun x hx => by
  rcases List.mem_append.1 hx with h1 | h1
  · exact h x h1
  · exact k x h1
theorem By.getD {xs : List Int} (h : By xs) (i : Nat) : 0 ≤ xs.getD i 0 ∧ xs.getD i 0 ≤ 255 := by
  by_cases hi : i < xs.length
  · have := h (xs.getD i 0) (List.mem_of_getElem? (getD_at hi))
    exact this
  · simp [List.getD, List.getElem?_eq_none (by omega : xs.length ≤ i)]
theorem bytes_by (v : Int) (n : Nat) : By (bytes v n) := by
  induction n with
  | zero => intro x hx; simp [bytes] at hx
  | succ n ih =>
    refine ih.app ?_
    intro x hx
    simp at hx
    subst hx
    generalize v / 256 ^ n = y
    omega
theorem bytes_len (v : Int) (n : Nat) : (bytes v n).length = n := by
  induction n with
  | zero => rfl
  | succ n ih => simp [bytes, ih]
theorem bytes_at (v : Int) (n i : Nat) (h : i < n) : (bytes v n).getD i 0 = v / 256 ^ i % 256 := by
  induction n with
  | zero => omega
  | succ n ih =>
    have hl := bytes_len v n
    by_cases h1 : i < n
    · rw [← ih h1]
      simp [bytes, List.getD, List.getElem?_append, hl, h1]
    · have : i = n := by omega
      subst this
      simp [bytes, List.getD, hl]
theorem leval_snoc (l : List Int) (x : Int) : leval (l ++ [x]) = leval l + 256 ^ l.length * x := by
  induction l with
  | nil => simp [leval]
  | cons y r ih =>
    simp only [List.cons_append, leval, ih, List.length_cons, Int.pow_succ]
    rw [Int.mul_add, Int.add_assoc, ← Int.mul_assoc, Int.mul_comm 256 (256 ^ r.length)]
theorem leval_range {l : List Int} (h : By l) : 0 ≤ leval l ∧ leval l < 256 ^ l.length := by
  induction l with
  | nil => simp [leval]
  | cons y r ih =>
    have h1 := ih (fun x hx => h x (by simp [hx]))
    have h2 := h y (by simp)
    simp only [leval, List.length_cons, Int.pow_succ]
    generalize (256 : Int) ^ r.length = p at *
    omega
theorem leval_bytes {v : Int} (h0 : 0 ≤ v) (n : Nat) : leval (bytes v n) = v % 256 ^ n := by
  induction n with
  | zero => simp [bytes, leval, Int.emod_one]
  | succ n ih =>
    unfold bytes
    rw [leval_snoc, ih, bytes_len, Int.pow_succ]
    have hp : (0 : Int) < 256 ^ n := Int.pow_pos (by decide)
    generalize (256 : Int) ^ n = p at *
    have h1 := Int.emod_add_mul_ediv v p
    have h2 := Int.emod_add_mul_ediv (v / p) 256
    have h3 := Int.emod_nonneg v (by omega : p ≠ 0)
    have h4 := Int.emod_lt_of_pos v hp
    have h5 : 0 ≤ v / p % 256 := by omega
    have h6 : v / p % 256 ≤ 255 := by omega
    generalize v / p % 256 = r at *
    have hr0 : 0 ≤ p * r := Int.mul_nonneg (by omega) h5
    have hr1 : p * r ≤ p * 255 := Int.mul_le_mul_of_nonneg_left h6 (by omega)
    have e : v = (v % p + p * r) + p * 256 * (v / p / 256) := by
      rw [Int.mul_assoc, Int.add_assoc, ← Int.mul_add, h2, h1]
    clear ih h1 h2
    generalize v % p = q at *
    generalize v / p / 256 = s at *
    rw [e]
    rw [Int.add_mul_emod_self_left, Int.emod_eq_of_lt (by omega) (by omega)]
theorem leval_bytes4 {v : Int} (h0 : 0 ≤ v) (h : v < 4294967296) : leval (bytes v 4) = v := by
  rw [leval_bytes h0]
  exact Int.emod_eq_of_lt h0 (by simpa using h)

/-- a byte set above the others -/
theorem or_top (v x : Int) (n : Nat) (hv0 : 0 ≤ v) (hv : v < 2 ^ n) (hx0 : 0 ≤ x) (hx : x ≤ 255) (hn : n ≤ 24) : bits .or .u32 v (2 ^ n * x) = v + 2 ^ n * x := by
  obtain ⟨V, rfl⟩ := Int.eq_ofNat_of_zero_le hv0
  obtain ⟨X, rfl⟩ := Int.eq_ofNat_of_zero_le hx0
  have e : (2 : Int) ^ n = ((2 ^ n : Nat) : Int) := by simp
  rw [e] at hv ⊢
  have hV : V < 2 ^ n := by omega
  have h24 : 2 ^ n ≤ 2 ^ 24 := Nat.pow_le_pow_right (by decide) hn
  have hX : 2 ^ n * X ≤ 2 ^ 24 * 255 := Nat.mul_le_mul h24 (by omega)
  have := Nat.two_pow_add_eq_or_of_lt hV X
  rw [show ((2 ^ n : Nat) : Int) * (X : Int) = ((2 ^ n * X : Nat) : Int) by simp, u32_or_nat V (2 ^ n * X) (by omega) (by omega), Nat.or_comm, ← this]
  omega
theorem pow256 (k : Nat) : (2 : Int) ^ (8 * k) = 256 ^ k := by rw [Int.pow_mul]; rfl
theorem or_byte (u x : Int) (k : Nat) (hu0 : 0 ≤ u) (hu : u < 256 ^ k) (hx0 : 0 ≤ x) (hx : x ≤ 255) (hk : k ≤ 3) : bits .or .u32 u (x * 2 ^ (8 * k) % 4294967296) = u + 256 ^ k * x := by
  have hp : (2 : Int) ^ (8 * k) ≤ 16777216 := by
    have : (2 : Nat) ^ (8 * k) ≤ 2 ^ 24 := Nat.pow_le_pow_right (by decide) (by omega)
    have e : (2 : Int) ^ (8 * k) = ((2 ^ (8 * k) : Nat) : Int) := by simp
    rw [e]; omega
  have hp0 : (0 : Int) < 2 ^ (8 * k) := Int.pow_pos (by decide)
  have h1 := or_top u x (8 * k) hu0 (by rw [pow256]; exact hu) hx0 hx (by omega)
  rw [← pow256, ← h1]
  have h2 : x * 2 ^ (8 * k) ≤ 255 * 16777216 := Int.mul_le_mul hx hp (by omega) (by omega)
  have h3 : 0 ≤ x * 2 ^ (8 * k) := Int.mul_nonneg hx0 (by omega)
  rw [Int.emod_eq_of_lt h3 (by omega), Int.mul_comm]
end Go.Proofs.Ytchekfipdhoejaa.M
