/-
  Plain mathematics of the arithmetic unit: words as integers from 0 to 2^32 - 1, the result of each operation, the signed order. No program in sight.
-/
import Derived.KernelRfl
namespace Go.Proofs.Ytfghjakhgdoanaa.M

/-- a word of 32 bits -/
structure U (x : Int) : Prop where
  lo : 0 ≤ x
  hi : x < 4294967296

/-- the two's complement number of a word -/
def sg (x : Int) : Int := if x < 2147483648 then x else x - 4294967296
/-- less as two's complement numbers -/
def lt (x y : Int) : Bool := decide (sg x < sg y)
/-- the shift amount of a word -/
def sh (y : Int) : Nat := (y % 32).toNat
/-- 1 or 0 -/
def one (b : Bool) : Int := if b then 1 else 0

/-- the result of an operation -/
def ev (op x y : Int) : Int :=
  if op = 1 then (x + y) % 4294967296
  else if op = 2 then (x - y) % 4294967296
  else if op = 3 then ((x.toNat &&& y.toNat : Nat) : Int)
  else if op = 4 then ((x.toNat ||| y.toNat : Nat) : Int)
  else if op = 5 then ((x.toNat ^^^ y.toNat : Nat) : Int)
  else if op = 6 then one (lt x y)
  else if op = 7 then x * 2 ^ sh y % 4294967296
  else if op = 8 then x / 2 ^ sh y
  else 0

/-- is the branch taken? -/
def tk (op x y : Int) : Bool := decide (op = 15 ∧ x = y ∨ op = 16 ∧ x ≠ y) || decide (op = 17) && lt x y

theorem ev1 (x y : Int) : ev 1 x y = (x + y) % 4294967296 := rfl
theorem ev2 (x y : Int) : ev 2 x y = (x - y) % 4294967296 := rfl
theorem ev3 (x y : Int) : ev 3 x y = ((x.toNat &&& y.toNat : Nat) : Int) := rfl
theorem ev4 (x y : Int) : ev 4 x y = ((x.toNat ||| y.toNat : Nat) : Int) := rfl
theorem ev5 (x y : Int) : ev 5 x y = ((x.toNat ^^^ y.toNat : Nat) : Int) := rfl
theorem ev6 (x y : Int) : ev 6 x y = one (lt x y) := rfl
theorem ev7 (x y : Int) : ev 7 x y = x * 2 ^ sh y % 4294967296 := rfl
theorem ev8 (x y : Int) : ev 8 x y = x / 2 ^ sh y := rfl
theorem ev_no (op x y : Int) (h : ¬ (1 ≤ op ∧ op ≤ 8)) : ev op x y = 0 := by
  unfold ev
  rw [if_neg (by omega), if_neg (by omega), if_neg (by omega), if_neg (by omega), if_neg (by omega), if_neg (by omega), if_neg (by omega), if_neg (by omega)]

theorem sh_lt (y : Int) : sh y < 32 := by unfold sh; omega
theorem cast_pow (k : Nat) : ((2 ^ k : Nat) : Int) = (2 : Int) ^ k := by simp
theorem pow_pos (k : Nat) : (0 : Int) < 2 ^ k := by rw [← cast_pow]; have := Nat.two_pow_pos k; omega

theorem one_rng (b : Bool) : 0 ≤ one b ∧ one b ≤ 1 := by cases b <;> decide

theorem U.ev {op x y : Int} (hx : U x) (hy : U y) : U (ev op x y) := by
  obtain ⟨x0, x1⟩ := hx
  obtain ⟨y0, y1⟩ := hy
  unfold M.ev
  split
  · exact ⟨by omega, by omega⟩
  split
  · exact ⟨by omega, by omega⟩
  split
  · have : x.toNat &&& y.toNat < 2 ^ 32 := Nat.and_lt_two_pow _ (by omega)
    exact ⟨by omega, by omega⟩
  split
  · have : x.toNat ||| y.toNat < 2 ^ 32 := Nat.or_lt_two_pow (by omega) (by omega)
    exact ⟨by omega, by omega⟩
  split
  · have : x.toNat ^^^ y.toNat < 2 ^ 32 := Nat.xor_lt_two_pow (by omega) (by omega)
    exact ⟨by omega, by omega⟩
  split
  · have := one_rng (lt x y)
    exact ⟨by omega, by omega⟩
  split
  · exact ⟨by omega, by omega⟩
  split
  · exact ⟨Int.ediv_nonneg x0 (Int.le_of_lt (pow_pos _)), Int.lt_of_le_of_lt (Int.ediv_le_self _ x0) x1⟩
  · exact ⟨by omega, by omega⟩

end Go.Proofs.Ytfghjakhgdoanaa.M
