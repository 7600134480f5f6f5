/-
  Reading the operands of a line, as plain facts on lists of bytes, with no program in sight.
-/
import Derived.Test.YtokhipjpppfkgaaGreatDoorAsmText
import Derived.Lib.ParseIntBTie
import Derived.Lib.Strings
import Derived.Lib.Split
namespace Go.Proofs.YtokhipjpppfkgaaGreatDoor.M
open Go.RowKit

/-- what ParseInt at 32 bits gives, 0 where it gives an error -/
def numOf (l : List UInt8) : Int := match Lib.parseIntB 32 l with | .ok v => v | _ => 0
/-- the number behind a mark -/
def num1 (mark f : List UInt8) : Int := if Lib.hasPrefix f mark = true then numOf (Lib.trimPrefix f mark) else 0
/-- the number in the next field -/
def nx (mark : List UInt8) : List (List UInt8) → Int
  | [] => 0
  | f :: _ => num1 mark f

/-- what readInstr reads behind the opcode -/
def rRd (op : Int) (l : List (List UInt8)) : Int := if form op = 1 ∨ form op = 2 ∨ form op = 3 ∨ form op = 5 then nx [114] l else 0
def rRa (op : Int) (l : List (List UInt8)) : Int := if form op = 1 ∨ form op = 2 ∨ form op = 6 then nx [114] (l.drop 1) else if form op = 7 then nx [114] l else 0
def rRb (op : Int) (l : List (List UInt8)) : Int := if form op = 1 then nx [114] (l.drop 2) else 0
def rImm (op : Int) (l : List (List UInt8)) : Int :=
  if form op = 2 then nx [] (l.drop 2) else if form op = 3 then nx [] (l.drop 1) else if form op = 5 then nx [99] (l.drop 1) else if form op = 6 then nx [99] l else 0

/-- the opcode of a mnemonic -/
def OpOf (s : List UInt8) (op : Int) : Prop := (0 ≤ op ∧ op ≤ 25 ∧ mnem op = s) ∨ (op = 0 ∧ ∀ k : Nat, k < 26 → mnem k ≠ s)

theorem numOf_rng (l : List UInt8) : -2147483648 ≤ numOf l ∧ numOf l < 2147483648 := by
  unfold numOf
  split
  · rename_i v h
    have := Lib.parseIntB_bounds h
    simp at this
    omega
  · omega
theorem num1_rng (mark f : List UInt8) : -2147483648 ≤ num1 mark f ∧ num1 mark f < 2147483648 := by
  unfold num1
  split
  · exact numOf_rng _
  · omega
theorem nx_rng (mark : List UInt8) (l : List (List UInt8)) : -2147483648 ≤ nx mark l ∧ nx mark l < 2147483648 := by
  cases l with
  | nil => show -2147483648 ≤ (0 : Int) ∧ (0 : Int) < 2147483648; omega
  | cons f r => exact num1_rng mark f

theorem mnem_inj : ∀ a : Nat, a < 26 → ∀ b : Nat, b < 26 → mnem a = mnem b → a = b := by decide +kernel

theorem OpOf_ex (s : List UInt8) : ∃ op, OpOf s op ∧ 0 ≤ op ∧ op ≤ 25 := by
  by_cases h : ∃ k : Nat, k < 26 ∧ mnem k = s
  · obtain ⟨k, hk, e⟩ := h
    exact ⟨k, .inl ⟨by omega, by omega, e⟩, by omega, by omega⟩
  · exact ⟨0, .inr ⟨rfl, fun k hk e => h ⟨k, hk, e⟩⟩, by omega, by omega⟩

theorem OpOf_uniq {s : List UInt8} {a b : Int} (h : OpOf s a) (k : OpOf s b) : a = b := by
  rcases h with ⟨h1, h2, h3⟩ | ⟨h1, h2⟩ <;> rcases k with ⟨k1, k2, k3⟩ | ⟨k1, k2⟩
  · obtain ⟨m, rfl⟩ := Int.eq_ofNat_of_zero_le h1
    obtain ⟨n, rfl⟩ := Int.eq_ofNat_of_zero_le k1
    exact congrArg _ (mnem_inj m (by omega) n (by omega) (h3.trans k3.symm))
  · obtain ⟨m, rfl⟩ := Int.eq_ofNat_of_zero_le h1
    exact absurd h3 (k2 m (by omega))
  · obtain ⟨n, rfl⟩ := Int.eq_ofNat_of_zero_le k1
    exact absurd k3 (h2 n (by omega))
  · omega

end Go.Proofs.YtokhipjpppfkgaaGreatDoor.M
