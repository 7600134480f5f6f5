/-
  The texts of instructions, as plain lists of bytes, with no program in sight.
-/
import Derived.Test.YtokhipjpppfkgaaGreatDoorIsaLaws
import Derived.Lib.ItoaNum
import Derived.Lib.ItoaLen
import Derived.Lib.Join
import Derived.Lib.Split
import Derived.Lib.ParseIntB
namespace Go.Proofs.YtokhipjpppfkgaaGreatDoor.M
open Go.RowKit

/-- the mnemonics -/
def mnems : List (List UInt8) := [[], [97, 100, 100], [115, 117, 98], [97, 110, 100], [111, 114], [120, 111, 114], [115, 108, 116], [115, 104, 108], [115, 104, 114], [97, 100, 100, 105], [108, 117, 105], [108, 119], [115, 119], [108, 98], [115, 98], [98, 101, 113], [98, 110, 101], [98, 108, 116], [106, 97, 108], [106, 97, 108, 114], [101, 99, 97, 108, 108], [99, 115, 114, 114], [99, 115, 114, 119], [101, 114, 101, 116], [104, 97, 108, 116], [111, 117, 116]]
def mnem (op : Int) : List UInt8 := mnems.getD op.toNat []

/-- a register, a CSR -/
def regT (r : Int) : List UInt8 := 114 :: Lib.itoa r
def csrT (c : Int) : List UInt8 := 99 :: Lib.itoa c

/-- the operands' texts -/
def opsT (op rd ra rb imm : Int) : List (List UInt8) :=
  if form op = 1 then [regT rd, regT ra, regT rb]
  else if form op = 2 then [regT rd, regT ra, Lib.itoa imm]
  else if form op = 3 then [regT rd, Lib.itoa imm]
  else if form op = 5 then [regT rd, csrT imm]
  else if form op = 6 then [csrT imm, regT ra]
  else if form op = 7 then [regT ra]
  else []

/-- the text of an instruction -/
def text (op rd ra rb imm : Int) : List UInt8 := Lib.join (mnem op :: opsT op rd ra rb imm) [32]

theorem itoa_len (n : Int) (h0 : -9223372036854775808 ≤ n) (h1 : n ≤ 9223372036854775807) : (Lib.itoa n).length ≤ 21 := Lib.itoa_length_le n h0 h1
theorem itoa_nat (n : Nat) : Lib.itoa (n : Int) = Lib.decDigits n := by
  unfold Lib.itoa
  rw [if_neg (by omega)]; simp
theorem join_len (k : Nat) (l : List (List UInt8)) (h : ∀ x ∈ l, x.length ≤ k) : (Lib.join l [32]).length ≤ l.length * (k + 1) := by
  cases l with
  | nil => simp [Lib.join_nil]
  | cons x r =>
    have hr : ∀ r : List (List UInt8), (∀ y ∈ r, y.length ≤ k) → (Lib.joinTail [32] r).length ≤ r.length * (k + 1) := by
      intro r hr
      induction r with
      | nil => simp [Lib.joinTail]
      | cons y r ih =>
        have h1 := ih (fun z hz => hr z (List.mem_cons_of_mem _ hz))
        have h2 := hr y List.mem_cons_self
        unfold Lib.joinTail at h1 ⊢
        simp only [List.map_cons, List.flatten_cons, List.length_append, List.length_cons, List.length_nil]
        rw [Nat.succ_mul]; omega
    have h1 := hr r (fun z hz => h z (List.mem_cons_of_mem _ hz))
    have h2 := h x List.mem_cons_self
    rw [Lib.join_cons, List.length_append, List.length_cons, Nat.succ_mul]; omega

theorem mnem_len (op : Int) : (mnem op).length ≤ 5 := by
  unfold mnem
  by_cases h : op.toNat < 26
  · have : ∀ n : Nat, n < 26 → (mnems.getD n []).length ≤ 5 := by decide
    exact this _ h
  · have e : mnems.getD op.toNat [] = [] := by
      rw [List.getD_eq_getElem?_getD, List.getElem?_eq_none (by unfold mnems; simp; omega)]; rfl
    rw [e]; simp

theorem opsT_mem (op rd ra rb imm : Int) (h : ok op rd ra rb imm = true) : ∀ x ∈ opsT op rd ra rb imm, x.length ≤ 22 := by
  obtain ⟨ho, hd, ha, hb, hi⟩ := ok_rng _ _ _ _ _ h
  have e1 := itoa_len rd (by omega) (by omega)
  have e2 := itoa_len ra (by omega) (by omega)
  have e3 := itoa_len rb (by omega) (by omega)
  have e4 := itoa_len imm (by omega) (by omega)
  unfold opsT regT csrT
  repeat' split
  all_goals
    intro x hx
    simp only [List.mem_cons, or_false, List.not_mem_nil] at hx
    try (rcases hx with rfl | rfl | rfl)
    try (rcases hx with rfl | rfl)
    try subst hx
    all_goals first | (simp only [List.length_cons]; omega) | omega | cases hx

theorem opsT_len (op rd ra rb imm : Int) : (opsT op rd ra rb imm).length ≤ 3 := by
  unfold opsT
  repeat' split
  all_goals simp

theorem text_len (op rd ra rb imm : Int) (h : ok op rd ra rb imm = true) : (text op rd ra rb imm).length ≤ 92 := by
  have h1 := join_len 22 (mnem op :: opsT op rd ra rb imm) (by
    intro x hx
    rcases List.mem_cons.1 hx with rfl | hx
    · have := mnem_len op; omega
    · exact opsT_mem _ _ _ _ _ h x hx)
  have h2 := opsT_len op rd ra rb imm
  unfold text
  simp only [List.length_cons] at h1
  omega

end Go.Proofs.YtokhipjpppfkgaaGreatDoor.M
