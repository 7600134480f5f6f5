/-
  Plain facts on instructions and instruction words, with no program in sight.
-/
import Derived.Test.YtokhipjpppfkgaaGreatDoorLaws
namespace Go.Proofs.YtokhipjpppfkgaaGreatDoor.M
open Go.RowKit

/-- the format of an opcode, 0 if there is none -/
def form (op : Int) : Int :=
  if 1 ≤ op ∧ op ≤ 8 then 1
  else if op = 10 ∨ op = 18 then 3
  else if 9 ≤ op ∧ op ≤ 19 then 2
  else if op = 20 ∨ op = 23 ∨ op = 24 then 4
  else if op = 21 then 5
  else if op = 22 then 6
  else if op = 25 then 7
  else 0

/-- whether a format has Rd, Ra, Rb, an immediate, a CSR number -/
def hasRd (f : Int) : Bool := f == 1 || f == 2 || f == 3 || f == 5
def hasRa (f : Int) : Bool := f == 1 || f == 2 || f == 6 || f == 7
def hasRb (f : Int) : Bool := f == 1
def hasImm (f : Int) : Bool := f == 2 || f == 3
def hasCsr (f : Int) : Bool := f == 5 || f == 6

/-- the privileged opcodes -/
def priv (op : Int) : Bool := decide (21 ≤ op ∧ op ≤ 25)

/-- a register number, an immediate, where the format has it or has it not -/
def okReg (r : Int) (has : Bool) : Bool := if has then decide (0 ≤ r ∧ r ≤ 15) else r == 0
def okImm (x : Int) (imm csr : Bool) : Bool := if imm then F x 18 else if csr then decide (0 ≤ x ∧ x ≤ 11) else x == 0

/-- a valid instruction -/
def ok (op rd ra rb imm : Int) : Bool :=
  form op != 0 && (okReg rd (hasRd (form op)) && okReg ra (hasRa (form op)) && okReg rb (hasRb (form op)) && okImm imm (hasImm (form op)) (hasCsr (form op)))

/-- the word of an instruction -/
def word (op rd ra rb imm : Int) : Int :=
  op * 67108864 + rd * 4194304 + ra * 262144 + (if form op = 1 then rb else imm % 262144)

/-- the fields of a word -/
def dOp (w : Int) : Int := w / 67108864
def dRd (w : Int) : Int := w / 4194304 % 16
def dRa (w : Int) : Int := w / 262144 % 16
def dRb (w : Int) : Int := if form (dOp w) = 1 then w % 16 else 0
def dImm (w : Int) : Int := if form (dOp w) = 1 then 0 else S w 18

/-- whether a word is that of a valid instruction -/
def dok (w : Int) : Bool := ok (dOp w) (dRd w) (dRa w) (dRb w) (dImm w) && word (dOp w) (dRd w) (dRa w) (dRb w) (dImm w) == w

theorem form_rng (op : Int) : 0 ≤ form op ∧ form op ≤ 7 := by
  unfold form
  repeat' split
  all_goals omega

theorem form_zero (op : Int) (h : op < 0 ∨ 25 < op) : form op = 0 := by
  unfold form
  repeat' split
  all_goals omega

theorem ok_eq (op rd ra rb imm : Int) (h : (form op == 0) = false) :
    ok op rd ra rb imm = (okReg rd (hasRd (form op)) && okReg ra (hasRa (form op)) && okReg rb (hasRb (form op)) && okImm imm (hasImm (form op)) (hasCsr (form op))) := by
  unfold ok; simp [bne, h]

theorem okReg_rng (r : Int) (b : Bool) (h : okReg r b = true) : 0 ≤ r ∧ r ≤ 15 := by
  unfold okReg at h
  cases b <;> simp at h <;> omega

theorem okImm_rng (x : Int) (a b : Bool) (h : okImm x a b = true) : -131072 ≤ x ∧ x < 131072 := by
  unfold okImm F at h
  cases a <;> cases b <;> simp at h <;> omega

theorem ok_rng (op rd ra rb imm : Int) (h : ok op rd ra rb imm = true) :
    (1 ≤ op ∧ op ≤ 25) ∧ (0 ≤ rd ∧ rd ≤ 15) ∧ (0 ≤ ra ∧ ra ≤ 15) ∧ (0 ≤ rb ∧ rb ≤ 15) ∧ (-131072 ≤ imm ∧ imm < 131072) := by
  unfold ok at h
  simp only [Bool.and_eq_true] at h
  obtain ⟨h0, ⟨⟨h1, h2⟩, h3⟩, h4⟩ := h
  refine ⟨?_, okReg_rng _ _ h1, okReg_rng _ _ h2, okReg_rng _ _ h3, okImm_rng _ _ _ h4⟩
  have := form_zero op
  have h5 : form op ≠ 0 := by simpa using h0
  by_cases hz : op = 0
  · rw [hz] at h5; exact absurd rfl h5
  · omega

/-- a field of four of the word's parts -/
theorem four (x : Int) (h0 : 0 ≤ x) (h : x < 4294967296) : x = E x 26 6 * 67108864 + E x 22 4 * 4194304 + E x 18 4 * 262144 + E x 0 18 := by
  rw [← E_eq _ _ _ h0, ← E_eq _ _ _ h0, ← E_eq _ _ _ h0, ← E_eq _ _ _ h0]; simp; omega
theorem five (x : Int) (h0 : 0 ≤ x) (h : x < 4294967296) : x = E x 26 6 * 67108864 + E x 22 4 * 4194304 + E x 18 4 * 262144 + E x 4 14 * 16 + E x 0 4 := by
  rw [← E_eq _ _ _ h0, ← E_eq _ _ _ h0, ← E_eq _ _ _ h0, ← E_eq _ _ _ h0, ← E_eq _ _ _ h0]; simp; omega

def head (op rd ra : Int) : Int := I (I (I 0 26 6 op) 22 4 rd) 18 4 ra

theorem head_rng (op rd ra : Int) : 0 ≤ head op rd ra ∧ head op rd ra < 4294967296 := by
  unfold head
  have h1 := I_rng 0 26 6 op (by decide) (by decide) (by decide) (by decide)
  have h2 := I_rng (I 0 26 6 op) 22 4 rd h1.2 (by decide) (by decide) (by decide)
  exact I_rng _ 18 4 ra h2.2 (by decide) (by decide) (by decide)

theorem E_low (x n : Int) (h0 : 0 ≤ x) (h : x < 2 ^ n.toNat) : E x 0 n = x := by
  rw [← E_eq _ _ _ h0]; simp [Int.emod_eq_of_lt h0 h]

theorem head_E (op rd ra : Int) (ho : 1 ≤ op ∧ op ≤ 25) (hd : 0 ≤ rd ∧ rd ≤ 15) (ha : 0 ≤ ra ∧ ra ≤ 15) :
    E (head op rd ra) 26 6 = op ∧ E (head op rd ra) 22 4 = rd ∧ E (head op rd ra) 18 4 = ra ∧ E (head op rd ra) 4 14 = 0 := by
  unfold head
  refine ⟨?_, ?_, ?_, ?_⟩
  · rw [E_apart _ _ _ _ _ _ (by decide) (by decide) (by decide) (by decide) (by decide), E_apart _ _ _ _ _ _ (by decide) (by decide) (by decide) (by decide) (by decide), E_I, E_low _ _ (by omega) (by simp; omega)]
  · rw [E_apart _ _ _ _ _ _ (by decide) (by decide) (by decide) (by decide) (by decide), E_I, E_low _ _ (by omega) (by simp; omega)]
  · rw [E_I, E_low _ _ (by omega) (by simp; omega)]
  · rw [E_apart _ _ _ _ _ _ (by decide) (by decide) (by decide) (by decide) (by decide), E_apart _ _ _ _ _ _ (by decide) (by decide) (by decide) (by decide) (by decide), E_apart _ _ _ _ _ _ (by decide) (by decide) (by decide) (by decide) (by decide)]
    decide

theorem pack_rb (op rd ra rb imm : Int) (h : ok op rd ra rb imm = true) (hf : form op = 1) : I (head op rd ra) 0 4 rb = word op rd ra rb imm := by
  obtain ⟨ho, hd, ha, hb, hi⟩ := ok_rng _ _ _ _ _ h
  obtain ⟨e1, e2, e3, e4⟩ := head_E op rd ra ho hd ha
  have r := head_rng op rd ra
  have r2 := I_rng (head op rd ra) 0 4 rb r.2 (by decide) (by decide) (by decide)
  rw [five (I (head op rd ra) 0 4 rb) r2.1 r2.2]
  rw [E_apart _ 0 4 _ 26 6 (by decide) (by decide) (by decide) (by decide) (by decide), E_apart _ 0 4 _ 22 4 (by decide) (by decide) (by decide) (by decide) (by decide), E_apart _ 0 4 _ 18 4 (by decide) (by decide) (by decide) (by decide) (by decide), E_apart _ 0 4 _ 4 14 (by decide) (by decide) (by decide) (by decide) (by decide), E_I, e1, e2, e3, e4, E_low rb 4 hb.1 (by simp; omega)]
  unfold word
  rw [if_pos hf]; omega

theorem pack_imm (op rd ra rb imm : Int) (h : ok op rd ra rb imm = true) (hf : form op ≠ 1) : I (head op rd ra) 0 18 (L imm 18) = word op rd ra rb imm := by
  obtain ⟨ho, hd, ha, hb, hi⟩ := ok_rng _ _ _ _ _ h
  obtain ⟨e1, e2, e3, e4⟩ := head_E op rd ra ho hd ha
  have r := head_rng op rd ra
  have r2 := I_rng (head op rd ra) 0 18 (L imm 18) r.2 (by decide) (by decide) (by decide)
  have hl : L imm 18 = imm % 262144 := rfl
  rw [four (I (head op rd ra) 0 18 (L imm 18)) r2.1 r2.2]
  rw [E_apart _ 0 18 _ 26 6 (by decide) (by decide) (by decide) (by decide) (by decide), E_apart _ 0 18 _ 22 4 (by decide) (by decide) (by decide) (by decide) (by decide), E_apart _ 0 18 _ 18 4 (by decide) (by decide) (by decide) (by decide) (by decide), E_I, e1, e2, e3, E_low _ 18 (by omega) (by simp; omega), hl]
  unfold word
  rw [if_neg hf]

theorem word_rng (op rd ra rb imm : Int) (h : ok op rd ra rb imm = true) : 0 ≤ word op rd ra rb imm ∧ word op rd ra rb imm < 4294967296 := by
  obtain ⟨ho, hd, ha, hb, hi⟩ := ok_rng _ _ _ _ _ h
  unfold word
  split <;> omega

theorem hasRb_form (op : Int) : (form op = 1 ∧ hasRb (form op) = true) ∨ (form op ≠ 1 ∧ hasRb (form op) = false) := by
  unfold hasRb
  by_cases h : form op = 1
  · exact .inl ⟨h, by simp [h]⟩
  · exact .inr ⟨h, by simp [h]⟩

theorem E_op (w : Int) (h0 : 0 ≤ w) (h : w < 4294967296) : E w 26 6 = dOp w := by
  rw [← E_eq _ _ _ h0]; unfold dOp; simp; omega
theorem E_rd (w : Int) (h0 : 0 ≤ w) : E w 22 4 = dRd w := by
  rw [← E_eq _ _ _ h0]; unfold dRd; simp
theorem E_ra (w : Int) (h0 : 0 ≤ w) : E w 18 4 = dRa w := by
  rw [← E_eq _ _ _ h0]; unfold dRa; simp
theorem E_rb (w : Int) (h0 : 0 ≤ w) (hf : form (dOp w) = 1) : E w 0 4 = dRb w := by
  rw [← E_eq _ _ _ h0]; unfold dRb; rw [if_pos hf]; simp
theorem E_imm (w : Int) (h0 : 0 ≤ w) (hf : form (dOp w) ≠ 1) : S (E w 0 18) 18 = dImm w := by
  rw [← E_eq _ _ _ h0]; unfold dImm S; rw [if_neg hf]; simp

theorem dImm_0 (w : Int) (hf : form (dOp w) = 1) : 0 = dImm w := by unfold dImm; rw [if_pos hf]
theorem dRb_0 (w : Int) (hf : form (dOp w) ≠ 1) : 0 = dRb w := by unfold dRb; rw [if_neg hf]

theorem form_none (op : Int) (h : ¬ (1 ≤ op ∧ op ≤ 25)) : form op = 0 := by
  by_cases hz : op = 0
  · rw [hz]; rfl
  · exact form_zero op (by omega)

end Go.Proofs.YtokhipjpppfkgaaGreatDoor.M
