/-
  One bit of the low 18 bits of an instruction word turned: which words decode then. Plain facts on integers, with no program in sight. Conditions: those that stand in each lemma.
-/
import Derived.Test.YtfhgenoecpnkbaaDoorIsaLaws
namespace Go.Proofs.YtfhgenoecpnkbaaDoor.M
open Go.RowKit

/-- the words that decode among those with the opcode and the registers of a valid instruction -/
theorem dok_low (op rd ra rb imm t : Int) (h : ok op rd ra rb imm = true) (e1 : dOp t = op) (e2 : dRd t = rd) (e3 : dRa t = ra) :
    (form op = 1 → dok t = decide (t % 262144 < 16)) ∧ (form op = 2 ∨ form op = 3 → dok t = true) ∧ (form op = 5 ∨ form op = 6 → dok t = decide (t % 262144 < 12)) ∧ (form op = 4 ∨ form op = 7 → dok t = decide (t % 262144 = 0)) := by
  obtain ⟨p0, p1, p2, p3, p4⟩ := ok_parts _ _ _ _ _ h
  have hw : t = op * 67108864 + rd * 4194304 + ra * 262144 + t % 262144 := by rw [← e1, ← e2, ← e3]; unfold dOp dRd dRa; omega
  have key : form op ≠ 1 → dok t = okImm (S t 18) (hasImm (form op)) (hasCsr (form op)) := by
    intro hf
    have b1 : dRb t = 0 := by unfold dRb; rw [e1, if_neg hf]
    have b2 : dImm t = S t 18 := by unfold dImm; rw [e1, if_neg hf]
    have hb : hasRb (form op) = false := by unfold hasRb; simp [hf]
    have hwd : word op rd ra 0 (S t 18) = t := by
      unfold word; rw [if_neg hf]
      have : S t 18 % 262144 = t % 262144 := by rw [S18]; split <;> omega
      omega
    unfold dok
    rw [e1, e2, e3, b1, b2, hwd, ok_eq _ _ _ _ _ (by simpa using p0), p1, p2, hb]
    simp [okReg]
  refine ⟨fun hf => ?_, fun hf => ?_, fun hf => ?_, fun hf => ?_⟩
  · have b1 : dRb t = t % 16 := by unfold dRb; rw [e1, if_pos hf]
    have b2 : dImm t = 0 := by unfold dImm; rw [e1, if_pos hf]
    have hb : okReg (t % 16) (hasRb (form op)) = true := by rw [hf]; simp [okReg, hasRb]; omega
    have hi : okImm 0 (hasImm (form op)) (hasCsr (form op)) = true := by rw [hf]; rfl
    unfold dok
    rw [e1, e2, e3, b1, b2, ok_eq _ _ _ _ _ (by simpa using p0), p1, p2, hb, hi]
    have hwd : word op rd ra (t % 16) 0 = op * 67108864 + rd * 4194304 + ra * 262144 + t % 16 := by unfold word; rw [if_pos hf]
    rw [hwd, Bool.eq_iff_iff]
    simp
    omega
  · rw [key (by omega)]
    have hF := F_S t 18 (by decide) (by decide)
    rcases hf with hf | hf <;> rw [hf] <;> exact hF
  · rw [key (by omega)]
    have : okImm (S t 18) (hasImm (form op)) (hasCsr (form op)) = decide (0 ≤ S t 18 ∧ S t 18 ≤ 11) := by rcases hf with hf | hf <;> rw [hf] <;> rfl
    rw [this, Bool.eq_iff_iff, decide_eq_true_eq, decide_eq_true_eq, S18]
    split <;> omega
  · rw [key (by omega)]
    have : okImm (S t 18) (hasImm (form op)) (hasCsr (form op)) = (S t 18 == 0) := by rcases hf with hf | hf <;> rw [hf] <;> rfl
    rw [this, Bool.eq_iff_iff, decide_eq_true_eq, beq_iff_eq, S18]
    split <;> omega

theorem eighteen (k : Int) (h0 : 0 ≤ k) (h : k < 18) : k = 0 ∨ k = 1 ∨ k = 2 ∨ k = 3 ∨ k = 4 ∨ k = 5 ∨ k = 6 ∨ k = 7 ∨ k = 8 ∨ k = 9 ∨ k = 10 ∨ k = 11 ∨ k = 12 ∨ k = 13 ∨ k = 14 ∨ k = 15 ∨ k = 16 ∨ k = 17 := by omega

/-- one bit turned -/
def turn (x k : Int) : Int := I x k 1 (1 - E x k 1)

theorem E1 (x k : Int) (h : 0 ≤ x) : 0 ≤ E x k 1 ∧ E x k 1 ≤ 1 := by
  rw [← E_eq _ _ _ h]; simp; omega

theorem turn_rng (x k : Int) (h : x < 4294967296) (k0 : 0 ≤ k) (k1 : k < 18) : 0 ≤ turn x k ∧ turn x k < 4294967296 :=
  I_rng x k 1 _ h k0 (by decide) (by omega)

theorem turn_high (x k : Int) (h0 : 0 ≤ x) (h : x < 4294967296) (k0 : 0 ≤ k) (k1 : k < 18) : dOp (turn x k) = dOp x ∧ dRd (turn x k) = dRd x ∧ dRa (turn x k) = dRa x := by
  obtain ⟨r0, r1⟩ := turn_rng x k h k0 k1
  rw [← E_op _ r0 r1, ← E_op _ h0 h, ← E_rd _ r0, ← E_rd _ h0, ← E_ra _ r0, ← E_ra _ h0]
  unfold turn
  exact ⟨E_apart _ _ _ _ _ _ k0 (by decide) (by decide) (by decide) (by omega), E_apart _ _ _ _ _ _ k0 (by decide) (by decide) (by decide) (by omega), E_apart _ _ _ _ _ _ k0 (by decide) (by decide) (by decide) (by omega)⟩

theorem turn_low (x k : Int) (h0 : 0 ≤ x) (h : x < 4294967296) (k0 : 0 ≤ k) (k1 : k < 18) :
    (x % 262144 < 16 → (turn x k % 262144 < 16 ↔ k < 4)) ∧ (x % 262144 = 0 → turn x k % 262144 ≠ 0) := by
  obtain ⟨r0, r1⟩ := turn_rng x k h k0 k1
  have f1 : E (turn x k) (k + 1) (17 - k) = E x (k + 1) (17 - k) := E_apart _ _ _ _ _ _ k0 (by decide) (by omega) (by omega) (by omega)
  have f2 : E (turn x k) 0 k = E x 0 k := E_apart _ _ _ _ _ _ k0 (by decide) (by omega) (by omega) (by omega)
  have f3 : E (turn x k) k 1 = E (1 - E x k 1) 0 1 := E_I _ _ _ _
  have b := E1 x k h0
  rw [E_low _ _ (by omega) (by simp; omega)] at f3
  rw [← E_eq _ _ _ r0, ← E_eq _ _ _ h0] at f1 f2 f3
  have l1 : ∀ y : Int, y / 2 ^ k.toNat / 2 = y / 2 ^ (k + 1).toNat := fun y => by
    rw [show (k + 1).toNat = k.toNat + 1 by omega, Int.pow_succ, Int.ediv_ediv_of_nonneg (Int.le_of_lt (pow_pos32 k))]
  have l2 : ∀ y : Int, y / 2 ^ (k + 1).toNat / 2 ^ (17 - k).toNat = y / 262144 := fun y => by
    rw [Int.ediv_ediv_of_nonneg (Int.le_of_lt (pow_pos32 (k + 1))), ← Int.pow_add, show (k + 1).toNat + (17 - k).toNat = 18 by omega]; rfl
  have l1x := l1 x
  have l1t := l1 (turn x k)
  have l2x := l2 x
  have l2t := l2 (turn x k)
  clear l1 l2 b
  generalize turn x k = t at *
  rcases eighteen k k0 k1 with rfl | rfl | rfl | rfl | rfl | rfl | rfl | rfl | rfl | rfl | rfl | rfl | rfl | rfl | rfl | rfl | rfl | rfl <;> simp only [Int.reduceToNat, Int.reducePow, Int.reduceAdd, Int.reduceSub, Int.ediv_one, Int.pow_zero, Int.pow_one] at f1 f2 f3 l1x l1t l2x l2t <;> omega

end Go.Proofs.YtfhgenoecpnkbaaDoor.M
