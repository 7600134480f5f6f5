/-
  Laws on instructions and words, as plain facts on integers, with no program in sight. Conditions: those that stand in each lemma.
-/
import Derived.Test.YtokhipjpppfkgaaGreatDoorIsaPack
namespace Go.Proofs.YtokhipjpppfkgaaGreatDoor.M
open Go.RowKit

theorem ok_parts (op rd ra rb imm : Int) (h : ok op rd ra rb imm = true) :
    form op ≠ 0 ∧ okReg rd (hasRd (form op)) = true ∧ okReg ra (hasRa (form op)) = true ∧ okReg rb (hasRb (form op)) = true ∧ okImm imm (hasImm (form op)) (hasCsr (form op)) = true := by
  unfold ok at h
  simp only [Bool.and_eq_true] at h
  obtain ⟨h0, ⟨⟨h1, h2⟩, h3⟩, h4⟩ := h
  exact ⟨by simpa using h0, h1, h2, h3, h4⟩

theorem ok_rb0 (op rd ra rb imm : Int) (h : ok op rd ra rb imm = true) (hf : form op ≠ 1) : rb = 0 := by
  obtain ⟨_, _, _, h3, _⟩ := ok_parts _ _ _ _ _ h
  have : hasRb (form op) = false := by unfold hasRb; simp [hf]
  rw [this] at h3
  simpa [okReg] using h3

theorem ok_imm0 (op rd ra rb imm : Int) (h : ok op rd ra rb imm = true) (hf : form op = 1) : imm = 0 := by
  obtain ⟨_, _, _, _, h4⟩ := ok_parts _ _ _ _ _ h
  rw [hf] at h4
  simpa [okImm, hasImm, hasCsr] using h4

theorem S18 (w : Int) : S w 18 = if 131072 ≤ w % 262144 then w % 262144 - 262144 else w % 262144 := rfl

theorem word_fields (op rd ra rb imm : Int) (h : ok op rd ra rb imm = true) :
    dOp (word op rd ra rb imm) = op ∧ dRd (word op rd ra rb imm) = rd ∧ dRa (word op rd ra rb imm) = ra ∧ dRb (word op rd ra rb imm) = rb ∧ dImm (word op rd ra rb imm) = imm := by
  obtain ⟨ho, hd, ha, hb, hi⟩ := ok_rng _ _ _ _ _ h
  by_cases hf : form op = 1
  · have e := ok_imm0 _ _ _ _ _ h hf
    have ew : word op rd ra rb imm = op * 67108864 + rd * 4194304 + ra * 262144 + rb := by unfold word; rw [if_pos hf]
    have e1 : dOp (word op rd ra rb imm) = op := by unfold dOp; omega
    refine ⟨e1, by unfold dRd; omega, by unfold dRa; omega, ?_, ?_⟩
    · unfold dRb; rw [e1, if_pos hf]; omega
    · unfold dImm; rw [e1, if_pos hf]; omega
  · have e := ok_rb0 _ _ _ _ _ h hf
    have ew : word op rd ra rb imm = op * 67108864 + rd * 4194304 + ra * 262144 + imm % 262144 := by unfold word; rw [if_neg hf]
    have e1 : dOp (word op rd ra rb imm) = op := by unfold dOp; omega
    refine ⟨e1, by unfold dRd; omega, by unfold dRa; omega, ?_, ?_⟩
    · unfold dRb; rw [e1, if_neg hf]; omega
    · unfold dImm; rw [e1, if_neg hf, S18]; split <;> omega

theorem word_dok (op rd ra rb imm : Int) (h : ok op rd ra rb imm = true) : dok (word op rd ra rb imm) = true := by
  obtain ⟨e1, e2, e3, e4, e5⟩ := word_fields _ _ _ _ _ h
  unfold dok
  rw [e1, e2, e3, e4, e5, h]; simp

end Go.Proofs.YtokhipjpppfkgaaGreatDoor.M
namespace Go.Proofs.YtokhipjpppfkgaaGreatDoor
open Go.RowKit

theorem enc_ok {op rd ra rb imm : Int} (h : M.ok op rd ra rb imm = true) : enc op rd ra rb imm = M.word op rd ra rb imm := if_pos h
theorem dI_ok {w : Int} (h : M.dok w = true) (f : Int → Int) : dI w f = f w := if_pos h
theorem dI_no {w : Int} (h : M.dok w = false) (f : Int → Int) : dI w f = 0 := by unfold dI; rw [h]; rfl

theorem enc_rng (op rd ra rb imm : Int) : 0 ≤ enc op rd ra rb imm ∧ enc op rd ra rb imm < 4294967296 := by
  unfold enc
  split
  · rename_i h; exact M.word_rng _ _ _ _ _ h
  · omega

/-- a valid instruction is found again in its word -/
theorem back {op rd ra rb imm : Int} (h : M.ok op rd ra rb imm = true) :
    M.dok (enc op rd ra rb imm) = true ∧ dI (enc op rd ra rb imm) M.dOp = op ∧ dI (enc op rd ra rb imm) M.dRd = rd ∧ dI (enc op rd ra rb imm) M.dRa = ra ∧ dI (enc op rd ra rb imm) M.dRb = rb ∧ dI (enc op rd ra rb imm) M.dImm = imm := by
  rw [enc_ok h]
  have hd := M.word_dok _ _ _ _ _ h
  obtain ⟨e1, e2, e3, e4, e5⟩ := M.word_fields _ _ _ _ _ h
  exact ⟨hd, (dI_ok hd _).trans e1, (dI_ok hd _).trans e2, (dI_ok hd _).trans e3, (dI_ok hd _).trans e4, (dI_ok hd _).trans e5⟩

/-- a word that decodes is the word of what is found in it -/
theorem forth {w : Int} (h : M.dok w = true) :
    M.ok (dI w M.dOp) (dI w M.dRd) (dI w M.dRa) (dI w M.dRb) (dI w M.dImm) = true ∧ enc (dI w M.dOp) (dI w M.dRd) (dI w M.dRa) (dI w M.dRb) (dI w M.dImm) = w := by
  rw [dI_ok h, dI_ok h, dI_ok h, dI_ok h, dI_ok h]
  have h2 := h
  unfold M.dok at h2
  simp only [Bool.and_eq_true] at h2
  exact ⟨h2.1, (enc_ok h2.1).trans (by simpa using h2.2)⟩

/-- two valid instructions of one word are one -/
theorem inj {op rd ra rb imm op' rd' ra' rb' imm' : Int} (h : M.ok op rd ra rb imm = true) (h' : M.ok op' rd' ra' rb' imm' = true) (e : enc op rd ra rb imm = enc op' rd' ra' rb' imm') :
    op = op' ∧ rd = rd' ∧ ra = ra' ∧ rb = rb' ∧ imm = imm' := by
  obtain ⟨_, a1, a2, a3, a4, a5⟩ := back h
  obtain ⟨_, b1, b2, b3, b4, b5⟩ := back h'
  rw [e] at a1 a2 a3 a4 a5
  exact ⟨a1.symm.trans b1, a2.symm.trans b2, a3.symm.trans b3, a4.symm.trans b4, a5.symm.trans b5⟩

end Go.Proofs.YtokhipjpppfkgaaGreatDoor
