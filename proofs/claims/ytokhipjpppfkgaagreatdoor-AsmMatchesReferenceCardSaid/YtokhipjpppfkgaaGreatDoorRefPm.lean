/-
  The instruction that the reference's Parse makes of fields: plain lists of bytes, and that it is the instruction of a text. Conditions: those that stand in each lemma.
-/
import Derived.Test.YtokhipjpppfkgaaGreatDoorRefMath
namespace Go.Proofs.YtokhipjpppfkgaaGreatDoor
open Go.ChangeShapes Go.WideShapes Go.ChangeAt Go.RowKit Go.Sort
set_option linter.unusedVariables false

/-- the last opcode among the first k with that mnemonic, or 0 -/
def M.opK (x : List UInt8) : Nat → Nat
  | 0 => 0
  | k + 1 => if M.mnem ((k + 1 : Nat) : Int) = x then k + 1 else M.opK x k
theorem opK_le (x : List UInt8) : ∀ k, M.opK x k ≤ k
  | 0 => Nat.le_refl _
  | k + 1 => by
    unfold M.opK
    split
    · omega
    · have := opK_le x k; omega
theorem opK_mnem : ∀ op : Nat, op < 26 → 1 ≤ op → M.opK (M.mnem (op : Int)) 25 = op := by decide +kernel

def M.fld (L : List (List UInt8)) (j : Nat) : List UInt8 := (L ++ [[], [], [], []]).getD j []
/-- the operands, by the format -/
def M.pRd (L : List (List UInt8)) (f : Int) : Int := if f = 1 ∨ f = 2 ∨ f = 3 ∨ f = 5 then M.numV (M.fld L 1) false else 0
def M.pRa (L : List (List UInt8)) (f : Int) : Int := if f = 1 ∨ f = 2 ∨ f = 6 then M.numV (M.fld L 2) false else if f = 7 then M.numV (M.fld L 1) false else 0
def M.pRb (L : List (List UInt8)) (f : Int) : Int := if f = 1 then M.numV (M.fld L 3) false else 0
def M.pIm (L : List (List UInt8)) (f : Int) : Int := if f = 2 then M.numV (M.fld L 3) true else if f = 3 then M.numV (M.fld L 2) true else if f = 5 then M.numV (M.fld L 2) false else if f = 6 then M.numV (M.fld L 1) false else 0

theorem numV_rng (s : List UInt8) (b : Bool) : -1000000 ≤ M.numV s b ∧ M.numV s b ≤ 1000000 := by
  have h1 := numL_le s
  have h2 := numL_le (s.drop 1)
  unfold M.numV
  split
  · split <;> omega
  · omega
theorem pIm_rng (L : List (List UInt8)) (f : Int) : -1000000 ≤ M.pIm L f ∧ M.pIm L f ≤ 1000000 := by
  have a := numV_rng (M.fld L 3) true
  have b := numV_rng (M.fld L 2) true
  have c := numV_rng (M.fld L 2) false
  have d := numV_rng (M.fld L 1) false
  unfold M.pIm
  split
  · exact a
  · split
    · exact b
    · split
      · exact c
      · split
        · exact d
        · omega

/-- the value of num, exactly -/
theorem num_v1 (s : List UInt8) (W : World) (hs : s.length ≤ 100000) :
    Calls Tryz.prog 29 #[.string ⟨s.toArray⟩, .int .i64 1] W fun e W' => e = .returned (.int .i64 (M.numV s false)) ∧ Dn W W' :=
  num_f s 1 _ (.inl ⟨rfl, rfl⟩) W hs
theorem num_v0 (s : List UInt8) (W : World) (hs : s.length ≤ 100000) :
    Calls Tryz.prog 29 #[.string ⟨s.toArray⟩, .int .i64 0] W fun e W' => e = .returned (.int .i64 (M.numV s true)) ∧ Dn W W' := by
  refine num_f s 0 _ ?_ W hs
  by_cases he : s = []
  · subst he; exact .inr (.inl ⟨rfl, rfl, rfl⟩)
  · have hl := List.length_pos_iff.2 he
    by_cases hh : s.head? = some 45
    · exact .inr (.inr (.inr ⟨rfl, hl, hh, by unfold M.numV; rw [if_pos rfl, if_pos hh]⟩))
    · exact .inr (.inr (.inl ⟨rfl, hl, hh, by unfold M.numV; rw [if_pos rfl, if_neg hh]⟩))

theorem numV_mark (c : UInt8) (n : Int) (h0 : 0 ≤ n) (h1 : n ≤ 1000000) : M.numV (c :: Lib.itoa n) false = n := by
  obtain ⟨m, rfl⟩ := Int.eq_ofNat_of_zero_le h0
  unfold M.numV
  rw [if_neg (by decide), List.drop_succ_cons, List.drop_zero, M.itoa_nat, numL_dec _ (by omega)]
theorem numV_itoa (n : Int) (h0 : -1000000 ≤ n) (h1 : n ≤ 1000000) : M.numV (Lib.itoa n) true = n := by
  unfold M.numV
  rw [if_pos rfl]
  by_cases h : n < 0
  · have e : Lib.itoa n = 45 :: Lib.decDigits n.natAbs := by unfold Lib.itoa; rw [if_pos h]
    rw [e, if_pos (show (45 :: Lib.decDigits n.natAbs).head? = some 45 from rfl), numL_minus, numL_dec _ (by omega)]
    omega
  · obtain ⟨m, rfl⟩ := Int.eq_ofNat_of_zero_le (show 0 ≤ n by omega)
    rw [M.itoa_nat, if_neg, numL_dec _ (by omega)]
    intro hh
    have hne := M.dec_ne m
    cases hd : Lib.decDigits m with
    | nil => exact hne hd
    | cons c r =>
      rw [hd] at hh
      injection hh with hh
      have := M.dec_mem m c (by rw [hd]; exact List.mem_cons_self)
      rw [hh] at this
      exact absurd this.1 (by decide)

/-- what Parse makes of the fields of an instruction's text is the instruction -/
theorem prs_text (op rd ra rb imm : Int) (h : M.ok op rd ra rb imm = true) (L : List (List UInt8)) (hL : L = M.mnem op :: M.opsT op rd ra rb imm) :
    (M.opK (M.fld L 0) 25 : Int) = op ∧ M.pRd L (M.form op) = rd ∧ M.pRa L (M.form op) = ra ∧ M.pRb L (M.form op) = rb ∧ M.pIm L (M.form op) = imm := by
  obtain ⟨⟨o1, o2⟩, ⟨d1, d2⟩, ⟨a1, a2⟩, ⟨b1, b2⟩, ⟨i1, i2⟩⟩ := M.ok_rng _ _ _ _ _ h
  have hop : (M.opK (M.fld L 0) 25 : Int) = op := by
    obtain ⟨k, rfl⟩ := Int.eq_ofNat_of_zero_le (show 0 ≤ op by omega)
    have e : M.fld L 0 = M.mnem (k : Int) := by rw [hL]; rfl
    rw [e, opK_mnem k (by omega) (by omega)]
  refine ⟨hop, ?_⟩
  have hr := numV_mark 114 rd d1 (by omega)
  have ha := numV_mark 114 ra a1 (by omega)
  have hb := numV_mark 114 rb b1 (by omega)
  have hi := numV_itoa imm (by omega) (by omega)
  unfold M.ok at h
  simp only [Bool.and_eq_true] at h
  obtain ⟨h0, ⟨⟨h1, h2⟩, h3⟩, h4⟩ := h
  have hf := M.form_rng op
  subst hL
  unfold M.opsT M.pRd M.pRa M.pRb M.pIm
  unfold M.okReg at h1 h2 h3
  unfold M.okImm at h4
  have hc : M.form op = 0 ∨ M.form op = 1 ∨ M.form op = 2 ∨ M.form op = 3 ∨ M.form op = 4 ∨ M.form op = 5 ∨ M.form op = 6 ∨ M.form op = 7 := by omega
  have hcs : 0 ≤ imm → M.numV (99 :: Lib.itoa imm) false = imm := fun x => numV_mark 99 imm x (by omega)
  rcases hc with e | e | e | e | e | e | e | e <;> rw [e] at h0 h1 h2 h3 h4 ⊢ <;> simp [M.hasRd, M.hasRa, M.hasRb, M.hasImm, M.hasCsr] at h0 h1 h2 h3 h4
  all_goals
    refine ⟨?_, ?_, ?_, ?_⟩
    all_goals first
      | (simp [M.fld, M.regT, M.csrT, hr, ha, hb, hi]; done)
      | (simp [M.fld, M.regT, M.csrT]; omega)
      | (simp [M.fld, M.csrT]; exact hcs (by omega))
      | (simp; omega)

end Go.Proofs.YtokhipjpppfkgaaGreatDoor
