/-
  The text of an instruction reads back as that instruction: plain facts on lists of bytes, with no program in sight.
-/
import Derived.Test.YtokhipjpppfkgaaGreatDoorAsmSplit
namespace Go.Proofs.YtokhipjpppfkgaaGreatDoor.M
open Go.RowKit
set_option linter.unusedSimpArgs false

theorem index_one_none (c : UInt8) : ∀ s : List UInt8, c ∉ s → Lib.index s [c] = -1
  | [], _ => rfl
  | b :: l, h => by
    have h1 : c ≠ b := fun e => h (by rw [e]; exact List.mem_cons_self)
    have h2 := index_one_none c l (fun hm => h (List.mem_cons_of_mem _ hm))
    unfold Lib.index
    rw [if_neg (by simp [List.isPrefixOf, h1]), if_pos (by rw [h2]; rfl)]

theorem index_one_at (c : UInt8) (r : List UInt8) : ∀ x : List UInt8, c ∉ x → Lib.index (x ++ c :: r) [c] = x.length
  | [], _ => by
    show Lib.index (c :: r) [c] = 0
    unfold Lib.index
    rw [if_pos (by simp [List.isPrefixOf])]
  | b :: l, h => by
    have h1 : c ≠ b := fun e => h (by rw [e]; exact List.mem_cons_self)
    have h2 := index_one_at c r l (fun hm => h (List.mem_cons_of_mem _ hm))
    show Lib.index (b :: (l ++ c :: r)) [c] = _
    unfold Lib.index
    rw [if_neg (by simp [List.isPrefixOf, h1]), h2, if_neg (by simp)]
    simp

theorem join_cons2 (x y : List UInt8) (r : List (List UInt8)) : Lib.join (x :: y :: r) [32] = x ++ 32 :: Lib.join (y :: r) [32] := by
  rw [Lib.join_cons, Lib.join_cons]
  unfold Lib.joinTail
  simp

theorem splitK_join : ∀ (r : List (List UInt8)) (k : Nat) (x : List UInt8), (∀ y ∈ x :: r, (32 : UInt8) ∉ y) → r.length ≤ k → Lib.splitK [32] 0 k (Lib.join (x :: r) [32]) = x :: r
  | [], k, x, h, _ => by
    rw [Lib.join_one]
    cases k with
    | zero => rfl
    | succ k =>
      unfold Lib.splitK
      rw [index_one_none 32 x (h x List.mem_cons_self)]; rfl
  | y :: r, k, x, h, hk => by
    cases k with
    | zero => simp at hk
    | succ k =>
      have hi := index_one_at 32 (Lib.join (y :: r) [32]) x (h x List.mem_cons_self)
      have ih := splitK_join r k y (fun z hz => h z (List.mem_cons_of_mem _ hz)) (by simp at hk; omega)
      rw [join_cons2]
      unfold Lib.splitK
      rw [hi, if_neg (by simp)]
      have e : ((x.length : Int)).toNat = x.length := by omega
      rw [e]
      have e2 : (x ++ 32 :: Lib.join (y :: r) [32]).drop (x.length + [(32 : UInt8)].length) = Lib.join (y :: r) [32] := by
        rw [List.drop_append]
        simp
      rw [e2, ih]
      simp

theorem join_ge : ∀ (r : List (List UInt8)) (x : List UInt8), r.length ≤ (Lib.join (x :: r) [32]).length
  | [], x => by simp
  | y :: r, x => by
    have := join_ge r y
    rw [join_cons2]
    simp only [List.length_cons, List.length_append]; omega

theorem fields_join (x : List UInt8) (r : List (List UInt8)) (h : ∀ y ∈ x :: r, (32 : UInt8) ∉ y) (hr : r.length ≤ 3) : fields (Lib.join (x :: r) [32]) = x :: r := by
  unfold fields Lib.splitN
  have := join_ge r x
  exact splitK_join r _ x h (by omega)

theorem dec_mem (u : Nat) : ∀ c ∈ Lib.decDigits u, 48 ≤ c.toNat ∧ c.toNat ≤ 57 := by
  induction u using Nat.strongRecOn with
  | _ u ih =>
    intro c hc
    rw [Lib.decDigits] at hc
    split at hc
    · rename_i h
      simp at hc
      subst hc
      simp; omega
    · rename_i h
      rcases List.mem_append.1 hc with hc | hc
      · exact ih (u / 10) (by omega) c hc
      · simp at hc
        subst hc
        simp; omega

theorem dec_ne (u : Nat) : Lib.decDigits u ≠ [] := by
  rw [Lib.decDigits]
  split <;> simp

theorem itoa_mem (n : Int) : ∀ c ∈ Lib.itoa n, c.toNat = 45 ∨ (48 ≤ c.toNat ∧ c.toNat ≤ 57) := by
  intro c hc
  unfold Lib.itoa at hc
  split at hc
  · rcases List.mem_cons.1 hc with rfl | hc
    · exact .inl rfl
    · exact .inr (dec_mem _ c hc)
  · exact .inr (dec_mem _ c hc)

theorem itoa_no (n : Int) (c : UInt8) (h : c.toNat < 45 ∨ 57 < c.toNat) : c ∉ Lib.itoa n := fun hc => by
  have := itoa_mem n c hc
  omega

theorem pu_dec (K : Nat) (hK : K < 9223372036854775808) (u : Nat) : u ≤ K → ∀ t : List UInt8, Lib.parseUintM K 0 (Lib.decDigits u ++ t) = Lib.parseUintM K u t := by
  induction u using Nat.strongRecOn with
  | _ u ih =>
    intro hu t
    rw [Lib.decDigits]
    split
    · rename_i h
      have e : (UInt8.ofNat (48 + u)).toNat = 48 + u := by simp; omega
      show Lib.parseUintM K 0 (UInt8.ofNat (48 + u) :: t) = _
      rw [Lib.parseUintM, e, if_pos (by omega), if_neg (by omega), if_neg (by omega)]
      congr 1; omega
    · rename_i h
      have e : (UInt8.ofNat (48 + u % 10)).toNat = 48 + u % 10 := by simp; omega
      rw [List.append_assoc, ih (u / 10) (by omega) (by omega)]
      show Lib.parseUintM K (u / 10) (UInt8.ofNat (48 + u % 10) :: t) = _
      rw [Lib.parseUintM, e, if_pos (by omega), if_neg (by omega), if_neg (by omega)]
      congr 1; omega

theorem pub_dec (u : Nat) (hu : u ≤ 4294967295) : Lib.parseUintB 32 (Lib.decDigits u) = .ok u := by
  unfold Lib.parseUintB
  rw [if_neg (dec_ne u)]
  have := pu_dec (2 ^ 32 - 1) (by decide) u (by omega) []
  rw [List.append_nil] at this
  rw [this]; rfl

theorem parse_itoa (n : Int) (h0 : -2147483648 ≤ n) (h1 : n < 2147483648) : Lib.parseIntB 32 (Lib.itoa n) = .ok n := by
  unfold Lib.itoa
  split
  · rename_i hn
    have e := pub_dec n.natAbs (by omega)
    unfold Lib.parseIntB
    have e45 : (45 : UInt8).toNat = 45 := rfl
    simp only [e45, or_true, if_true, e]
    rw [if_neg (by simp), if_neg (by simp; omega)]
    simp
    omega
  · rename_i hn
    have e := pub_dec n.toNat (by omega)
    cases hd : Lib.decDigits n.toNat with
    | nil => exact absurd hd (dec_ne _)
    | cons c r =>
      have hc := dec_mem n.toNat c (by rw [hd]; exact List.mem_cons_self)
      rw [hd] at e
      unfold Lib.parseIntB
      simp only
      rw [if_neg (by omega), e]
      simp only
      rw [if_neg (by simp; omega), if_neg (by omega), if_neg (by omega)]
      congr 1; omega

theorem numOf_itoa (n : Int) (h0 : -2147483648 ≤ n) (h1 : n < 2147483648) : numOf (Lib.itoa n) = n := by
  unfold numOf; rw [parse_itoa n h0 h1]

theorem num1_mark (c : UInt8) (n : Int) (h0 : -2147483648 ≤ n) (h1 : n < 2147483648) : num1 [c] (c :: Lib.itoa n) = n := by
  have e : Lib.hasPrefix (c :: Lib.itoa n) [c] = true := by simp [Lib.hasPrefix, List.isPrefixOf]
  unfold num1
  rw [if_pos e]
  unfold Lib.trimPrefix
  rw [if_pos e]
  exact numOf_itoa n h0 h1
theorem num1_bare (n : Int) (h0 : -2147483648 ≤ n) (h1 : n < 2147483648) : num1 [] (Lib.itoa n) = n := by
  have e : Lib.hasPrefix (Lib.itoa n) [] = true := by simp [Lib.hasPrefix, List.isPrefixOf]
  unfold num1
  rw [if_pos e]
  unfold Lib.trimPrefix
  rw [if_pos e]
  exact numOf_itoa n h0 h1

theorem mnem_no (op : Int) : (32 : UInt8) ∉ mnem op := by
  unfold mnem
  by_cases h : op.toNat < 26
  · have : ∀ n : Nat, n < 26 → (32 : UInt8) ∉ mnems.getD n [] := by decide
    exact this _ h
  · have e : mnems.getD op.toNat [] = [] := by
      rw [List.getD_eq_getElem?_getD, List.getElem?_eq_none (by unfold mnems; simp; omega)]; rfl
    rw [e]; simp

theorem opsT_no (op rd ra rb imm : Int) : ∀ x ∈ opsT op rd ra rb imm, (32 : UInt8) ∉ x := by
  have h1 := fun n => itoa_no n 32 (by decide)
  have e1 : ∀ r, (32 : UInt8) ∉ regT r := fun r h => by
    rcases List.mem_cons.1 h with h | h
    · cases h
    · exact h1 r h
  have e2 : ∀ r, (32 : UInt8) ∉ csrT r := fun r h => by
    rcases List.mem_cons.1 h with h | h
    · cases h
    · exact h1 r h
  unfold opsT
  repeat' split
  all_goals
    intro x hx
    simp only [List.mem_cons, or_false, List.not_mem_nil] at hx
    try (rcases hx with rfl | rfl | rfl)
    try (rcases hx with rfl | rfl)
    try subst hx
    all_goals first | exact e1 _ | exact e2 _ | exact h1 _ | cases hx

theorem fields_text (op rd ra rb imm : Int) : fields (text op rd ra rb imm) = mnem op :: opsT op rd ra rb imm := by
  unfold text
  refine fields_join _ _ (fun y hy => ?_) (opsT_len _ _ _ _ _)
  rcases List.mem_cons.1 hy with rfl | hy
  · exact mnem_no op
  · exact opsT_no _ _ _ _ _ y hy

theorem OpOf_mnem (op : Int) (h0 : 0 ≤ op) (h1 : op ≤ 25) : OpOf (mnem op) op := .inl ⟨h0, h1, rfl⟩

theorem okReg_no (r : Int) (h : okReg r false = true) : r = 0 := by simpa [okReg] using h
theorem okImm_no (x : Int) (h : okImm x false false = true) : x = 0 := by simpa [okImm] using h

theorem read_text (op rd ra rb imm : Int) (h : ok op rd ra rb imm = true) :
    rRd op (opsT op rd ra rb imm) = rd ∧ rRa op (opsT op rd ra rb imm) = ra ∧ rRb op (opsT op rd ra rb imm) = rb ∧ rImm op (opsT op rd ra rb imm) = imm := by
  obtain ⟨ho, hd, ha, hb, hi⟩ := ok_rng _ _ _ _ _ h
  obtain ⟨hz, p1, p2, p3, p4⟩ := ok_parts _ _ _ _ _ h
  have e1 := num1_mark 114 rd (by omega) (by omega)
  have e2 := num1_mark 114 ra (by omega) (by omega)
  have e3 := num1_mark 114 rb (by omega) (by omega)
  have e4 := num1_mark 99 imm (by omega) (by omega)
  have e5 := num1_bare imm (by omega) (by omega)
  unfold rRd rRa rRb rImm opsT regT csrT
  have hc : form op = 0 ∨ form op = 1 ∨ form op = 2 ∨ form op = 3 ∨ form op = 4 ∨ form op = 5 ∨ form op = 6 ∨ form op = 7 := by have := form_rng op; omega
  rcases hc with e | e | e | e | e | e | e | e
  · exact absurd e hz
  all_goals
    rw [e] at p1 p2 p3 p4
    simp only [hasRd, hasRa, hasRb, hasImm, hasCsr, Int.reduceBEq, Bool.or_true, Bool.true_or, Bool.or_false, Bool.false_or] at p1 p2 p3 p4
    try have q1 := okReg_no _ p1
    try have q2 := okReg_no _ p2
    try have q3 := okReg_no _ p3
    try have q4 := okImm_no _ p4
    simp [e, nx, e1, e2, e3, e4, e5]
    try omega

end Go.Proofs.YtokhipjpppfkgaaGreatDoor.M
