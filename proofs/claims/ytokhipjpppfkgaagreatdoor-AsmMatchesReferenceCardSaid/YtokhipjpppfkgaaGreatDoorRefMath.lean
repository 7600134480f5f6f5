/-
  What the reference's reading of numbers and fields gives at the texts of instructions: plain lists of bytes, no program in sight.
-/
import Derived.Test.YtokhipjpppfkgaaGreatDoorRefWords
import Derived.Test.YtokhipjpppfkgaaGreatDoorRefText3
namespace Go.Proofs.YtokhipjpppfkgaaGreatDoor
open Go.ChangeShapes Go.WideShapes Go.ChangeAt Go.RowKit Go.Sort
set_option linter.unusedVariables false

theorem numL_dec (n : Nat) : n ≤ 1000000 → M.numL (Lib.decDigits n) = n := by
  induction n using Nat.strongRecOn with
  | _ n ih =>
    intro hn
    by_cases h : n < 10
    · rw [dec_small h]
      show M.numStep 0 (UInt8.ofNat (48 + n)) = n
      unfold M.numStep
      have e : (UInt8.ofNat (48 + n)).toNat = 48 + n := by rw [UInt8.toNat_ofNat']; omega
      rw [e, if_pos (by omega)]
      omega
    · rw [dec_big h]
      have e0 := ih (n / 10) (by omega) (by omega)
      unfold M.numL at e0 ⊢
      rw [List.foldl_append, e0]
      show M.numStep (n / 10) (UInt8.ofNat (48 + n % 10)) = n
      unfold M.numStep
      have e : (UInt8.ofNat (48 + n % 10)).toNat = 48 + n % 10 := by rw [UInt8.toNat_ofNat']; omega
      rw [e, if_pos (by omega)]
      omega
theorem numL_minus (l : List UInt8) : M.numL (45 :: l) = M.numL l := rfl

/-- the number at from = 0 of a decimal text -/
theorem num_itoa (n : Int) (h0 : -1000000 ≤ n) (h1 : n ≤ 1000000) (W : World) :
    Calls Tryz.prog 29 #[.string ⟨(Lib.itoa n).toArray⟩, .int .i64 0] W fun e W' => e = .returned (.int .i64 n) ∧ Dn W W' := by
  have hl := itoa_short n h0 h1
  refine num_f (Lib.itoa n) 0 n ?_ W (by omega)
  by_cases h : n < 0
  · have e : Lib.itoa n = 45 :: Lib.decDigits n.natAbs := by unfold Lib.itoa; rw [if_pos h]
    rw [e]
    refine .inr (.inr (.inr ⟨rfl, by simp, rfl, ?_⟩))
    rw [numL_minus, numL_dec _ (by omega)]
    omega
  · obtain ⟨m, rfl⟩ := Int.eq_ofNat_of_zero_le (show 0 ≤ n by omega)
    rw [M.itoa_nat]
    have hne := M.dec_ne m
    refine .inr (.inr (.inl ⟨rfl, List.length_pos_iff.2 hne, ?_, by rw [numL_dec _ (by omega)]⟩))
    intro hh
    cases hd : Lib.decDigits m with
    | nil => exact hne hd
    | cons c r =>
      rw [hd] at hh
      injection hh with hh
      have := M.dec_mem m c (by rw [hd]; exact List.mem_cons_self)
      rw [hh] at this
      exact absurd this.1 (by decide)

/-- the number at from = 1 behind a letter -/
theorem num_mark (c : UInt8) (n : Int) (h0 : 0 ≤ n) (h1 : n ≤ 1000000) (W : World) :
    Calls Tryz.prog 29 #[.string ⟨(c :: Lib.itoa n).toArray⟩, .int .i64 1] W fun e W' => e = .returned (.int .i64 n) ∧ Dn W W' := by
  have hl := itoa_short n (by omega) h1
  refine num_f (c :: Lib.itoa n) 1 n (.inl ⟨rfl, ?_⟩) W (by simp only [List.length_cons]; omega)
  obtain ⟨m, rfl⟩ := Int.eq_ofNat_of_zero_le h0
  rw [List.drop_succ_cons, List.drop_zero, M.itoa_nat, numL_dec _ (by omega)]

/-- the number, whatever the string -/
theorem num_any (s : List UInt8) (f : Nat) (hf : f ≤ 1) (W : World) (hs : s.length ≤ 100000) :
    ∃ v : Int, -1000000 ≤ v ∧ v ≤ 1000000 ∧ ∀ W : World, Calls Tryz.prog 29 #[.string ⟨s.toArray⟩, .int .i64 f] W fun e W' => e = .returned (.int .i64 v) ∧ Dn W W' := by
  have h1 := numL_le s
  have h2 := numL_le (s.drop 1)
  by_cases h : f = 1
  · exact ⟨M.numL (s.drop 1), by omega, by omega, fun W => num_f s f _ (.inl ⟨h, rfl⟩) W hs⟩
  · have h0 : f = 0 := by omega
    by_cases he : s = []
    · exact ⟨0, by omega, by omega, fun W => num_f s f _ (.inr (.inl ⟨h0, he, rfl⟩)) W hs⟩
    · by_cases hh : s.head? = some 45
      · exact ⟨-(M.numL s : Int), by omega, by omega, fun W => num_f s f _ (.inr (.inr (.inr ⟨h0, List.length_pos_iff.2 he, hh, rfl⟩))) W hs⟩
      · exact ⟨M.numL s, by omega, by omega, fun W => num_f s f _ (.inr (.inr (.inl ⟨h0, List.length_pos_iff.2 he, hh, rfl⟩))) W hs⟩

theorem flat_uniq : ∀ {L K : List (List UInt8)}, (∀ x ∈ L, (32 : UInt8) ∉ x) → (∀ x ∈ K, (32 : UInt8) ∉ x) → (L.map fun x => x ++ [(32 : UInt8)]).flatten = (K.map fun x => x ++ [32]).flatten → L = K
  | [], [], _, _, _ => rfl
  | [], y :: K, _, _, h => by simp at h
  | x :: L, [], _, _, h => by simp at h
  | x :: L, y :: K, hx, hy, h => by
    simp only [List.map_cons, List.flatten_cons, List.append_assoc, List.cons_append, List.nil_append] at h
    have e : x = y := by
      have a1 := M.index_one_at 32 ((L.map fun x => x ++ [(32 : UInt8)]).flatten) x (hx x List.mem_cons_self)
      have a2 := M.index_one_at 32 ((K.map fun x => x ++ [(32 : UInt8)]).flatten) y (hy y List.mem_cons_self)
      rw [h, a2] at a1
      have hl : x.length = y.length := by omega
      exact List.append_inj_left h hl
    subst e
    have h2 := List.append_cancel_left h
    injection h2 with _ h3
    rw [flat_uniq (fun z hz => hx z (List.mem_cons_of_mem _ hz)) (fun z hz => hy z (List.mem_cons_of_mem _ hz)) h3]
theorem join_flat : ∀ (r : List (List UInt8)) (x : List UInt8), ((x :: r).map fun x => x ++ [(32 : UInt8)]).flatten = Lib.join (x :: r) [32] ++ [32]
  | [], x => by rw [join_one]; simp
  | y :: r, x => by
    rw [M.join_cons2, List.map_cons, List.flatten_cons, join_flat r y]
    simp
/-- the fields of a text -/
theorem wfld_text {op rd ra rb imm : Int} {L : List (List UInt8)} (h : WFld (M.text op rd ra rb imm) L ((M.text op rd ra rb imm).length + 1)) : L = M.mnem op :: M.opsT op rd ra rb imm := by
  obtain ⟨_, h2, h3⟩ := h
  refine flat_uniq h3 (fun y hy => ?_) ?_
  · rcases List.mem_cons.1 hy with rfl | hy
    · exact M.mnem_no op
    · exact M.opsT_no _ _ _ _ _ y hy
  · rw [h2, join_flat, List.take_of_length_le (by simp)]
    rfl
theorem wfld_ne {s : List UInt8} {L : List (List UInt8)} (h : WFld s L (s.length + 1)) : L ≠ [] := by
  intro e
  subst e
  obtain ⟨_, h2, _⟩ := h
  rw [List.take_of_length_le (by simp)] at h2
  simp at h2

end Go.Proofs.YtokhipjpppfkgaaGreatDoor
