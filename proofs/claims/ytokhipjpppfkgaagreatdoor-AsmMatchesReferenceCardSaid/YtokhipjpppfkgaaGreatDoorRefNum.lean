/-
  What num of package gaolerref03 returns when called: contract over the translated program. Conditions: those that stand in each theorem.
-/
import Derived.Test.YtokhipjpppfkgaaGreatDoorAsmAwake
namespace Go.Proofs.YtokhipjpppfkgaaGreatDoor
open Go.ChangeShapes Go.WideShapes Go.ChangeAt Go.RowKit Go.Sort
set_option linter.unusedVariables false

def M.numStep (n : Nat) (c : UInt8) : Nat := if 48 ≤ c.toNat ∧ c.toNat ≤ 57 then min 1000000 (10 * n + (c.toNat - 48)) else n
def M.numL (l : List UInt8) : Nat := l.foldl M.numStep 0
theorem numStep_le (n : Nat) (c : UInt8) (h : n ≤ 1000000) : M.numStep n c ≤ 1000000 := by
  unfold M.numStep
  split <;> omega
theorem numL_le (l : List UInt8) : M.numL l ≤ 1000000 := by
  unfold M.numL
  suffices h : ∀ (l : List UInt8) (n : Nat), n ≤ 1000000 → l.foldl M.numStep n ≤ 1000000 from h l 0 (by omega)
  intro l
  induction l with
  | nil => intro n h; exact h
  | cons c r ih => intro n h; exact ih _ (numStep_le n c h)
def M.numV (s : List UInt8) (from0 : Bool) : Int := if from0 = true then (if s.head? = some 45 then -(M.numL s : Int) else M.numL s) else M.numL (s.drop 1)

def NumRel (s : List UInt8) (f : Nat) (W : World) (n i : Value) (w : World) : Prop :=
  ∃ k : Nat, f ≤ k ∧ k ≤ max f s.length ∧ i = .int .i64 k ∧ n = .int .i64 (M.numL ((s.take k).drop f) : Nat) ∧ w = W

theorem num_step (s : List UInt8) (f k : Nat) (hf : f ≤ k) (hk : k < s.length) : M.numL ((s.take (k + 1)).drop f) = M.numStep (M.numL ((s.take k).drop f)) s[k] := by
  unfold M.numL
  rw [List.take_succ_eq_append_getElem hk, List.drop_append_of_le_length (by rw [List.length_take]; omega), List.foldl_append]
  rfl
theorem at_nat {s : List UInt8} {k : Nat} (hk : k < s.length) (h2 : k < (⟨s.toArray⟩ : ByteArray).size) : (((⟨s.toArray⟩ : ByteArray)[k]'h2).toNat : Int) = ((s[k].toNat : Nat) : Int) := by
  have e : (⟨s.toArray⟩ : ByteArray)[k]'h2 = s[k] := by
    show s.toArray[k]'(by simpa using hk) = s[k]
    simp
  rw [e]

set_option maxRecDepth 100000 in
set_option maxHeartbeats 1000000 in
theorem num_f (s : List UInt8) (f : Nat) (v : Int) (hp : (f = 1 ∧ v = M.numL (s.drop 1)) ∨ (f = 0 ∧ s = [] ∧ v = 0) ∨ (f = 0 ∧ 0 < s.length ∧ s.head? ≠ some 45 ∧ v = M.numL s) ∨ (f = 0 ∧ 0 < s.length ∧ s.head? = some 45 ∧ v = -(M.numL s : Int))) (W : World) (hs : s.length ≤ 100000) :
    Calls Tryz.prog 29 #[.string ⟨s.toArray⟩, .int .i64 f] W fun e W' => e = .returned (.int .i64 v) ∧ Dn W W' := by
  have hf : f ≤ 1 := by rcases hp with h | h | h | h <;> omega
  have HP := Lib.hid hp
  clear hp
  go_enter Tryz.func29, Tryz.ntmps29
  go_wp2_with fail
  go_loopw [5, 6] (fun n i w => NumRel s f W n i w) (fun _ i _ => s.length - (intOf i).toNat)
  case atStart => exact ⟨f, by omega, by omega, rfl, by rw [List.drop_eq_nil_of_le (by rw [List.length_take]; omega)]; rfl, rfl⟩
  case round =>
    obtain ⟨k, hk1, hk2, rfl, rfl, rfl⟩ := hrel
    have hle := numL_le ((s.take k).drop f)
    by_cases hlt : k < s.length
    · have hlt2 : (k : Int) < s.length := by omega
      have HN := Lib.hid (num_step s f k hk1 hlt)
      obtain ⟨c, hc⟩ : ∃ c, c = s[k] := ⟨_, rfl⟩
      have hg : ∀ h2 : k < (⟨s.toArray⟩ : ByteArray).size, (((⟨s.toArray⟩ : ByteArray)[k]'h2).toNat : Int) = ((c.toNat : Nat) : Int) := fun h2 => by rw [hc]; exact at_nat hlt h2
      have HN2 : Hid (M.numL ((s.take (k + 1)).drop f) = M.numStep (M.numL ((s.take k).drop f)) c) := Lib.hid (by rw [hc]; exact HN.out)
      clear HN hc
      generalize M.numL ((s.take k).drop f) = n at *
      have hz := c.toNat_lt
      have HS : Hid (M.numStep n c = if 48 ≤ c.toNat ∧ c.toNat ≤ 57 then min 1000000 (10 * n + (c.toNat - 48)) else n) := Lib.hid rfl
      generalize c.toNat = z at *
      by_cases z1 : 48 ≤ z
      · by_cases z2 : z ≤ 57
        · have y1 : (48 : Int) ≤ z := by omega
          have y2 : (z : Int) ≤ 57 := by omega
          go_wp2
          exact ⟨⟨k + 1, by omega, by omega, by go_num, by
            rw [HN2.out, HS.out, if_pos ⟨z1, z2⟩]
            congr 1
            omega, rfl⟩, by simp [intOf]; omega⟩
        · have y1 : (48 : Int) ≤ z := by omega
          have y2 : ¬ (z : Int) ≤ 57 := by omega
          go_wp2
          exact ⟨⟨k + 1, by omega, by omega, by go_num, by rw [HN2.out, HS.out, if_neg (by omega)], rfl⟩, by simp [intOf]; omega⟩
      · have y1 : ¬ (48 : Int) ≤ z := by omega
        go_wp2
        exact ⟨⟨k + 1, by omega, by omega, by go_num, by rw [HN2.out, HS.out, if_neg (by omega)], rfl⟩, by simp [intOf]; omega⟩
    · have ek : s.take k = s := List.take_of_length_le (by omega)
      rw [ek] at hle ⊢
      clear ek
      rcases HP.out with ⟨rfl, hv⟩ | ⟨rfl, hs0, hv⟩ | ⟨rfl, hpos, hh, hv⟩ | ⟨rfl, hpos, hh, hv⟩
      · rw [← hv]
        clear hv HP
        go_wp2
        go_ret
        exact ⟨rfl, Dn.refl _⟩
      · subst hs0
        clear HP
        go_wp2
        go_ret
        exact ⟨by rw [hv]; rfl, Dn.refl _⟩
      · rw [List.drop_zero] at hle ⊢
        have hpos2 : (0 : Int) < s.length := by omega
        have hg : ∀ h2 : 0 < (⟨s.toArray⟩ : ByteArray).size, ((((⟨s.toArray⟩ : ByteArray)[0]'h2).toNat : Int) == 45) = false := fun h2 => by
          rw [at_nat hpos h2, beq_eq_false_iff_ne]
          intro e
          apply hh
          rw [List.head?_eq_getElem?, List.getElem?_eq_getElem hpos]
          congr 1
          exact UInt8.toNat_inj.1 (show s[0].toNat = 45 by omega)
        have HV := Lib.hid hv
        generalize M.numL s = n at *
        have hi : (n : Int) ≤ 1000000 := by omega
        clear hv HP
        go_wp2
        go_ret
        exact ⟨by rw [HV.out]; rfl, Dn.refl _⟩
      · rw [List.drop_zero] at hle ⊢
        have hpos2 : (0 : Int) < s.length := by omega
        have hg : ∀ h2 : 0 < (⟨s.toArray⟩ : ByteArray).size, ((((⟨s.toArray⟩ : ByteArray)[0]'h2).toNat : Int) == 45) = true := fun h2 => by
          rw [at_nat hpos h2, beq_iff_eq]
          rw [List.head?_eq_getElem?, List.getElem?_eq_getElem hpos] at hh
          injection hh with hh
          rw [hh]
          rfl
        have HV := Lib.hid hv
        generalize M.numL s = n at *
        have hi : (n : Int) ≤ 1000000 := by omega
        clear hv HP
        go_wp2
        go_ret
        exact ⟨by rw [HV.out]; rfl, Dn.refl _⟩
end Go.Proofs.YtokhipjpppfkgaaGreatDoor
