/-
  The law IsaTwentyFiveOpcodes walked. Conditions: the two tables.
-/
import Derived.Test.YtfhgenoecpnkbaaDoorAwake
import Derived.Test.YtfhgenoecpnkbaaDoorIsaLaws
namespace Go.Proofs.YtfhgenoecpnkbaaDoor
open Go.ChangeShapes Go.WideShapes Go.ChangeAt Go.RowKit
set_option linter.unusedVariables false

/-- how many of the opcodes below k have a format, and are privileged -/
def cF (k : Nat) : Int := if k ≤ 1 then 0 else if k ≤ 26 then (k : Int) - 1 else 25
def cP (k : Nat) : Int := if k ≤ 21 then 0 else if k ≤ 26 then (k : Int) - 21 else 5

def TfRel (W : World) (f p o : Value) (w : World) : Prop := ∃ k : Nat, k ≤ 64 ∧ o = .int .i64 k ∧ f = .int .i64 (cF k) ∧ p = .int .i64 (cP k) ∧ Up W w

theorem or_low (k : Nat) (r : Int) (hk : k < 64) (h0 : 0 ≤ r) : bits .or .u32 ((k : Int) * 67108864) (r % 67108864) = (k : Int) * 67108864 + r % 67108864 := by
  obtain ⟨R, rfl⟩ := Int.eq_ofNat_of_zero_le h0
  have h1 : R % 67108864 < 2 ^ 26 := Nat.mod_lt _ (by decide)
  have e := Nat.two_pow_add_eq_or_of_lt h1 k
  have e1 : ((k : Int) * 67108864) = ((2 ^ 26 * k : Nat) : Int) := by omega
  have e2 : ((R : Int) % 67108864) = ((R % 67108864 : Nat) : Int) := by omega
  rw [e1, e2, u32_or_nat _ _ (by omega) (by omega), ← e]
  omega

theorem dok_none (t : Int) (h : M.form (M.dOp t) = 0) : M.dok t = false := by
  unfold M.dok M.ok
  rw [h]; rfl

theorem dok_bare (k : Int) (h0 : 1 ≤ k) (h : k ≤ 25) : 0 < M.form k ∧ M.dok (k * 67108864) = true := by
  have hf : M.form k ≠ 0 := by
    rcases ops k h0 h with rfl | rfl | rfl | rfl | rfl | rfl | rfl | rfl | rfl | rfl | rfl | rfl | rfl | rfl | rfl | rfl | rfl | rfl | rfl | rfl | rfl | rfl | rfl | rfl | rfl <;> decide
  have hr := M.form_rng k
  have h1 : ∀ b, M.okReg 0 b = true := by decide
  have h2 : ∀ a b, M.okImm 0 a b = true := by decide
  have hk : M.ok k 0 0 0 0 = true := by rw [M.ok_eq _ _ _ _ _ (by simpa using hf), h1, h1, h1, h2]; rfl
  have hw : M.word k 0 0 0 0 = k * 67108864 := by unfold M.word; split <;> omega
  refine ⟨by omega, ?_⟩
  rw [← hw]; exact M.word_dok _ _ _ _ _ hk

theorem cF_rng (k : Nat) : 0 ≤ cF k ∧ cF k ≤ 25 := by unfold cF; split; omega; split <;> omega
theorem cP_rng (k : Nat) : 0 ≤ cP k ∧ cP k ≤ 5 := by unfold cP; split; omega; split <;> omega

/-- the ways through a round -/
theorem tf_ways (k : Nat) (r : Int) (hk : k < 64) (h0 : 0 ≤ r) :
    (M.form k = 0 ∧ M.dok ((k : Int) * 67108864) = false ∧ M.dok ((k : Int) * 67108864 + r % 67108864) = false ∧ M.priv k = false ∧ Hid (cF (k + 1) = cF k) ∧ Hid (cP (k + 1) = cP k))
    ∨ (0 < M.form k ∧ M.dok ((k : Int) * 67108864) = true ∧ M.priv k = false ∧ Hid (cF (k + 1) = cF k + 1) ∧ Hid (cP (k + 1) = cP k))
    ∨ (0 < M.form k ∧ M.dok ((k : Int) * 67108864) = true ∧ M.priv k = true ∧ Hid (cF (k + 1) = cF k + 1) ∧ Hid (cP (k + 1) = cP k + 1)) := by
  by_cases hin : 1 ≤ k ∧ k ≤ 25
  · obtain ⟨b1, b2⟩ := dok_bare k (by omega) (by omega)
    by_cases hp : 21 ≤ k
    · refine .inr (.inr ⟨b1, b2, by unfold M.priv; rw [decide_eq_true_eq]; omega, Lib.hid ?_, Lib.hid ?_⟩)
      · unfold cF; repeat' split
        all_goals omega
      · unfold cP; repeat' split
        all_goals omega
    · refine .inr (.inl ⟨b1, b2, by unfold M.priv; rw [decide_eq_false_iff_not]; omega, Lib.hid ?_, Lib.hid ?_⟩)
      · unfold cF; repeat' split
        all_goals omega
      · unfold cP; repeat' split
        all_goals omega
  · have hf : M.form k = 0 := M.form_none k (by omega)
    have d1 : M.dOp ((k : Int) * 67108864) = k := by unfold M.dOp; omega
    have d2 : M.dOp ((k : Int) * 67108864 + r % 67108864) = k := by unfold M.dOp; omega
    refine .inl ⟨hf, dok_none _ (by rw [d1]; exact hf), dok_none _ (by rw [d2]; exact hf), by unfold M.priv; rw [decide_eq_false_iff_not]; omega, Lib.hid ?_, Lib.hid ?_⟩
    · unfold cF; repeat' split
      all_goals omega
    · unfold cP; repeat' split
      all_goals omega

set_option maxHeartbeats 1000000 in
theorem tf (r : Int) (s1 : 0 ≤ r) (s2 : r < 4294967296) (W : World) (T : Tabs W) :
    Calls Tryd.prog 6 #[.int .u32 r] W fun e W' => e = .returned (.bool true) ∧ Up W W' := by
  go_enter Tryd.func6, Tryd.ntmps6
  go_wp2_with fail
  refine (awake _ T).mono ?_
  rintro e w1 ⟨rfl, up1⟩
  go_wp2_with fail
  go_loopw [3, 4, 5] (fun f p o w => TfRel W f p o w) (fun _ _ o _ => 64 - (intOf o).toNat)
  case atStart => exact ⟨0, by omega, rfl, rfl, rfl, up1⟩
  case round =>
    obtain ⟨k, hk, rfl, rfl, rfl, up⟩ := hrel
    by_cases hlt : k < 64
    · have ho := or_low k r hlt s1
      have q1 := cF_rng k
      have q2 := cP_rng k
      rcases tf_ways k r hlt s1 with ⟨f1, f2, f3, f4, HF, HP⟩ | ⟨f1, f2, f4, HF, HP⟩ | ⟨f1, f2, f4, HF, HP⟩
      · go_wp2_with fail
        refine (decode _ _ (T.up up) (by omega) (by omega)).mono ?_
        rintro e w2 ⟨rfl, up2⟩
        have u2' := up.trans up2
        go_wp2_with fail
        refine (decode _ _ (T.up (u2'.alloc _)) (by omega) (by omega)).mono ?_
        rintro e w3 ⟨rfl, up3⟩
        have u3' := (u2'.alloc _).trans up3
        go_wp2_with (first
          | (go_at_call 13; refine (formatOf _ _ (T.up (u3'.alloc _))).mono ?_; rintro e w' ⟨rfl, rfl⟩)
          | (go_at_call 15; refine (isPrivileged _ _).mono ?_; rintro e w' ⟨rfl, rfl⟩))
        exact ⟨⟨k + 1, by omega, by go_num, by rw [HF.out], by rw [HP.out], u3'.alloc _⟩, by simp [intOf]; omega⟩
      · cases f3 : M.dok ((k : Int) * 67108864 + r % 67108864)
        all_goals
          go_wp2_with fail
          refine (decode _ _ (T.up up) (by omega) (by omega)).mono ?_
          rintro e w2 ⟨rfl, up2⟩
          have u2' := up.trans up2
          go_wp2_with fail
          refine (decode _ _ (T.up (u2'.alloc _)) (by omega) (by omega)).mono ?_
          rintro e w3 ⟨rfl, up3⟩
          have u3' := (u2'.alloc _).trans up3
          go_wp2_with (first
            | (go_at_call 13; refine (formatOf _ _ (T.up (u3'.alloc _))).mono ?_; rintro e w' ⟨rfl, rfl⟩)
            | (go_at_call 15; refine (isPrivileged _ _).mono ?_; rintro e w' ⟨rfl, rfl⟩))
          exact ⟨⟨k + 1, by omega, by go_num, by rw [HF.out], by rw [HP.out], u3'.alloc _⟩, by simp [intOf]; omega⟩
      · cases f3 : M.dok ((k : Int) * 67108864 + r % 67108864)
        all_goals
          go_wp2_with fail
          refine (decode _ _ (T.up up) (by omega) (by omega)).mono ?_
          rintro e w2 ⟨rfl, up2⟩
          have u2' := up.trans up2
          go_wp2_with fail
          refine (decode _ _ (T.up (u2'.alloc _)) (by omega) (by omega)).mono ?_
          rintro e w3 ⟨rfl, up3⟩
          have u3' := (u2'.alloc _).trans up3
          go_wp2_with (first
            | (go_at_call 13; refine (formatOf _ _ (T.up (u3'.alloc _))).mono ?_; rintro e w' ⟨rfl, rfl⟩)
            | (go_at_call 15; refine (isPrivileged _ _).mono ?_; rintro e w' ⟨rfl, rfl⟩))
          exact ⟨⟨k + 1, by omega, by go_num, by rw [HF.out], by rw [HP.out], u3'.alloc _⟩, by simp [intOf]; omega⟩
    · obtain rfl : k = 64 := by omega
      have e1 : cF 64 = 25 := rfl
      have e2 : cP 64 = 5 := rfl
      go_wp2
      go_ret
      exact ⟨rfl, up⟩
end Go.Proofs.YtfhgenoecpnkbaaDoor
