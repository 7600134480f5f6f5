/-
  What each function of the reference package gaolerref01 returns when called: contracts over the translated program. Conditions: those that stand in each theorem (valid fields, words of 32 bits).
-/
import Derived.Test.YtokhipjpppfkgaaGreatDoorCalls
import Derived.Test.YtokhipjpppfkgaaGreatDoorLaws
import Derived.Deep.QuietTactic
import Derived.BigQuiet
namespace Go.Proofs.YtokhipjpppfkgaaGreatDoor
open Go.ChangeShapes Go.WideShapes Go.ChangeAt Go.RowKit
set_option linter.unusedVariables false

theorem pow_step (k : Nat) (hk : k < 32) : IntKind.u64.wrap ((2 : Int) ^ k * 2) = 2 ^ (k + 1) := by
  rw [IntKind.wrap_u64, Int.pow_succ]
  have h : (2 : Nat) ^ k ≤ 2 ^ 32 := Nat.pow_le_pow_right (by decide) (by omega)
  have h2 : ((2 ^ k : Nat) : Int) = (2 : Int) ^ k := M.cast_pow k
  have h3 := Nat.two_pow_pos k
  omega

set_option maxHeartbeats 400000 in
theorem pow (n : Int) (W : World) (hn0 : 0 ≤ n) (hn : n ≤ 32) :
    Calls Tryz.prog 60 #[.int .i64 n] W fun e W' => e = .returned (.int .u64 (2 ^ n.toNat)) ∧ W = W' := by
  go_enter Tryz.func60, Tryz.ntmps60
  go_wp2
  go_loop [3, 4] (fun p i => ∃ k : Nat, k ≤ n.toNat ∧ i = .int .i64 k ∧ p = .int .u64 (2 ^ k)) (fun _ i => n.toNat - (intOf i).toNat)
  case atStart => exact ⟨0, by omega, rfl, rfl⟩
  case round =>
    obtain ⟨k, hk, rfl, rfl⟩ := hrel
    by_cases hlt : (k : Int) < n
    · have HS := Lib.hid (pow_step k (by omega))
      go_wp2
      go_round
      case rel => exact ⟨k + 1, by omega, by go_num, by rw [HS.out]⟩
      case measure => simp [intOf]; omega
    · obtain rfl : n = k := by omega
      go_wp2
      go_ret
      exact ⟨rfl, rfl⟩

theorem pow_q (n : Int) (W : World) (hn0 : 0 ≤ n) (hn : n ≤ 32) :
    Calls Tryz.prog 60 #[.int .i64 n] W fun e W' => e = .returned (.int .u64 (2 ^ n.toNat)) ∧ W' = W :=
  (pow n W hn0 hn).mono fun _ _ ⟨he, hw⟩ => ⟨he, hw.symm⟩

theorem field_eq (w a n : Int) (hx0 : 0 ≤ w) (hx : w < 4294967296) (hn : n ≤ 32) :
    (IntKind.u64.wrap (w.tdiv (2 ^ a.toNat))).tmod (2 ^ n.toNat) % 4294967296 = M.E w a n := by
  have h1 : 0 ≤ w / 2 ^ a.toNat := Int.ediv_nonneg hx0 (Int.le_of_lt (M.pow_pos32 a))
  have h2 : w / 2 ^ a.toNat < 4294967296 := Int.lt_of_le_of_lt (Int.ediv_le_self _ hx0) hx
  have r := M.E_rng w a n hn
  rw [Int.tdiv_eq_ediv_of_nonneg hx0, IntKind.wrap_u64, Int.emod_eq_of_lt h1 (by omega), Int.tmod_eq_emod_of_nonneg h1, M.E_eq _ _ _ hx0]
  omega

set_option maxHeartbeats 400000 in
theorem field (w a n : Int) (W : World) (hx0 : 0 ≤ w) (hx : w < 4294967296) (ha0 : 0 ≤ a) (ha : a ≤ 32) (hn0 : 0 ≤ n) (hn : n ≤ 32) :
    Calls Tryz.prog 61 #[.int .u32 w, .int .i64 a, .int .i64 n] W fun e W' => e = .returned (.int .u32 (M.E w a n)) ∧ ∃ q, W' = W.drewN q := by
  have p1 : (2 : Int) ^ a.toNat ≠ 0 := by have := M.pow_pos32 a; omega
  have p2 : (2 : Int) ^ n.toNat ≠ 0 := by have := M.pow_pos32 n; omega
  go_enter Tryz.func61, Tryz.ntmps61
  go_wp2
  go_quiet ((go_at_call 60; exact Calls.quiet_of_same (pow_q _ _ (by omega) (by omega))))
  go_wp2
  go_ret
  exact ⟨ret_int (field_eq w a n hx0 hx hn), nq, rfl⟩

/-- after k rounds of Put: the low k bits of the result -/
def PutRel (W : World) (x : Nat) (o i : Value) (w : World) : Prop := ∃ k : Nat, k ≤ 32 ∧ i = .int .i64 k ∧ o = .int .u64 ((x : Int) % 2 ^ k) ∧ ∃ q, w = W.drewN q

theorem put_step (x k : Nat) (b : Int) (hk : k < 32) (hb : b = M.ext x k 1) :
    IntKind.u64.wrap ((x : Int) % 2 ^ k + IntKind.u64.wrap (b * 2 ^ k)) = (x : Int) % 2 ^ (k + 1) := by
  have e1 : (x : Int) % 2 ^ (k + 1) = ((x % 2 ^ (k + 1) : Nat) : Int) := by rw [Int.natCast_emod, M.cast_pow]
  have e2 : (x : Int) % 2 ^ k = ((x % 2 ^ k : Nat) : Int) := by rw [Int.natCast_emod, M.cast_pow]
  have h : (2 : Nat) ^ k ≤ 2 ^ 32 := Nat.pow_le_pow_right (by decide) (by omega)
  have h3 := Nat.two_pow_pos k
  have h4 : x % 2 ^ k < 2 ^ k := Nat.mod_lt _ h3
  have h5 : x / 2 ^ k % 2 = 0 ∨ x / 2 ^ k % 2 = 1 := by omega
  rw [e1, e2, M.mod_succ, hb, IntKind.wrap_u64, IntKind.wrap_u64]
  unfold M.ext
  rw [Nat.pow_one, ← M.cast_pow k]
  generalize x % 2 ^ k = m at *
  generalize 2 ^ k = P at *
  rcases h5 with h5 | h5
  · rw [h5]; omega
  · rw [h5]; omega

theorem one_in (w a n v : Int) (k : Nat) (ha : 0 ≤ a) (hn : 0 ≤ n) (h1 : a ≤ k) (h2 : (k : Int) < a + n) : M.E v (k - a) 1 = M.ext (M.ins w.toNat a.toNat n.toNat v.toNat) k 1 := by
  rw [M.bit_of_ins_in _ _ _ _ _ (by omega)]
  unfold M.E
  rw [show ((k : Int) - a).toNat = k - a.toNat by omega]; rfl

theorem one_out (w a n v : Int) (k : Nat) (ha : 0 ≤ a) (hn : 0 ≤ n) (h : ¬ (a ≤ k ∧ (k : Int) < a + n)) : M.E w k 1 = M.ext (M.ins w.toNat a.toNat n.toNat v.toNat) k 1 := by
  rw [M.bit_of_ins_out _ _ _ _ _ (by omega)]
  unfold M.E
  rw [Int.toNat_natCast]; rfl

theorem I_mod (w a n v : Int) (hx : w < 4294967296) (ha0 : 0 ≤ a) (hn0 : 0 ≤ n) (hn : a + n ≤ 32) : (M.ins w.toNat a.toNat n.toNat v.toNat : Int) % 4294967296 = M.I w a n v := by
  have h := M.I_rng w a n v hx ha0 hn0 hn
  unfold M.I at h ⊢
  omega


theorem sign_eq (v n : Int) (hv0 : 0 ≤ v) (hn : n ≤ 32) : M.E v 0 n = v % 2 ^ n.toNat := by
  rw [← M.E_eq _ _ _ hv0]; simp

theorem S_hi (v n : Int) (hv0 : 0 ≤ v) (hn0 : 1 ≤ n) (hn : n ≤ 32) (h : 2 ^ (n.toNat - 1) ≤ M.E v 0 n) : M.E v 0 n - 2 ^ n.toNat = M.S v n := by
  rw [sign_eq v n hv0 hn] at h ⊢
  unfold M.S; rw [if_pos h]

theorem S_lo (v n : Int) (hv0 : 0 ≤ v) (hn0 : 1 ≤ n) (hn : n ≤ 32) (h : ¬ 2 ^ (n.toNat - 1) ≤ M.E v 0 n) : M.E v 0 n = M.S v n := by
  rw [sign_eq v n hv0 hn] at h ⊢
  unfold M.S; rw [if_neg h]

theorem pow_pred (n : Int) (hn0 : 1 ≤ n) : (n - 1).toNat = n.toNat - 1 := by omega

theorem half_rng (n : Int) (hn0 : 1 ≤ n) (hn : n ≤ 32) : 0 < (2 : Int) ^ (n.toNat - 1) ∧ (2 : Int) ^ (n.toNat - 1) ≤ 2147483648 := by
  have h : (2 : Nat) ^ (n.toNat - 1) ≤ 2 ^ 31 := Nat.pow_le_pow_right (by decide) (by omega)
  have h2 : ((2 ^ (n.toNat - 1) : Nat) : Int) = (2 : Int) ^ (n.toNat - 1) := M.cast_pow _
  have h3 := Nat.two_pow_pos (n.toNat - 1)
  omega

theorem wrap32_in (x : Int) (h : -2147483648 ≤ x ∧ x < 2147483648) : wrap32 x = x := by unfold wrap32; omega

set_option maxHeartbeats 400000 in
theorem sign (v n : Int) (W : World) (hv0 : 0 ≤ v) (hv : v < 4294967296) (hn0 : 1 ≤ n) (hn : n ≤ 32) :
    Calls Tryz.prog 39 #[.int .u32 v, .int .i64 n] W fun e W' => e = .returned (.int .i32 (M.S v n)) ∧ ∃ q, W' = W.drewN q := by
  have r1 := M.E_rng v 0 n hn
  have r3 := M.pow_le32 n hn
  have r4 := M.pow_pos32 n
  have r5 := half_rng n hn0 hn
  by_cases h : 2 ^ (n.toNat - 1) ≤ M.E v 0 n
  · have HE := Lib.hid (S_hi v n hv0 hn0 hn h)
    have HR := Lib.hid (M.S_rng v n hn0 hn)
    go_enter Tryz.func39, Tryz.ntmps39
    go_wp2_with (first
      | (go_at_call 61; refine (field _ _ _ _ (by omega) (by omega) (by omega) (by omega) (by omega) (by omega)).mono ?_; rintro e w' ⟨rfl, q1, rfl⟩)
      | (go_at_call 60; refine (pow _ _ (by omega) (by omega)).mono ?_; rintro e w' ⟨rfl, rfl⟩))
    go_ret
    exact ⟨ret_int (by rw [HE.out, wrap32_in _ HR.out]), _, rfl⟩
  · have HE := Lib.hid (S_lo v n hv0 hn0 hn h)
    go_enter Tryz.func39, Tryz.ntmps39
    go_wp2_with (first
      | (go_at_call 61; refine (field _ _ _ _ (by omega) (by omega) (by omega) (by omega) (by omega) (by omega)).mono ?_; rintro e w' ⟨rfl, q1, rfl⟩)
      | (go_at_call 60; refine (pow _ _ (by omega) (by omega)).mono ?_; rintro e w' ⟨rfl, rfl⟩))
    go_ret
    exact ⟨ret_int HE.out, _, rfl⟩

theorem F_no1 (x n : Int) (h : x < -2 ^ (n.toNat - 1)) : false = M.F x n := by
  symm; unfold M.F; rw [decide_eq_false_iff_not]; exact fun c => Int.not_le.2 h c.1
theorem F_no2 (x n : Int) (h : 2 ^ (n.toNat - 1) ≤ x) : false = M.F x n := by
  symm; unfold M.F; rw [decide_eq_false_iff_not]; exact fun c => Int.not_lt.2 h c.2
theorem F_yes (x n : Int) (h1 : -2 ^ (n.toNat - 1) ≤ x) (h2 : x < 2 ^ (n.toNat - 1)) : true = M.F x n := by
  symm; unfold M.F; rw [decide_eq_true_eq]; exact ⟨h1, h2⟩

set_option maxHeartbeats 400000 in
theorem fits (x n : Int) (W : World) (hx0 : -2147483648 ≤ x) (hx : x < 2147483648) (hn0 : 1 ≤ n) (hn : n ≤ 32) :
    Calls Tryz.prog 38 #[.int .i32 x, .int .i64 n] W fun e W' => e = .returned (.bool (M.F x n)) ∧ W = W' := by
  have r5 := half_rng n hn0 hn
  by_cases h1 : -2 ^ (n.toNat - 1) ≤ x
  · by_cases h2 : x < 2 ^ (n.toNat - 1)
    · go_enter Tryz.func38, Tryz.ntmps38
      go_wp2_with (go_at_call 60; refine (pow _ _ (by omega) (by omega)).mono ?_; rintro e w' ⟨rfl, rfl⟩)
      go_ret
      exact ⟨ret_bool (F_yes x n h1 h2), rfl⟩
    · go_enter Tryz.func38, Tryz.ntmps38
      go_wp2_with (go_at_call 60; refine (pow _ _ (by omega) (by omega)).mono ?_; rintro e w' ⟨rfl, rfl⟩)
      go_ret
      exact ⟨ret_bool (by rw [decide_eq_false (Int.not_lt.2 h2)]; exact F_no2 x n h2), rfl⟩
  · go_enter Tryz.func38, Tryz.ntmps38
    go_wp2_with (go_at_call 60; refine (pow _ _ (by omega) (by omega)).mono ?_; rintro e w' ⟨rfl, rfl⟩)
    go_ret
    exact ⟨ret_bool (F_no1 x n h1), rfl⟩

theorem low_eq (x y n : Int) (hn0 : 1 ≤ n) (hn : n ≤ 32) (e : x % 4294967296 = y) : y % 2 ^ n.toNat % 4294967296 = M.L x n := by
  have h := M.L_eq x n hn0 hn
  rw [e] at h
  have r := M.L_rng x n hn
  rw [h]
  omega

set_option maxHeartbeats 400000 in
theorem low (x n : Int) (W : World) (hx0 : -2147483648 ≤ x) (hx : x < 2147483648) (hn0 : 1 ≤ n) (hn : n ≤ 32) :
    Calls Tryz.prog 62 #[.int .i32 x, .int .i64 n] W fun e W' => e = .returned (.int .u32 (M.L x n)) ∧ W = W' := by
  have p1 : (2 : Int) ^ n.toNat ≠ 0 := by have := M.pow_pos32 n; omega
  by_cases h1 : x < 0
  · go_enter Tryz.func62, Tryz.ntmps62
    go_wp2_with (go_at_call 60; refine (pow _ _ (by omega) (by omega)).mono ?_; rintro e w' ⟨rfl, rfl⟩)
    go_ret
    exact ⟨ret_int (low_eq x _ n hn0 hn (by omega)), rfl⟩
  · go_enter Tryz.func62, Tryz.ntmps62
    go_wp2_with (go_at_call 60; refine (pow _ _ (by omega) (by omega)).mono ?_; rintro e w' ⟨rfl, rfl⟩)
    go_ret
    exact ⟨ret_int (low_eq x _ n hn0 hn (by omega)), rfl⟩

end Go.Proofs.YtokhipjpppfkgaaGreatDoor
