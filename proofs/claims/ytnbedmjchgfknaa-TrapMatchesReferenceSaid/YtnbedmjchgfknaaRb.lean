/-
  What Pow, Field and Put of the reference package gaolerref01 return when called: contracts over the translated program. Conditions: those that stand in each theorem (valid fields, words of 32 bits).
-/
import Derived.Test.YtnbedmjchgfknaaBase
import Derived.Test.YtnbedmjchgfknaaLaws
import Derived.Deep.QuietTactic
import Derived.BigQuiet
namespace Go.Proofs.Ytnbedmjchgfknaa.Rb
open Go.ChangeShapes Go.WideShapes Go.ChangeAt Go.RowKit
set_option linter.unusedVariables false

theorem pow_step (k : Nat) (hk : k < 32) : IntKind.u64.wrap ((2 : Int) ^ k * 2) = 2 ^ (k + 1) := by
  rw [IntKind.wrap_u64, Int.pow_succ]
  have h : (2 : Nat) ^ k ≤ 2 ^ 32 := Nat.pow_le_pow_right (by decide) (by omega)
  have h2 : ((2 ^ k : Nat) : Int) = (2 : Int) ^ k := M.cast_pow k
  have h3 := Nat.two_pow_pos k
  omega

set_option maxHeartbeats 400000 in
theorem pow (n : Int) (W : World) (hn0 : 0 ≤ n) (hn : n ≤ 32) :
    Calls Try.prog 26 #[.int .i64 n] W fun e W' => e = .returned (.int .u64 (2 ^ n.toNat)) ∧ W = W' := by
  go_enter Try.func26, Try.ntmps26
  go_wp2
  go_loop [3, 4] (fun p i => ∃ k : Nat, k ≤ n.toNat ∧ i = .int .i64 k ∧ p = .int .u64 (2 ^ k)) (fun _ i => n.toNat - (intOf i).toNat)
  case atStart => exact ⟨0, by omega, rfl, rfl⟩
  case round =>
    obtain ⟨k, hk, rfl, rfl⟩ := hrel
    by_cases hlt : (k : Int) < n
    · have HS := Lib.hid (pow_step k (by omega))
      go_wp2
      go_round
      case rel => exact ⟨k + 1, by omega, by go_num, by rw [HS.out]⟩
      case measure => simp [intOf]; omega
    · obtain rfl : n = k := by omega
      go_wp2
      go_ret
      exact ⟨rfl, rfl⟩

theorem pow_q (n : Int) (W : World) (hn0 : 0 ≤ n) (hn : n ≤ 32) :
    Calls Try.prog 26 #[.int .i64 n] W fun e W' => e = .returned (.int .u64 (2 ^ n.toNat)) ∧ W' = W :=
  (pow n W hn0 hn).mono fun _ _ ⟨he, hw⟩ => ⟨he, hw.symm⟩

theorem field_eq (w a n : Int) (hx0 : 0 ≤ w) (hx : w < 4294967296) (hn : n ≤ 32) :
    (IntKind.u64.wrap (w.tdiv (2 ^ a.toNat))).tmod (2 ^ n.toNat) % 4294967296 = M.E w a n := by
  have h1 : 0 ≤ w / 2 ^ a.toNat := Int.ediv_nonneg hx0 (Int.le_of_lt (M.pow_pos32 a))
  have h2 : w / 2 ^ a.toNat < 4294967296 := Int.lt_of_le_of_lt (Int.ediv_le_self _ hx0) hx
  have r := M.E_rng w a n hn
  rw [Int.tdiv_eq_ediv_of_nonneg hx0, IntKind.wrap_u64, Int.emod_eq_of_lt h1 (by omega), Int.tmod_eq_emod_of_nonneg h1, M.E_eq _ _ _ hx0]
  omega

set_option maxHeartbeats 400000 in
theorem field (w a n : Int) (W : World) (hx0 : 0 ≤ w) (hx : w < 4294967296) (ha0 : 0 ≤ a) (ha : a ≤ 32) (hn0 : 0 ≤ n) (hn : n ≤ 32) :
    Calls Try.prog 18 #[.int .u32 w, .int .i64 a, .int .i64 n] W fun e W' => e = .returned (.int .u32 (M.E w a n)) ∧ ∃ q, W' = W.drewN q := by
  have p1 : (2 : Int) ^ a.toNat ≠ 0 := by have := M.pow_pos32 a; omega
  have p2 : (2 : Int) ^ n.toNat ≠ 0 := by have := M.pow_pos32 n; omega
  go_enter Try.func18, Try.ntmps18
  go_wp2
  go_quiet ((go_at_call 26; exact Calls.quiet_of_same (pow_q _ _ (by omega) (by omega))))
  go_wp2
  go_ret
  exact ⟨ret_int (field_eq w a n hx0 hx hn), nq, rfl⟩

/-- after k rounds of Put: the low k bits of the result -/
def PutRel (W : World) (x : Nat) (o i : Value) (w : World) : Prop := ∃ k : Nat, k ≤ 32 ∧ i = .int .i64 k ∧ o = .int .u64 ((x : Int) % 2 ^ k) ∧ ∃ q, w = W.drewN q

theorem put_step (x k : Nat) (b : Int) (hk : k < 32) (hb : b = M.ext x k 1) :
    IntKind.u64.wrap ((x : Int) % 2 ^ k + IntKind.u64.wrap (b * 2 ^ k)) = (x : Int) % 2 ^ (k + 1) := by
  have e1 : (x : Int) % 2 ^ (k + 1) = ((x % 2 ^ (k + 1) : Nat) : Int) := by rw [Int.natCast_emod, M.cast_pow]
  have e2 : (x : Int) % 2 ^ k = ((x % 2 ^ k : Nat) : Int) := by rw [Int.natCast_emod, M.cast_pow]
  have h : (2 : Nat) ^ k ≤ 2 ^ 32 := Nat.pow_le_pow_right (by decide) (by omega)
  have h3 := Nat.two_pow_pos k
  have h4 : x % 2 ^ k < 2 ^ k := Nat.mod_lt _ h3
  have h5 : x / 2 ^ k % 2 = 0 ∨ x / 2 ^ k % 2 = 1 := by omega
  rw [e1, e2, M.mod_succ, hb, IntKind.wrap_u64, IntKind.wrap_u64]
  unfold M.ext
  rw [Nat.pow_one, ← M.cast_pow k]
  generalize x % 2 ^ k = m at *
  generalize 2 ^ k = P at *
  rcases h5 with h5 | h5
  · rw [h5]; omega
  · rw [h5]; omega

theorem one_in (w a n v : Int) (k : Nat) (ha : 0 ≤ a) (hn : 0 ≤ n) (h1 : a ≤ k) (h2 : (k : Int) < a + n) : M.E v (k - a) 1 = M.ext (M.ins w.toNat a.toNat n.toNat v.toNat) k 1 := by
  rw [M.bit_of_ins_in _ _ _ _ _ (by omega)]
  unfold M.E
  rw [show ((k : Int) - a).toNat = k - a.toNat by omega]; rfl

theorem one_out (w a n v : Int) (k : Nat) (ha : 0 ≤ a) (hn : 0 ≤ n) (h : ¬ (a ≤ k ∧ (k : Int) < a + n)) : M.E w k 1 = M.ext (M.ins w.toNat a.toNat n.toNat v.toNat) k 1 := by
  rw [M.bit_of_ins_out _ _ _ _ _ (by omega)]
  unfold M.E
  rw [Int.toNat_natCast]; rfl

theorem I_mod (w a n v : Int) (hx : w < 4294967296) (ha0 : 0 ≤ a) (hn0 : 0 ≤ n) (hn : a + n ≤ 32) : (M.ins w.toNat a.toNat n.toNat v.toNat : Int) % 4294967296 = M.I w a n v := by
  have h := M.I_rng w a n v hx ha0 hn0 hn
  unfold M.I at h ⊢
  omega

set_option maxHeartbeats 1000000 in
theorem put (w a n v : Int) (W : World) (hx0 : 0 ≤ w) (hx : w < 4294967296) (hv0 : 0 ≤ v) (hv : v < 4294967296) (ha0 : 0 ≤ a) (hn0 : 0 ≤ n) (hn : a + n ≤ 32) :
    Calls Try.prog 19 #[.int .u32 w, .int .i64 a, .int .i64 n, .int .u32 v] W fun e W' => e = .returned (.int .u32 (M.I w a n v)) ∧ ∃ q, W' = W.drewN q := by
  go_enter Try.func19, Try.ntmps19
  go_wp2
  go_loopw [9, 10] (fun o i w' => PutRel W (M.ins w.toNat a.toNat n.toNat v.toNat) o i w') (fun _ i _ => 32 - (intOf i).toNat)
  case atStart => exact ⟨0, by omega, rfl, by simp, 0, rfl⟩
  case round =>
    obtain ⟨k, hk, rfl, rfl, q, rfl⟩ := hrel
    by_cases hlt : k < 32
    · have r1 := M.E_rng v ((k : Int) - a) 1 (by omega)
      have r2 := M.E_rng w k 1 (by omega)
      by_cases hin : a ≤ k ∧ (k : Int) < a + n
      · obtain ⟨hin1, hin2⟩ := hin
        have HS := Lib.hid (put_step _ k _ hlt (one_in w a n v k ha0 hn0 hin1 hin2))
        go_wp2_with (first
          | (go_at_call 18; refine (field _ _ _ _ (by omega) (by omega) (by omega) (by omega) (by omega) (by omega)).mono ?_; rintro e w' ⟨rfl, q1, rfl⟩)
          | (go_at_call 26; refine (pow _ _ (by omega) (by omega)).mono ?_; rintro e w' ⟨rfl, rfl⟩))
        exact ⟨⟨k + 1, by omega, by go_num, by rw [← HS.out], _, rfl⟩, by simp [intOf]; omega⟩
      · have HS := Lib.hid (put_step _ k _ hlt (one_out w a n v k ha0 hn0 hin))
        have hin' : ¬ a ≤ k ∨ (a ≤ k ∧ ¬ (k : Int) < a + n) := by omega
        clear hin
        rcases hin' with g | ⟨g1, g2⟩
        all_goals
          go_wp2_with (first
            | (go_at_call 18; refine (field _ _ _ _ (by omega) (by omega) (by omega) (by omega) (by omega) (by omega)).mono ?_; rintro e w' ⟨rfl, q1, rfl⟩)
            | (go_at_call 26; refine (pow _ _ (by omega) (by omega)).mono ?_; rintro e w' ⟨rfl, rfl⟩))
          exact ⟨⟨k + 1, by omega, by go_num, by rw [← HS.out], _, rfl⟩, by simp [intOf]; omega⟩
    · obtain rfl : k = 32 := by omega
      go_wp2
      go_ret
      exact ⟨ret_int (I_mod w a n v hx ha0 hn0 hn), q, rfl⟩

theorem field_dn (w a n : Int) (W : World) (hx0 : 0 ≤ w) (hx : w < 4294967296) (ha0 : 0 ≤ a) (ha : a ≤ 32) (hn0 : 0 ≤ n) (hn : n ≤ 32) :
    Calls Try.prog 18 #[.int .u32 w, .int .i64 a, .int .i64 n] W fun e W' => e = .returned (.int .u32 (M.E w a n)) ∧ Dn W W' :=
  (field w a n W hx0 hx ha0 ha hn0 hn).mono fun _ _ ⟨he, q, hw⟩ => ⟨he, hw ▸ (Dn.refl W).drewN q⟩
theorem put_dn (w a n v : Int) (W : World) (hx0 : 0 ≤ w) (hx : w < 4294967296) (hv0 : 0 ≤ v) (hv : v < 4294967296) (ha0 : 0 ≤ a) (hn0 : 0 ≤ n) (hn : a + n ≤ 32) :
    Calls Try.prog 19 #[.int .u32 w, .int .i64 a, .int .i64 n, .int .u32 v] W fun e W' => e = .returned (.int .u32 (M.I w a n v)) ∧ Dn W W' :=
  (put w a n v W hx0 hx hv0 hv ha0 hn0 hn).mono fun _ _ ⟨he, q, hw⟩ => ⟨he, hw ▸ (Dn.refl W).drewN q⟩
end Go.Proofs.Ytnbedmjchgfknaa.Rb
