/-
  What each function of the reference package gaolerref08 returns when called, and Pow and Field of gaolerref01: contracts over the translated program. Conditions: those that stand in each theorem.
-/
import Derived.Test.YtfghjakhgdoanaaAluCalls
import Derived.Deep.QuietTactic
import Derived.BigQuiet
namespace Go.Proofs.Ytfghjakhgdoanaa
open Go.ChangeShapes Go.WideShapes Go.ChangeAt Go.RowKit Go.Sort
set_option linter.unusedVariables false

theorem pow_step (k : Nat) (hk : k < 32) : IntKind.u64.wrap ((2 : Int) ^ k * 2) = 2 ^ (k + 1) := by
  rw [IntKind.wrap_u64, Int.pow_succ]
  have h : (2 : Nat) ^ k ≤ 2 ^ 32 := Nat.pow_le_pow_right (by decide) (by omega)
  have h2 : ((2 ^ k : Nat) : Int) = (2 : Int) ^ k := M.cast_pow k
  have h3 := Nat.two_pow_pos k
  omega

set_option maxHeartbeats 400000 in
theorem pow (n : Int) (W : World) (hn0 : 0 ≤ n) (hn : n ≤ 32) :
    Calls Try.prog 16 #[.int .i64 n] W fun e W' => e = .returned (.int .u64 (2 ^ n.toNat)) ∧ W = W' := by
  go_enter Try.func16, Try.ntmps16
  go_wp2
  go_loop [3, 4] (fun p i => ∃ k : Nat, k ≤ n.toNat ∧ i = .int .i64 k ∧ p = .int .u64 (2 ^ k)) (fun _ i => n.toNat - (intOf i).toNat)
  case atStart => exact ⟨0, by omega, rfl, rfl⟩
  case round =>
    obtain ⟨k, hk, rfl, rfl⟩ := hrel
    by_cases hlt : (k : Int) < n
    · have HS := Lib.hid (pow_step k (by omega))
      go_wp2
      go_round
      case rel => exact ⟨k + 1, by omega, by go_num, by rw [HS.out]⟩
      case measure => simp [intOf]; omega
    · obtain rfl : n = k := by omega
      go_wp2
      go_ret
      exact ⟨rfl, rfl⟩

theorem pow_q (n : Int) (W : World) (hn0 : 0 ≤ n) (hn : n ≤ 32) :
    Calls Try.prog 16 #[.int .i64 n] W fun e W' => e = .returned (.int .u64 (2 ^ n.toNat)) ∧ W' = W :=
  (pow n W hn0 hn).mono fun _ _ ⟨he, hw⟩ => ⟨he, hw.symm⟩

theorem field_eq (x : Int) (k : Nat) (hx : M.U x) :
    (IntKind.u64.wrap (x.tdiv (2 ^ ((k : Int)).toNat))).tmod (2 ^ (1 : Int).toNat) % 4294967296 = M.one (x.toNat.testBit k) := by
  obtain ⟨x0, x1⟩ := hx
  obtain ⟨n, rfl⟩ := Int.eq_ofNat_of_zero_le x0
  have h1 : 0 ≤ (n : Int) / 2 ^ k := Int.ediv_nonneg x0 (Int.le_of_lt (M.pow_pos k))
  have h2 : (n : Int) / 2 ^ k < 4294967296 := Int.lt_of_le_of_lt (Int.ediv_le_self _ x0) x1
  have e1 : (n : Int) / 2 ^ k = ((n / 2 ^ k : Nat) : Int) := by rw [Int.natCast_ediv, M.cast_pow]
  have e2 : (2 : Int) ^ (1 : Int).toNat = 2 := rfl
  rw [e2, Int.toNat_natCast, Int.tdiv_eq_ediv_of_nonneg x0, IntKind.wrap_u64, Int.emod_eq_of_lt h1 (by omega), Int.tmod_eq_emod_of_nonneg h1, e1, Int.toNat_natCast]
  have e3 : n.testBit k = decide (n / 2 ^ k % 2 = 1) := Nat.testBit_eq_decide_div_mod_eq
  rw [e3]
  generalize n / 2 ^ k = q
  unfold M.one
  by_cases h : q % 2 = 1
  · rw [decide_eq_true h, if_pos rfl]; omega
  · rw [decide_eq_false h, if_neg (by decide)]; omega

set_option maxHeartbeats 400000 in
theorem fieldI (x a n : Int) (W : World) (hx : M.U x) (ha0 : 0 ≤ a) (ha : a ≤ 32) (hn0 : 0 ≤ n) (hn : n ≤ 32) :
    Calls Try.prog 26 #[.int .u32 x, .int .i64 a, .int .i64 n] W fun e W' => e = .returned (.int .u32 ((IntKind.u64.wrap (x.tdiv (2 ^ a.toNat))).tmod (2 ^ n.toNat) % 4294967296)) ∧ Dn W W' := by
  have p1 : (2 : Int) ^ a.toNat ≠ 0 := by have := M.pow_pos a.toNat; omega
  have p2 : (2 : Int) ^ n.toNat ≠ 0 := by have := M.pow_pos n.toNat; omega
  obtain ⟨x0, x1⟩ := hx
  go_enter Try.func26, Try.ntmps26
  go_wp2
  go_quiet ((go_at_call 16; exact Calls.quiet_of_same (pow_q _ _ (by omega) (by omega))))
  go_wp2
  go_ret
  exact ⟨rfl, (Dn.refl W).drewN nq⟩
theorem field (x : Int) (k : Nat) (W : World) (hx : M.U x) (hk : k < 32) :
    Calls Try.prog 26 #[.int .u32 x, .int .i64 k, .int .i64 1] W fun e W' => e = .returned (.int .u32 (M.one (x.toNat.testBit k))) ∧ Dn W W' := by
  rw [← field_eq x k hx]
  exact fieldI x k 1 W hx (by omega) (by omega) (by omega) (by omega)
theorem field_is (x : Int) (k : Nat) (r : Int) (b : Bool) (W : World) (hx : M.U x) (hk : k < 32) (hb : x.toNat.testBit k = b) (hr : M.one b = r) :
    Calls Try.prog 26 #[.int .u32 x, .int .i64 k, .int .i64 1] W fun e W' => e = .returned (.int .u32 r) ∧ Dn W W' := by
  subst hr; subst hb; exact field x k W hx hk

theorem signed (x : Int) (W : World) (hx : M.U x) :
    Calls Try.prog 15 #[.int .u32 x] W fun e W' => e = .returned (.int .i64 (M.sg x)) ∧ W = W' := by
  obtain ⟨x0, x1⟩ := hx
  by_cases h : 2147483648 ≤ x
  · have HE : Hid (M.sg x = x - 4294967296) := Lib.hid (by unfold M.sg; rw [if_neg (by omega)])
    go_enter Try.func15, Try.ntmps15
    go_wp2
    go_ret
    exact ⟨ret_int (by rw [HE.out]), rfl⟩
  · have HE : Hid (M.sg x = x) := Lib.hid (by unfold M.sg; rw [if_pos (by omega)])
    go_enter Try.func15, Try.ntmps15
    go_wp2
    go_ret
    exact ⟨ret_int (by rw [HE.out]), rfl⟩

/-- one bit more -/
theorem more (z k : Nat) (hk : k < 32) : (z.testBit k = true → IntKind.u64.wrap ((z : Int) % 2 ^ k + 2 ^ k) = (z : Int) % 2 ^ (k + 1)) ∧ (z.testBit k = false → (z : Int) % 2 ^ k = (z : Int) % 2 ^ (k + 1)) := by
  have h0 : z % 2 ^ (k + 1) = z % 2 ^ k + (z / 2 ^ k % 2) * 2 ^ k := by rw [Nat.pow_succ, Nat.mod_mul, Nat.mul_comm]
  have e1 : (z : Int) % 2 ^ (k + 1) = ((z % 2 ^ (k + 1) : Nat) : Int) := by rw [Int.natCast_emod, M.cast_pow]
  have e2 : (z : Int) % 2 ^ k = ((z % 2 ^ k : Nat) : Int) := by rw [Int.natCast_emod, M.cast_pow]
  have e3 : z.testBit k = decide (z / 2 ^ k % 2 = 1) := Nat.testBit_eq_decide_div_mod_eq
  have h2 : ((2 ^ k : Nat) : Int) = (2 : Int) ^ k := M.cast_pow k
  have h : (2 : Nat) ^ k ≤ 2 ^ 32 := Nat.pow_le_pow_right (by decide) (by omega)
  have h3 : z % 2 ^ k < 2 ^ k := Nat.mod_lt _ (Nat.two_pow_pos k)
  rw [e1, e2, h0, e3, ← h2, IntKind.wrap_u64]
  generalize z % 2 ^ k = r at *
  generalize (2 : Nat) ^ k = p at *
  constructor
  · intro hb
    rw [of_decide_eq_true hb]
    omega
  · intro hb
    have : z / p % 2 = 0 := by have := of_decide_eq_false hb; omega
    rw [this]
    simp

def BitRel (W : World) (z : Nat) (o i : Value) (w : World) : Prop := ∃ k : Nat, k ≤ 32 ∧ i = .int .i64 k ∧ o = .int .u64 ((z : Int) % 2 ^ k) ∧ Dn W w

set_option maxHeartbeats 1000000 in
theorem bitwise3 (x y : Int) (W : World) (hx : M.U x) (hy : M.U y) :
    Calls Try.prog 14 #[.int .i64 3, .int .u32 x, .int .u32 y] W fun e W' => e = .returned (.int .u32 (M.ev 3 x y)) ∧ Dn W W' := by
  have hz := hx.ev (op := 3) hy
  rw [M.ev3] at hz ⊢
  have HB : Hid (∀ k, (x.toNat &&& y.toNat).testBit k = (x.toNat.testBit k && y.toNat.testBit k)) := Lib.hid fun k => by rw [Nat.testBit_and]
  obtain ⟨z, ez⟩ : ∃ z, z = x.toNat &&& y.toNat := ⟨_, rfl⟩
  rw [← ez] at hz HB ⊢
  clear ez
  obtain ⟨z0, z1⟩ := hz
  have HX := Lib.hid hx
  have HY := Lib.hid hy
  clear hx hy
  go_enter Try.func14, Try.ntmps14
  go_wp2
  go_loopw [7, 8] (fun o i w => BitRel W z o i w) (fun _ i _ => 32 - (intOf i).toNat)
  case atStart => exact ⟨0, by omega, rfl, by simp, Dn.refl W⟩
  case round =>
    obtain ⟨k, hk, rfl, rfl, D⟩ := hrel
    by_cases hlt : k < 32
    · have hlt2 : (k : Int) < 32 := by omega
      have hbk := HB.out k
      have HM := Lib.hid (more z k hlt)
      cases ha : x.toNat.testBit k <;> cases hb : y.toNat.testBit k
      · have C1 := Lib.hid (fun w => field_is x k 0 false w HX.out hlt ha rfl)
        have C2 := Lib.hid (fun w => field_is y k 0 false w HY.out hlt hb rfl)
        rw [ha, hb] at hbk
        have HS := Lib.hid (HM.out.2 hbk)
        clear ha hb hbk HM
        go_wp2_with (first
          | (go_at_call 26; (first | (with_reducible refine (C1.out _).mono ?_) | (with_reducible refine (C2.out _).mono ?_)); rintro e w' ⟨rfl, d'⟩; replace D := D.trans d'; clear d')
          | (go_at_call 16; refine (pow _ _ (by omega) (by omega)).mono ?_; rintro e w' ⟨rfl, rfl⟩))
        go_roundw
        case rel => exact ⟨k + 1, by omega, by go_num, by first | rw [← HS.out, Int.toNat_natCast] | rw [← HS.out], D⟩
        case measure => simp [intOf]; omega
      · have C1 := Lib.hid (fun w => field_is x k 0 false w HX.out hlt ha rfl)
        have C2 := Lib.hid (fun w => field_is y k 1 true w HY.out hlt hb rfl)
        rw [ha, hb] at hbk
        have HS := Lib.hid (HM.out.2 hbk)
        clear ha hb hbk HM
        go_wp2_with (first
          | (go_at_call 26; (first | (with_reducible refine (C1.out _).mono ?_) | (with_reducible refine (C2.out _).mono ?_)); rintro e w' ⟨rfl, d'⟩; replace D := D.trans d'; clear d')
          | (go_at_call 16; refine (pow _ _ (by omega) (by omega)).mono ?_; rintro e w' ⟨rfl, rfl⟩))
        go_roundw
        case rel => exact ⟨k + 1, by omega, by go_num, by first | rw [← HS.out, Int.toNat_natCast] | rw [← HS.out], D⟩
        case measure => simp [intOf]; omega
      · have C1 := Lib.hid (fun w => field_is x k 1 true w HX.out hlt ha rfl)
        have C2 := Lib.hid (fun w => field_is y k 0 false w HY.out hlt hb rfl)
        rw [ha, hb] at hbk
        have HS := Lib.hid (HM.out.2 hbk)
        clear ha hb hbk HM
        go_wp2_with (first
          | (go_at_call 26; (first | (with_reducible refine (C1.out _).mono ?_) | (with_reducible refine (C2.out _).mono ?_)); rintro e w' ⟨rfl, d'⟩; replace D := D.trans d'; clear d')
          | (go_at_call 16; refine (pow _ _ (by omega) (by omega)).mono ?_; rintro e w' ⟨rfl, rfl⟩))
        go_roundw
        case rel => exact ⟨k + 1, by omega, by go_num, by first | rw [← HS.out, Int.toNat_natCast] | rw [← HS.out], D⟩
        case measure => simp [intOf]; omega
      · have C1 := Lib.hid (fun w => field_is x k 1 true w HX.out hlt ha rfl)
        have C2 := Lib.hid (fun w => field_is y k 1 true w HY.out hlt hb rfl)
        rw [ha, hb] at hbk
        have HS := Lib.hid (HM.out.1 hbk)
        clear ha hb hbk HM
        go_wp2_with (first
          | (go_at_call 26; (first | (with_reducible refine (C1.out _).mono ?_) | (with_reducible refine (C2.out _).mono ?_)); rintro e w' ⟨rfl, d'⟩; replace D := D.trans d'; clear d')
          | (go_at_call 16; refine (pow _ _ (by omega) (by omega)).mono ?_; rintro e w' ⟨rfl, rfl⟩))
        go_roundw
        case rel => exact ⟨k + 1, by omega, by go_num, by first | rw [← HS.out, Int.toNat_natCast] | rw [← HS.out], D⟩
        case measure => simp [intOf]; omega
    · obtain rfl : k = 32 := by omega
      go_wp2
      go_ret
      exact ⟨ret_int (by omega), D⟩

set_option maxHeartbeats 1000000 in
theorem bitwise4 (x y : Int) (W : World) (hx : M.U x) (hy : M.U y) :
    Calls Try.prog 14 #[.int .i64 4, .int .u32 x, .int .u32 y] W fun e W' => e = .returned (.int .u32 (M.ev 4 x y)) ∧ Dn W W' := by
  have hz := hx.ev (op := 4) hy
  rw [M.ev4] at hz ⊢
  have HB : Hid (∀ k, (x.toNat ||| y.toNat).testBit k = (x.toNat.testBit k || y.toNat.testBit k)) := Lib.hid fun k => by rw [Nat.testBit_or]
  obtain ⟨z, ez⟩ : ∃ z, z = x.toNat ||| y.toNat := ⟨_, rfl⟩
  rw [← ez] at hz HB ⊢
  clear ez
  obtain ⟨z0, z1⟩ := hz
  have HX := Lib.hid hx
  have HY := Lib.hid hy
  clear hx hy
  go_enter Try.func14, Try.ntmps14
  go_wp2
  go_loopw [7, 8] (fun o i w => BitRel W z o i w) (fun _ i _ => 32 - (intOf i).toNat)
  case atStart => exact ⟨0, by omega, rfl, by simp, Dn.refl W⟩
  case round =>
    obtain ⟨k, hk, rfl, rfl, D⟩ := hrel
    by_cases hlt : k < 32
    · have hlt2 : (k : Int) < 32 := by omega
      have hbk := HB.out k
      have HM := Lib.hid (more z k hlt)
      cases ha : x.toNat.testBit k <;> cases hb : y.toNat.testBit k
      · have C1 := Lib.hid (fun w => field_is x k 0 false w HX.out hlt ha rfl)
        have C2 := Lib.hid (fun w => field_is y k 0 false w HY.out hlt hb rfl)
        rw [ha, hb] at hbk
        have HS := Lib.hid (HM.out.2 hbk)
        clear ha hb hbk HM
        go_wp2_with (first
          | (go_at_call 26; (first | (with_reducible refine (C1.out _).mono ?_) | (with_reducible refine (C2.out _).mono ?_)); rintro e w' ⟨rfl, d'⟩; replace D := D.trans d'; clear d')
          | (go_at_call 16; refine (pow _ _ (by omega) (by omega)).mono ?_; rintro e w' ⟨rfl, rfl⟩))
        go_roundw
        case rel => exact ⟨k + 1, by omega, by go_num, by first | rw [← HS.out, Int.toNat_natCast] | rw [← HS.out], D⟩
        case measure => simp [intOf]; omega
      · have C1 := Lib.hid (fun w => field_is x k 0 false w HX.out hlt ha rfl)
        have C2 := Lib.hid (fun w => field_is y k 1 true w HY.out hlt hb rfl)
        rw [ha, hb] at hbk
        have HS := Lib.hid (HM.out.1 hbk)
        clear ha hb hbk HM
        go_wp2_with (first
          | (go_at_call 26; (first | (with_reducible refine (C1.out _).mono ?_) | (with_reducible refine (C2.out _).mono ?_)); rintro e w' ⟨rfl, d'⟩; replace D := D.trans d'; clear d')
          | (go_at_call 16; refine (pow _ _ (by omega) (by omega)).mono ?_; rintro e w' ⟨rfl, rfl⟩))
        go_roundw
        case rel => exact ⟨k + 1, by omega, by go_num, by first | rw [← HS.out, Int.toNat_natCast] | rw [← HS.out], D⟩
        case measure => simp [intOf]; omega
      · have C1 := Lib.hid (fun w => field_is x k 1 true w HX.out hlt ha rfl)
        have C2 := Lib.hid (fun w => field_is y k 0 false w HY.out hlt hb rfl)
        rw [ha, hb] at hbk
        have HS := Lib.hid (HM.out.1 hbk)
        clear ha hb hbk HM
        go_wp2_with (first
          | (go_at_call 26; (first | (with_reducible refine (C1.out _).mono ?_) | (with_reducible refine (C2.out _).mono ?_)); rintro e w' ⟨rfl, d'⟩; replace D := D.trans d'; clear d')
          | (go_at_call 16; refine (pow _ _ (by omega) (by omega)).mono ?_; rintro e w' ⟨rfl, rfl⟩))
        go_roundw
        case rel => exact ⟨k + 1, by omega, by go_num, by first | rw [← HS.out, Int.toNat_natCast] | rw [← HS.out], D⟩
        case measure => simp [intOf]; omega
      · have C1 := Lib.hid (fun w => field_is x k 1 true w HX.out hlt ha rfl)
        have C2 := Lib.hid (fun w => field_is y k 1 true w HY.out hlt hb rfl)
        rw [ha, hb] at hbk
        have HS := Lib.hid (HM.out.1 hbk)
        clear ha hb hbk HM
        go_wp2_with (first
          | (go_at_call 26; (first | (with_reducible refine (C1.out _).mono ?_) | (with_reducible refine (C2.out _).mono ?_)); rintro e w' ⟨rfl, d'⟩; replace D := D.trans d'; clear d')
          | (go_at_call 16; refine (pow _ _ (by omega) (by omega)).mono ?_; rintro e w' ⟨rfl, rfl⟩))
        go_roundw
        case rel => exact ⟨k + 1, by omega, by go_num, by first | rw [← HS.out, Int.toNat_natCast] | rw [← HS.out], D⟩
        case measure => simp [intOf]; omega
    · obtain rfl : k = 32 := by omega
      go_wp2
      go_ret
      exact ⟨ret_int (by omega), D⟩

set_option maxHeartbeats 1000000 in
theorem bitwise5 (x y : Int) (W : World) (hx : M.U x) (hy : M.U y) :
    Calls Try.prog 14 #[.int .i64 5, .int .u32 x, .int .u32 y] W fun e W' => e = .returned (.int .u32 (M.ev 5 x y)) ∧ Dn W W' := by
  have hz := hx.ev (op := 5) hy
  rw [M.ev5] at hz ⊢
  have HB : Hid (∀ k, (x.toNat ^^^ y.toNat).testBit k = (x.toNat.testBit k ^^ y.toNat.testBit k)) := Lib.hid fun k => by rw [Nat.testBit_xor]
  obtain ⟨z, ez⟩ : ∃ z, z = x.toNat ^^^ y.toNat := ⟨_, rfl⟩
  rw [← ez] at hz HB ⊢
  clear ez
  obtain ⟨z0, z1⟩ := hz
  have HX := Lib.hid hx
  have HY := Lib.hid hy
  clear hx hy
  go_enter Try.func14, Try.ntmps14
  go_wp2
  go_loopw [7, 8] (fun o i w => BitRel W z o i w) (fun _ i _ => 32 - (intOf i).toNat)
  case atStart => exact ⟨0, by omega, rfl, by simp, Dn.refl W⟩
  case round =>
    obtain ⟨k, hk, rfl, rfl, D⟩ := hrel
    by_cases hlt : k < 32
    · have hlt2 : (k : Int) < 32 := by omega
      have hbk := HB.out k
      have HM := Lib.hid (more z k hlt)
      cases ha : x.toNat.testBit k <;> cases hb : y.toNat.testBit k
      · have C1 := Lib.hid (fun w => field_is x k 0 false w HX.out hlt ha rfl)
        have C2 := Lib.hid (fun w => field_is y k 0 false w HY.out hlt hb rfl)
        rw [ha, hb] at hbk
        have HS := Lib.hid (HM.out.2 hbk)
        clear ha hb hbk HM
        go_wp2_with (first
          | (go_at_call 26; (first | (with_reducible refine (C1.out _).mono ?_) | (with_reducible refine (C2.out _).mono ?_)); rintro e w' ⟨rfl, d'⟩; replace D := D.trans d'; clear d')
          | (go_at_call 16; refine (pow _ _ (by omega) (by omega)).mono ?_; rintro e w' ⟨rfl, rfl⟩))
        go_roundw
        case rel => exact ⟨k + 1, by omega, by go_num, by first | rw [← HS.out, Int.toNat_natCast] | rw [← HS.out], D⟩
        case measure => simp [intOf]; omega
      · have C1 := Lib.hid (fun w => field_is x k 0 false w HX.out hlt ha rfl)
        have C2 := Lib.hid (fun w => field_is y k 1 true w HY.out hlt hb rfl)
        rw [ha, hb] at hbk
        have HS := Lib.hid (HM.out.1 hbk)
        clear ha hb hbk HM
        go_wp2_with (first
          | (go_at_call 26; (first | (with_reducible refine (C1.out _).mono ?_) | (with_reducible refine (C2.out _).mono ?_)); rintro e w' ⟨rfl, d'⟩; replace D := D.trans d'; clear d')
          | (go_at_call 16; refine (pow _ _ (by omega) (by omega)).mono ?_; rintro e w' ⟨rfl, rfl⟩))
        go_roundw
        case rel => exact ⟨k + 1, by omega, by go_num, by first | rw [← HS.out, Int.toNat_natCast] | rw [← HS.out], D⟩
        case measure => simp [intOf]; omega
      · have C1 := Lib.hid (fun w => field_is x k 1 true w HX.out hlt ha rfl)
        have C2 := Lib.hid (fun w => field_is y k 0 false w HY.out hlt hb rfl)
        rw [ha, hb] at hbk
        have HS := Lib.hid (HM.out.1 hbk)
        clear ha hb hbk HM
        go_wp2_with (first
          | (go_at_call 26; (first | (with_reducible refine (C1.out _).mono ?_) | (with_reducible refine (C2.out _).mono ?_)); rintro e w' ⟨rfl, d'⟩; replace D := D.trans d'; clear d')
          | (go_at_call 16; refine (pow _ _ (by omega) (by omega)).mono ?_; rintro e w' ⟨rfl, rfl⟩))
        go_roundw
        case rel => exact ⟨k + 1, by omega, by go_num, by first | rw [← HS.out, Int.toNat_natCast] | rw [← HS.out], D⟩
        case measure => simp [intOf]; omega
      · have C1 := Lib.hid (fun w => field_is x k 1 true w HX.out hlt ha rfl)
        have C2 := Lib.hid (fun w => field_is y k 1 true w HY.out hlt hb rfl)
        rw [ha, hb] at hbk
        have HS := Lib.hid (HM.out.2 hbk)
        clear ha hb hbk HM
        go_wp2_with (first
          | (go_at_call 26; (first | (with_reducible refine (C1.out _).mono ?_) | (with_reducible refine (C2.out _).mono ?_)); rintro e w' ⟨rfl, d'⟩; replace D := D.trans d'; clear d')
          | (go_at_call 16; refine (pow _ _ (by omega) (by omega)).mono ?_; rintro e w' ⟨rfl, rfl⟩))
        go_roundw
        case rel => exact ⟨k + 1, by omega, by go_num, by first | rw [← HS.out, Int.toNat_natCast] | rw [← HS.out], D⟩
        case measure => simp [intOf]; omega
    · obtain rfl : k = 32 := by omega
      go_wp2
      go_ret
      exact ⟨ret_int (by omega), D⟩

end Go.Proofs.Ytfghjakhgdoanaa
