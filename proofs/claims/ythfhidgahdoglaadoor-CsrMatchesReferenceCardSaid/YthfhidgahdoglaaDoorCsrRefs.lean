/-
  What each function of the reference package gaolerref04 returns when called: contracts over the translated program. Conditions: those that stand in each theorem.
-/
import Derived.Test.YthfhidgahdoglaaDoorCsrCalls
import Derived.Test.YthfhidgahdoglaaDoorCsrLaws
namespace Go.Proofs.YthfhidgahdoglaaDoor
open Go.ChangeShapes Go.WideShapes Go.ChangeAt Go.RowKit Go.Sort
set_option linter.unusedVariables false

theorem twelve (n : Int) (h : M.ex n = true) : n = 0 ∨ n = 1 ∨ n = 2 ∨ n = 3 ∨ n = 4 ∨ n = 5 ∨ n = 6 ∨ n = 7 ∨ n = 8 ∨ n = 9 ∨ n = 10 ∨ n = 11 := by
  have := (M.ex_iff n).1 h
  omega

set_option maxHeartbeats 4000000 in
theorem refName (n : Int) (W : World) : Calls Tryd.prog 10 #[.int .i64 n] W fun e W' => e = .returned (.string ⟨(M.name n).toArray⟩) ∧ Dn W W' := by
  cases he : M.ex n
  · have HE : Hid (M.name n = []) := Lib.hid (by unfold M.name; rw [he]; rfl)
    rcases (M.ex_no n).1 he with h | h
    · have h1 : decide (n < 0) = true := by simpa using h
      go_enter Tryd.func10, Tryd.ntmps10
      go_wp2
      go_ret
      exact ⟨by rw [HE.out]; rfl, (Dn.refl W).alloc _⟩
    · have h1 : decide (n < 0) = false := by simp; omega
      have h2 : decide (11 < n) = true := by simp; omega
      go_enter Tryd.func10, Tryd.ntmps10
      go_wp2
      go_ret
      exact ⟨by rw [HE.out]; rfl, (Dn.refl W).alloc _⟩
  · rcases twelve n he with rfl | rfl | rfl | rfl | rfl | rfl | rfl | rfl | rfl | rfl | rfl | rfl
    all_goals
      go_enter Tryd.func10, Tryd.ntmps10
      go_wp2
      go_ret
      exact ⟨rfl, (Dn.refl W).alloc _⟩

/-- the bit is writable -/
def wb (n i : Int) : Bool := if n = 0 then decide (1 ≤ i) && decide (i ≤ 3) else if n = 1 ∨ n = 4 ∨ n = 5 then decide (2 ≤ i) else if n = 2 ∨ n = 3 ∨ n = 6 ∨ n = 9 ∨ n = 10 ∨ n = 11 then true else false
theorem mask_bit (n : Int) (i : Nat) (hi : i < 32) : (M.mask n).toNat.testBit i = wb n i := by
  cases he : M.ex n
  · have hb := (M.ex_no n).1 he
    have : M.mask n = 0 := by unfold M.mask; rw [he]; rfl
    rw [this]
    unfold wb
    rw [if_neg (by omega), if_neg (by omega), if_neg (by omega)]
    simp
  · revert i
    rcases twelve n he with rfl | rfl | rfl | rfl | rfl | rfl | rfl | rfl | rfl | rfl | rfl | rfl <;> decide

set_option maxHeartbeats 400000 in
theorem writable (n i : Int) (W : World) : Calls Tryd.prog 23 #[.int .i64 n, .int .i64 i] W fun e W' => e = .returned (.bool (wb n i)) ∧ W = W' := by
  cases he : M.ex n
  · have hb := (M.ex_no n).1 he
    have HE : Hid (wb n i = false) := Lib.hid (by unfold wb; rw [if_neg (by omega), if_neg (by omega), if_neg (by omega)])
    have e0 : (n == 0) = false := by simp; omega
    have e1 : (n == 1) = false := by simp; omega
    have e2 : (n == 2) = false := by simp; omega
    have e3 : (n == 3) = false := by simp; omega
    have e4 : (n == 4) = false := by simp; omega
    have e5 : (n == 5) = false := by simp; omega
    have e6 : (n == 6) = false := by simp; omega
    have e9 : (n == 9) = false := by simp; omega
    have e10 : (n == 10) = false := by simp; omega
    have e11 : (n == 11) = false := by simp; omega
    clear hb
    go_enter Tryd.func23, Tryd.ntmps23
    go_wp2
    go_ret
    exact ⟨ret_bool HE.out.symm, rfl⟩
  · rcases twelve n he with rfl | rfl | rfl | rfl | rfl | rfl | rfl | rfl | rfl | rfl | rfl | rfl
    case inl =>
      by_cases h : 1 ≤ i
      · have HE : Hid (wb 0 i = decide (i ≤ 3)) := Lib.hid (by unfold wb; simp [h])
        go_enter Tryd.func23, Tryd.ntmps23
        go_wp2
        go_ret
        exact ⟨ret_bool HE.out.symm, rfl⟩
      · have HE : Hid (wb 0 i = false) := Lib.hid (by unfold wb; simp [h])
        go_enter Tryd.func23, Tryd.ntmps23
        go_wp2
        go_ret
        exact ⟨ret_bool HE.out.symm, rfl⟩
    all_goals
      go_enter Tryd.func23, Tryd.ntmps23
      go_wp2
      go_ret
      exact ⟨rfl, rfl⟩

theorem refRead (c : List Int) (time n : Int) (W : World) (hl : c.length = 12) (h0 : 0 ≤ time) (h1 : time < 18446744073709551616) :
    Calls Tryd.prog 15 #[.agg (ints .u32 c), .int .u64 time, .int .i64 n] W fun e W' => e = .returned (.int .u32 (M.rd c time n)) ∧ Dn W W' := by
  have hd := (Dn.refl W).alloc (.cells (ints .u32 c) 23)
  by_cases a3 : n = 7
  · have HE : Hid (M.rd c time n = time % 4294967296) := Lib.hid (by unfold M.rd; rw [if_pos a3])
    go_enter Tryd.func15, Tryd.ntmps15
    go_wp2
    go_ret
    exact ⟨ret_int HE.out.symm, hd⟩
  by_cases a4 : n = 8
  · have HE : Hid (M.rd c time n = time / 4294967296) := Lib.hid (by unfold M.rd; rw [if_neg a3, if_pos a4])
    go_enter Tryd.func15, Tryd.ntmps15
    go_wp2
    go_ret
    exact ⟨ret_int HE.out.symm, hd⟩
  have b3 : (n == 7) = false := by simpa using a3
  have b4 : (n == 8) = false := by simpa using a4
  cases he : M.ex n
  · have HE : Hid (M.rd c time n = 0) := Lib.hid (by unfold M.rd; rw [if_neg (by omega), if_neg (by omega), he]; rfl)
    rcases (M.ex_no n).1 he with h | h
    · have h1 : decide (n < 0) = true := by simpa using h
      go_enter Tryd.func15, Tryd.ntmps15
      go_wp2
      go_ret
      exact ⟨ret_int HE.out.symm, hd⟩
    · have h1 : decide (n < 0) = false := by simp; omega
      have h2 : decide (11 < n) = true := by simp; omega
      go_enter Tryd.func15, Tryd.ntmps15
      go_wp2
      go_ret
      exact ⟨ret_int HE.out.symm, hd⟩
  have hb := (M.ex_iff n).1 he
  have HE : Hid (M.rd c time n = M.at_ c n) := Lib.hid (by unfold M.rd; rw [if_neg a3, if_neg a4, if_pos he])
  have kc : (W.alloc (.cells (ints .u32 c) 23)).cell? ⟨W.heap.size, n.toNat, none⟩ = some (.int .u32 (M.at_ c n)) := (Row.new W 23 .u32 c).cell n.toNat (by omega)
  have h1 : decide (n < 0) = false := by simp; omega
  have h2 : decide (11 < n) = false := by simp; omega
  go_enter Tryd.func15, Tryd.ntmps15
  go_wp2
  go_ret
  exact ⟨ret_int HE.out.symm, hd⟩

theorem refCompare (c : List Int) (W : World) (hc : M.Ok c) :
    Calls Tryd.prog 19 #[.agg (ints .u32 c)] W fun e W' => e = .returned (.int .u64 (M.cmp c)) ∧ Dn W W' := by
  have hl := hc.len
  have k9 : (W.alloc (.cells (ints .u32 c) 23)).cell? ⟨W.heap.size, 9, none⟩ = some (.int .u32 (M.at_ c 9)) := (Row.new W 23 .u32 c).cell 9 (by omega)
  have k10 : (W.alloc (.cells (ints .u32 c) 23)).cell? ⟨W.heap.size, 10, none⟩ = some (.int .u32 (M.at_ c 10)) := (Row.new W 23 .u32 c).cell 10 (by omega)
  have r9 := hc.rng 9
  have r10 := hc.rng 10
  go_enter Tryd.func19, Tryd.ntmps19
  go_wp2
  go_ret
  exact ⟨rfl, (Dn.refl W).alloc _⟩

theorem refReset (W : World) : Calls Tryd.prog 21 #[] W fun e W' => e = .returned (.agg (ints .u32 M.reset)) ∧ Dn W W' := by
  have e0 : (#[.int .u32 1, .int .u32 0, .int .u32 0, .int .u32 0, .int .u32 0, .int .u32 0, .int .u32 0, .int .u32 0, .int .u32 0, .int .u32 4294967295, .int .u32 4294967295, .int .u32 0] : Array Value) = ints .u32 M.reset := rfl
  have rz := (Row.zero W).dn ((Dn.refl _).alloc (.cells (ints .u32 M.reset) 23))
  go_enter Tryd.func21, Tryd.ntmps21
  go_wp2_with (first
    | ((with_reducible refine load12 (Row.next W _ M.reset) rfl ?_ ?_ ?_); rfl; rfl)
    | ((with_reducible refine restore12 rz M.reset rfl rfl ?_ ?_ ?_ ?_); rfl; rfl; rfl))
  exact ret12 Tryd.results21 rfl (rz.stored M.reset) rfl ⟨rfl, (((Dn.refl W).alloc _).alloc _).setRow (Nat.le_refl _) _⟩ rfl

/-- one bit more of a word -/
theorem bit_more (x k : Nat) : x % 2 ^ (k + 1) = x % 2 ^ k + (if x.testBit k = true then 2 ^ k else 0) := by
  rw [Nat.pow_succ, Nat.mod_mul, Nat.testBit_eq_decide_div_mod_eq]
  have : x / 2 ^ k % 2 < 2 := Nat.mod_lt _ (by decide)
  by_cases h : x / 2 ^ k % 2 = 1
  · simp [h]
  · have h0 : x / 2 ^ k % 2 = 0 := by omega
    simp [h0]
theorem pow_half (k : Nat) (hk : k < 32) : 2 ^ k ≤ 2147483648 := Nat.pow_le_pow_right (n := 2) (by decide) (show k ≤ 31 by omega)

def MaskRel (W : World) (n : Int) (m p i : Value) (w : World) : Prop := ∃ (k a q : Nat), k ≤ 32 ∧ i = .int .i64 k ∧ m = .int .u32 a ∧ p = .int .u32 q ∧ a = (M.mask n).toNat % 2 ^ k ∧ q = 2 ^ k % 4294967296 ∧ w = W

set_option maxHeartbeats 400000 in
theorem refMask (n : Int) (W : World) : Calls Tryd.prog 13 #[.int .i64 n] W fun e W' => e = .returned (.int .u32 (M.mask n)) ∧ W = W' := by
  have hr := M.mask_rng n
  go_enter Tryd.func13, Tryd.ntmps13
  go_wp2_with fail
  go_loopw [3, 4, 5] (fun m p i w => MaskRel W n m p i w) (fun _ _ i _ => 32 - (intOf i).toNat)
  case atStart => exact ⟨0, 0, 1, by decide, rfl, rfl, rfl, by simp [Nat.mod_one], rfl, rfl⟩
  case round =>
    obtain ⟨k, a, q, hk, rfl, rfl, rfl, ha, hq, rfl⟩ := hrel
    have HA := Lib.hid ha
    have HQ := Lib.hid hq
    clear ha hq
    by_cases hlt : k < 32
    · have hlt2 : (k : Int) < 32 := by omega
      have hp := pow_half k hlt
      have hpos := Nat.two_pow_pos k
      have hq2 : q = 2 ^ k := by rw [HQ.out]; exact Nat.mod_eq_of_lt (by omega)
      have ha2 : a < q := by rw [HA.out, hq2]; exact Nat.mod_lt _ hpos
      have hq3 : q ≤ 2147483648 := by omega
      have HM := Lib.hid (bit_more (M.mask n).toNat k)
      rw [mask_bit n k hlt, ← HA.out, ← hq2] at HM
      have HP : Hid (2 ^ (k + 1) = q * 2) := Lib.hid (by rw [Nat.pow_succ, hq2])
      clear hq2 hpos hp
      go_wp2_with fail
      refine (writable _ _ _).mono ?_
      rintro e w ⟨rfl, rfl⟩
      cases hw : wb n k
      · rw [hw] at HM
        go_wp2
        go_roundw
        case rel => exact ⟨k + 1, a, q * 2 % 4294967296, by omega, by go_num, rfl, by first | (congr 1; omega) | go_num, by rw [HM.out]; rfl, by rw [HP.out], rfl⟩
        case measure => simp [intOf]; omega
      · rw [hw] at HM
        go_wp2
        go_roundw
        case rel => exact ⟨k + 1, a + q, q * 2 % 4294967296, by omega, by go_num, by first | (congr 1; omega) | go_num, by first | (congr 1; omega) | go_num, by rw [HM.out]; rfl, by rw [HP.out], rfl⟩
        case measure => simp [intOf]; omega
    · obtain rfl : k = 32 := by omega
      have e : (a : Int) = M.mask n := by rw [HA.out]; rw [Nat.mod_eq_of_lt (by omega)]; omega
      go_wp2
      go_ret
      exact ⟨ret_int e, rfl⟩

def WrRel (W : World) (X : Nat) (o p i b : Value) (w : World) : Prop := ∃ (k a q : Nat), k ≤ 32 ∧ i = .int .i64 k ∧ o = .int .u32 a ∧ p = .int .u32 q ∧ a = X % 2 ^ k ∧ q = 2 ^ k % 4294967296 ∧ w = W

theorem bit_of (x : Int) (k : Nat) (h0 : 0 ≤ x) : x / ((2 ^ k : Nat) : Int) % 2 = if x.toNat.testBit k = true then 1 else 0 := by
  obtain ⟨x, rfl⟩ := Int.eq_ofNat_of_zero_le h0
  rw [Int.toNat_natCast, Nat.testBit_eq_decide_div_mod_eq, ← Int.natCast_ediv, show ((x / 2 ^ k : Nat) : Int) % 2 = ((x / 2 ^ k % 2 : Nat) : Int) from rfl]
  have : x / 2 ^ k % 2 < 2 := Nat.mod_lt _ (by decide)
  by_cases h : x / 2 ^ k % 2 = 1
  · simp [h]
  · have h2 : x / 2 ^ k % 2 = 0 := by omega
    simp [h2]

theorem tmod_bit (x : Int) (k : Nat) (h0 : 0 ≤ x) : (x / ((2 ^ k : Nat) : Int)).tmod 2 = if x.toNat.testBit k = true then 1 else 0 := by
  rw [Int.tmod_eq_emod_of_nonneg (Int.ediv_nonneg h0 (Int.natCast_nonneg _)), bit_of x k h0]

set_option maxHeartbeats 1000000 in
theorem refWrite_in (c : List Int) (n v : Int) (W : World) (hc : M.Ok c) (h0 : 0 ≤ v) (h1 : v < 4294967296) (he : M.ex n = true) :
    Calls Tryd.prog 17 #[.agg (ints .u32 c), .int .i64 n, .int .u32 v] W fun e W' => e = .returned (.agg (ints .u32 (M.wr c n v))) ∧ Dn W W' := by
  have hl := hc.len
  have hb := (M.ex_iff n).1 he
  have g1 : decide (n < 0) = false := by simp; omega
  have g2 : decide (11 < n) = false := by simp; omega
  have hd := ((Dn.refl W).alloc (.cells (ints .u32 c) 23))
  have rc := Row.new W 23 .u32 c
  have hm := M.mask_rng n
  have ho := hc.rng n
  have hx := M.mix_rng (M.at_ c n) (M.mask n) v hm.1 hm.2
  have HX : Hid (∀ k : Nat, k < 32 → (M.mix (M.at_ c n) (M.mask n) v).toNat.testBit k = if wb n k = true then v.toNat.testBit k else (M.at_ c n).toNat.testBit k) := Lib.hid (fun k hk => by rw [M.mix_bit _ _ _ hm.1 hm.2 k hk, mask_bit n k hk])
  obtain ⟨X, hX⟩ : ∃ X, X = (M.mix (M.at_ c n) (M.mask n) v).toNat := ⟨_, rfl⟩
  rw [← hX] at HX
  go_enter Tryd.func17, Tryd.ntmps17
  go_wp2_with fail
  have hc0 : ((W.alloc (.cells (ints .u32 c) 23)).alloc (.cells #[.int .u32 0, .int .u32 0, .int .u32 0, .int .u32 0, .int .u32 0, .int .u32 0, .int .u32 0, .int .u32 0, .int .u32 0, .int .u32 0, .int .u32 0, .int .u32 0] 23)).cell? ⟨W.heap.size, n.toNat, none⟩ = some (.int .u32 (M.at_ c n)) := (rc.dn ((Dn.refl _).alloc _)).cell n.toNat (by omega)
  obtain ⟨w0, hw0⟩ : ∃ w0, w0 = (W.alloc (.cells (ints .u32 c) 23)).alloc (.cells #[.int .u32 0, .int .u32 0, .int .u32 0, .int .u32 0, .int .u32 0, .int .u32 0, .int .u32 0, .int .u32 0, .int .u32 0, .int .u32 0, .int .u32 0, .int .u32 0] 23) := ⟨_, rfl⟩
  rw [← hw0] at hc0 ⊢
  have HW0 := Lib.hid hw0
  have HXX := Lib.hid hX
  clear hw0 hX
  go_loopw [7, 8, 9, 10] (fun o p i b w => WrRel w0 X o p i b w) (fun _ _ i _ _ => 32 - (intOf i).toNat)
  case atStart => exact ⟨0, 0, 1, by decide, rfl, rfl, rfl, by simp [Nat.mod_one], rfl, rfl⟩
  case round =>
    obtain ⟨k, a, q, hk, rfl, rfl, rfl, ha, hq, rfl⟩ := hrel
    have HA := Lib.hid ha
    have HQ := Lib.hid hq
    clear ha hq
    by_cases hlt : k < 32
    · have hlt2 : (k : Int) < 32 := by omega
      have hp := pow_half k hlt
      have hpos := Nat.two_pow_pos k
      have hq2 : q = 2 ^ k := by rw [HQ.out]; exact Nat.mod_eq_of_lt (by omega)
      have ha2 : a < q := by rw [HA.out, hq2]; exact Nat.mod_lt _ hpos
      have hq3 : q ≤ 2147483648 := by omega
      have hq0 : 0 < q := by omega
      have hq4 : ((q : Int) == 0) = false := by simp; omega
      have HM := Lib.hid (bit_more X k)
      have hbit := HX.out k hlt
      have b1 := tmod_bit (M.at_ c n) k ho.1
      have b2 := tmod_bit v k h0
      rw [← hq2] at b1 b2
      rw [← HA.out, ← hq2] at HM
      have HP : Hid (2 ^ (k + 1) = q * 2) := Lib.hid (by rw [Nat.pow_succ, hq2])
      clear hq2 hpos hp
      cases hw : wb n k
      · rw [hw] at hbit
        simp only [Bool.false_eq_true, if_false] at hbit
        clear b2
        cases hz : (M.at_ c n).toNat.testBit k
        · rw [hz] at hbit b1
          have HBIT := Lib.hid hbit
          simp only [Bool.false_eq_true, if_false] at b1
          clear hbit
          go_wp2_with fail
          refine (writable _ _ _).mono ?_
          rintro e w ⟨rfl, rfl⟩
          go_wp2
          go_roundw
          case rel => exact ⟨k + 1, a, q * 2 % 4294967296, by omega, by go_num, by first | rfl | (congr 1; omega) | go_num, by first | (congr 1; omega) | go_num, by rw [HM.out, HBIT.out]; rfl, by rw [HP.out], rfl⟩
          case measure => simp [intOf]; omega
        · rw [hz] at hbit b1
          have HBIT := Lib.hid hbit
          simp only [if_true] at b1
          clear hbit
          go_wp2_with fail
          refine (writable _ _ _).mono ?_
          rintro e w ⟨rfl, rfl⟩
          go_wp2
          go_roundw
          case rel => exact ⟨k + 1, a + q, q * 2 % 4294967296, by omega, by go_num, by first | rfl | (congr 1; omega) | go_num, by first | (congr 1; omega) | go_num, by rw [HM.out, HBIT.out]; rfl, by rw [HP.out], rfl⟩
          case measure => simp [intOf]; omega
      · rw [hw] at hbit
        simp only [if_true] at hbit
        clear b1
        cases hz : v.toNat.testBit k
        · rw [hz] at hbit b2
          have HBIT := Lib.hid hbit
          simp only [Bool.false_eq_true, if_false] at b2
          clear hbit
          go_wp2_with fail
          refine (writable _ _ _).mono ?_
          rintro e w ⟨rfl, rfl⟩
          go_wp2
          go_roundw
          case rel => exact ⟨k + 1, a, q * 2 % 4294967296, by omega, by go_num, by first | rfl | (congr 1; omega) | go_num, by first | (congr 1; omega) | go_num, by rw [HM.out, HBIT.out]; rfl, by rw [HP.out], rfl⟩
          case measure => simp [intOf]; omega
        · rw [hz] at hbit b2
          have HBIT := Lib.hid hbit
          simp only [if_true] at b2
          clear hbit
          go_wp2_with fail
          refine (writable _ _ _).mono ?_
          rintro e w ⟨rfl, rfl⟩
          go_wp2
          go_roundw
          case rel => exact ⟨k + 1, a + q, q * 2 % 4294967296, by omega, by go_num, by first | rfl | (congr 1; omega) | go_num, by first | (congr 1; omega) | go_num, by rw [HM.out, HBIT.out]; rfl, by rw [HP.out], rfl⟩
          case measure => simp [intOf]; omega
    · obtain rfl : k = 32 := by omega
      have e : (a : Int) = M.mix (M.at_ c n) (M.mask n) v := by rw [HA.out]; have := HXX.out; rw [Nat.mod_eq_of_lt (by omega)]; omega
      have hw := HW0.out
      subst hw
      have kc : ∀ Z, ((W.alloc (.cells (ints .u32 c) 23)).alloc Z).cell? ⟨W.heap.size, n.toNat, none⟩ = some (.int .u32 (M.at_ c n)) := fun Z => ((Row.new W 23 .u32 c).dn ((Dn.refl _).alloc Z)).cell n.toNat (by omega)
      have fr : ∀ Z, ((W.alloc (.cells (ints .u32 c) 23)).alloc Z).frozen? ⟨W.heap.size, n.toNat, none⟩ = false := fun Z => ((Row.new W 23 .u32 c).dn ((Dn.refl _).alloc Z)).fr n.toNat
      have e2 : (ints .u32 c).setIfInBounds n.toNat (.int .u32 (M.mix (M.at_ c n) (M.mask n) v)) = ints .u32 (M.wr c n v) := by rw [ints_set]; unfold M.wr; rw [if_pos he]
      have hl2 := (M.wr_ok hc n v).len
      go_wp2_with (first
        | ((with_reducible refine load12 ((Row.new W 23 .u32 (M.wr c n v)).dn ((Dn.refl _).alloc _)) hl2 ?_ ?_ ?_); rfl; rfl)
        | ((with_reducible refine store12 (b := W.heap.size + 1) (M.wr c n v) hl2 ?_ ?_ ?_ (size_alloc _ _).symm ?_); rfl; rfl; rfl))
      exact ret12 Tryd.results17 rfl (Row.next _ _ _) hl2 ⟨rfl, ((Dn.refl W).alloc _).alloc _⟩ rfl

theorem refWrite (c : List Int) (n v : Int) (W : World) (hc : M.Ok c) (h0 : 0 ≤ v) (h1 : v < 4294967296) :
    Calls Tryd.prog 17 #[.agg (ints .u32 c), .int .i64 n, .int .u32 v] W fun e W' => e = .returned (.agg (ints .u32 (M.wr c n v))) ∧ Dn W W' := by
  have hl := hc.len
  cases he : M.ex n
  · have HE : Hid (M.wr c n v = c) := Lib.hid (M.wr_no c n v he)
    have hd := (Dn.refl W).alloc (.cells (ints .u32 c) 23)
    rcases (M.ex_no n).1 he with h | h
    · have h1 : decide (n < 0) = true := by simpa using h
      go_enter Tryd.func17, Tryd.ntmps17
      go_wp2_with (first
        | ((with_reducible refine load12 ((Row.new W 23 .u32 c).dn ((Dn.refl _).alloc _)) hl ?_ ?_ ?_); rfl; rfl)
        | ((with_reducible refine store12 (b := W.heap.size + 1) c hl ?_ ?_ ?_ (size_alloc _ _).symm ?_); rfl; rfl; rfl))
      exact ret12 Tryd.results17 rfl (Row.next _ _ c) hl ⟨by rw [HE.out], hd.alloc _⟩ rfl
    · have h1 : decide (n < 0) = false := by simp; omega
      have h2 : decide (11 < n) = true := by simp; omega
      go_enter Tryd.func17, Tryd.ntmps17
      go_wp2_with (first
        | ((with_reducible refine load12 ((Row.new W 23 .u32 c).dn ((Dn.refl _).alloc _)) hl ?_ ?_ ?_); rfl; rfl)
        | ((with_reducible refine store12 (b := W.heap.size + 1) c hl ?_ ?_ ?_ (size_alloc _ _).symm ?_); rfl; rfl; rfl))
      exact ret12 Tryd.results17 rfl (Row.next _ _ c) hl ⟨by rw [HE.out], hd.alloc _⟩ rfl
  · exact refWrite_in c n v W hc h0 h1 he

end Go.Proofs.YthfhidgahdoglaaDoor
