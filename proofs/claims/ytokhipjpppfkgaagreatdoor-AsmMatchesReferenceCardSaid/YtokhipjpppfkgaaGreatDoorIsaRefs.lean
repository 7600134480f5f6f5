/-
  What the functions of the reference package gaolerref02, and IsPrivileged of package isa, return when called: contracts over the translated program. Conditions: those that stand in each theorem.
-/
import Derived.Test.YtokhipjpppfkgaaGreatDoorIsaCalls
namespace Go.Proofs.YtokhipjpppfkgaaGreatDoor
open Go.ChangeShapes Go.WideShapes Go.ChangeAt Go.RowKit
set_option linter.unusedVariables false

theorem ops (op : Int) (h0 : 1 ≤ op) (h : op ≤ 25) : op = 1 ∨ op = 2 ∨ op = 3 ∨ op = 4 ∨ op = 5 ∨ op = 6 ∨ op = 7 ∨ op = 8 ∨ op = 9 ∨ op = 10 ∨ op = 11 ∨ op = 12 ∨ op = 13 ∨ op = 14 ∨ op = 15 ∨ op = 16 ∨ op = 17 ∨ op = 18 ∨ op = 19 ∨ op = 20 ∨ op = 21 ∨ op = 22 ∨ op = 23 ∨ op = 24 ∨ op = 25 := by omega

set_option maxHeartbeats 4000000 in
theorem refForm (op : Int) (W : World) :
    Calls Tryz.prog 25 #[.int .i64 op] W fun e W' => e = .returned (.int .i64 (M.form op)) ∧ W = W' := by
  by_cases hin : 1 ≤ op ∧ op ≤ 25
  · rcases ops op hin.1 hin.2 with rfl | rfl | rfl | rfl | rfl | rfl | rfl | rfl | rfl | rfl | rfl | rfl | rfl | rfl | rfl | rfl | rfl | rfl | rfl | rfl | rfl | rfl | rfl | rfl | rfl
    all_goals
      clear hin
      go_enter Tryz.func25, Tryz.ntmps25
      go_wp2
      go_ret
      exact ⟨ret_int (by decide), rfl⟩
  · have HE : Hid (M.form op = 0) := Lib.hid (M.form_none op hin)
    have n1 : (op == 1) = false := beq_eq_false_iff_ne.2 (by omega)
    have n2 : (op == 2) = false := beq_eq_false_iff_ne.2 (by omega)
    have n3 : (op == 3) = false := beq_eq_false_iff_ne.2 (by omega)
    have n4 : (op == 4) = false := beq_eq_false_iff_ne.2 (by omega)
    have n5 : (op == 5) = false := beq_eq_false_iff_ne.2 (by omega)
    have n6 : (op == 6) = false := beq_eq_false_iff_ne.2 (by omega)
    have n7 : (op == 7) = false := beq_eq_false_iff_ne.2 (by omega)
    have n8 : (op == 8) = false := beq_eq_false_iff_ne.2 (by omega)
    have n9 : (op == 9) = false := beq_eq_false_iff_ne.2 (by omega)
    have n10 : (op == 10) = false := beq_eq_false_iff_ne.2 (by omega)
    have n11 : (op == 11) = false := beq_eq_false_iff_ne.2 (by omega)
    have n12 : (op == 12) = false := beq_eq_false_iff_ne.2 (by omega)
    have n13 : (op == 13) = false := beq_eq_false_iff_ne.2 (by omega)
    have n14 : (op == 14) = false := beq_eq_false_iff_ne.2 (by omega)
    have n15 : (op == 15) = false := beq_eq_false_iff_ne.2 (by omega)
    have n16 : (op == 16) = false := beq_eq_false_iff_ne.2 (by omega)
    have n17 : (op == 17) = false := beq_eq_false_iff_ne.2 (by omega)
    have n18 : (op == 18) = false := beq_eq_false_iff_ne.2 (by omega)
    have n19 : (op == 19) = false := beq_eq_false_iff_ne.2 (by omega)
    have n20 : (op == 20) = false := beq_eq_false_iff_ne.2 (by omega)
    have n21 : (op == 21) = false := beq_eq_false_iff_ne.2 (by omega)
    have n22 : (op == 22) = false := beq_eq_false_iff_ne.2 (by omega)
    have n23 : (op == 23) = false := beq_eq_false_iff_ne.2 (by omega)
    have n24 : (op == 24) = false := beq_eq_false_iff_ne.2 (by omega)
    have n25 : (op == 25) = false := beq_eq_false_iff_ne.2 (by omega)
    clear hin
    go_enter Tryz.func25, Tryz.ntmps25
    go_wp2
    go_ret
    exact ⟨ret_int HE.out.symm, rfl⟩

theorem five_ops (op : Int) : op = 21 ∨ op = 22 ∨ op = 23 ∨ op = 24 ∨ op = 25 ∨ (op < 21 ∨ 25 < op) := by omega
theorem priv_no (op : Int) (h : op < 21 ∨ 25 < op) : false = M.priv op := by
  unfold M.priv; symm; rw [decide_eq_false_iff_not]; omega



set_option maxHeartbeats 400000 in
theorem refReg (r : Int) (has : Bool) (W : World) :
    Calls Tryz.prog 37 #[.int .i64 r, .bool has] W fun e W' => e = .returned (.bool (M.okReg r has)) ∧ W = W' := by
  cases has
  · go_enter Tryz.func37, Tryz.ntmps37
    go_wp2
    go_ret
    exact ⟨ret_bool rfl, rfl⟩
  · by_cases h0 : 0 ≤ r
    · go_enter Tryz.func37, Tryz.ntmps37
      go_wp2
      go_ret
      exact ⟨ret_bool (okReg_true r true (decide (r ≤ 15)) (by simp [h0]) (by rw [Bool.eq_iff_iff, decide_eq_true_eq, decide_eq_true_eq]; omega)), rfl⟩
    · go_enter Tryz.func37, Tryz.ntmps37
      go_wp2
      go_ret
      exact ⟨ret_bool (okReg_true r false true (by simp [h0]) (by simp; omega)), rfl⟩

theorem forms (f : Int) (h : 0 ≤ f ∧ f ≤ 7) : f = 0 ∨ f = 1 ∨ f = 2 ∨ f = 3 ∨ f = 4 ∨ f = 5 ∨ f = 6 ∨ f = 7 := by omega

theorem ok_csr (op rd ra rb imm : Int) (hz : (M.form op == 0) = false) (hi : M.hasImm (M.form op) = false) (hc : M.hasCsr (M.form op) = true) (a b : Bool) (ha : a = decide (0 ≤ imm)) (hb : b = decide (imm < 12))
    (h1 : M.okReg rd (M.hasRd (M.form op)) = true) (h2 : M.okReg ra (M.hasRa (M.form op)) = true) (h3 : M.okReg rb (M.hasRb (M.form op)) = true) : (a && b) = M.ok op rd ra rb imm := by
  rw [M.ok_eq op rd ra rb imm hz, h1, h2, h3, hi, hc, okCsr imm a b ha hb]; rfl

theorem ok_no1 (op rd ra rb imm : Int) (f : Int) (hf : M.form op = f) (hz : f ≠ 0) (h : M.okReg rd (M.hasRd f) = false) : false = M.ok op rd ra rb imm := by
  subst hf; rw [M.ok_eq op rd ra rb imm (by simpa using hz), h]; rfl
theorem ok_no2 (op rd ra rb imm : Int) (f : Int) (hf : M.form op = f) (hz : f ≠ 0) (h1 : M.okReg rd (M.hasRd f) = true) (h : M.okReg ra (M.hasRa f) = false) : false = M.ok op rd ra rb imm := by
  subst hf; rw [M.ok_eq op rd ra rb imm (by simpa using hz), h1, h]; rfl
theorem ok_no3 (op rd ra rb imm : Int) (f : Int) (hf : M.form op = f) (hz : f ≠ 0) (h1 : M.okReg rd (M.hasRd f) = true) (h2 : M.okReg ra (M.hasRa f) = true) (h : M.okReg rb (M.hasRb f) = false) : false = M.ok op rd ra rb imm := by
  subst hf; rw [M.ok_eq op rd ra rb imm (by simpa using hz), h1, h2, h]; rfl
theorem ok_yes (op rd ra rb imm : Int) (f : Int) (hf : M.form op = f) (hz : f ≠ 0) (h1 : M.okReg rd (M.hasRd f) = true) (h2 : M.okReg ra (M.hasRa f) = true) (h : M.okReg rb (M.hasRb f) = true) : M.okImm imm (M.hasImm f) (M.hasCsr f) = M.ok op rd ra rb imm := by
  subst hf; rw [M.ok_eq op rd ra rb imm (by simpa using hz), h1, h2, h]; rfl

/-- the format, and whether its registers are in range: the ways through May -/
theorem ways (op rd ra rb imm : Int) (f : Int) (hf : M.form op = f) (hz : f ≠ 0) :
    (M.okReg rd (M.hasRd f) = false ∧ Hid (false = M.ok op rd ra rb imm)) ∨
    (M.okReg rd (M.hasRd f) = true ∧ M.okReg ra (M.hasRa f) = false ∧ Hid (false = M.ok op rd ra rb imm)) ∨
    (M.okReg rd (M.hasRd f) = true ∧ M.okReg ra (M.hasRa f) = true ∧ M.okReg rb (M.hasRb f) = false ∧ Hid (false = M.ok op rd ra rb imm)) ∨
    (M.okReg rd (M.hasRd f) = true ∧ M.okReg ra (M.hasRa f) = true ∧ M.okReg rb (M.hasRb f) = true ∧ Hid (M.okImm imm (M.hasImm f) (M.hasCsr f) = M.ok op rd ra rb imm)) := by
  cases h1 : M.okReg rd (M.hasRd f)
  · exact .inl ⟨rfl, Lib.hid (ok_no1 _ _ _ _ _ f hf hz h1)⟩
  · cases h2 : M.okReg ra (M.hasRa f)
    · exact .inr (.inl ⟨rfl, rfl, Lib.hid (ok_no2 _ _ _ _ _ f hf hz h1 h2)⟩)
    · cases h3 : M.okReg rb (M.hasRb f)
      · exact .inr (.inr (.inl ⟨rfl, rfl, rfl, Lib.hid (ok_no3 _ _ _ _ _ f hf hz h1 h2 h3)⟩))
      · exact .inr (.inr (.inr ⟨rfl, rfl, rfl, Lib.hid (ok_yes _ _ _ _ _ f hf hz h1 h2 h3)⟩))

set_option maxHeartbeats 4000000 in
theorem may (op rd ra rb imm : Int) (W : World) (hx0 : -2147483648 ≤ imm) (hx : imm < 2147483648) :
    Calls Tryz.prog 18 #[.agg #[.int .i64 op, .int .i64 rd, .int .i64 ra, .int .i64 rb, .int .i32 imm]] W fun e W' => e = .returned (.bool (M.ok op rd ra rb imm)) ∧ Up W W' := by
  rcases forms _ (M.form_rng op) with hf | hf | hf | hf | hf | hf | hf | hf
  case inl =>
    have HE : Hid (false = M.ok op rd ra rb imm) := Lib.hid (by unfold M.ok; simp [hf])
    go_enter Tryz.func18, Tryz.ntmps18
    go_wp2_with (go_at_call 25; refine (refForm _ _).mono ?_; rintro e w' ⟨rfl, rfl⟩)
    go_ret
    exact ⟨ret_bool HE.out, (Up.refl _).alloc _⟩
  case inr.inl =>
    rcases ways op rd ra rb imm _ hf (by decide) with ⟨h1, HE⟩ | ⟨h1, h2, HE⟩ | ⟨h1, h2, h3, HE⟩ | ⟨h1, h2, h3, HE⟩
    · rw [show M.hasRd 1 = true from rfl] at h1
      go_enter Tryz.func18, Tryz.ntmps18
      go_wp2_with (first
        | (go_at_call 25; refine (refForm _ _).mono ?_; rintro e w' ⟨rfl, rfl⟩)
        | (go_at_call 37; refine (refReg _ _ _).mono ?_; rintro e w' ⟨rfl, rfl⟩)
        | (go_at_call 38; refine (fits _ _ _ (by omega) (by omega) (by omega) (by omega)).mono ?_; rintro e w' ⟨rfl, rfl⟩))
      go_ret
      exact ⟨ret_bool HE.out, (Up.refl _).alloc _⟩
    · rw [show M.hasRd 1 = true from rfl] at h1; rw [show M.hasRa 1 = true from rfl] at h2
      go_enter Tryz.func18, Tryz.ntmps18
      go_wp2_with (first
        | (go_at_call 25; refine (refForm _ _).mono ?_; rintro e w' ⟨rfl, rfl⟩)
        | (go_at_call 37; refine (refReg _ _ _).mono ?_; rintro e w' ⟨rfl, rfl⟩)
        | (go_at_call 38; refine (fits _ _ _ (by omega) (by omega) (by omega) (by omega)).mono ?_; rintro e w' ⟨rfl, rfl⟩))
      go_ret
      exact ⟨ret_bool HE.out, (Up.refl _).alloc _⟩
    · rw [show M.hasRd 1 = true from rfl] at h1; rw [show M.hasRa 1 = true from rfl] at h2; rw [show M.hasRb 1 = true from rfl] at h3
      go_enter Tryz.func18, Tryz.ntmps18
      go_wp2_with (first
        | (go_at_call 25; refine (refForm _ _).mono ?_; rintro e w' ⟨rfl, rfl⟩)
        | (go_at_call 37; refine (refReg _ _ _).mono ?_; rintro e w' ⟨rfl, rfl⟩)
        | (go_at_call 38; refine (fits _ _ _ (by omega) (by omega) (by omega) (by omega)).mono ?_; rintro e w' ⟨rfl, rfl⟩))
      go_ret
      exact ⟨ret_bool HE.out, (Up.refl _).alloc _⟩
    · rw [show M.hasRd 1 = true from rfl] at h1; rw [show M.hasRa 1 = true from rfl] at h2; rw [show M.hasRb 1 = true from rfl] at h3
      go_enter Tryz.func18, Tryz.ntmps18
      go_wp2_with (first
        | (go_at_call 25; refine (refForm _ _).mono ?_; rintro e w' ⟨rfl, rfl⟩)
        | (go_at_call 37; refine (refReg _ _ _).mono ?_; rintro e w' ⟨rfl, rfl⟩)
        | (go_at_call 38; refine (fits _ _ _ (by omega) (by omega) (by omega) (by omega)).mono ?_; rintro e w' ⟨rfl, rfl⟩))
      go_ret
      exact ⟨ret_bool HE.out, (Up.refl _).alloc _⟩
  case inr.inr.inl =>
    rcases ways op rd ra rb imm _ hf (by decide) with ⟨h1, HE⟩ | ⟨h1, h2, HE⟩ | ⟨h1, h2, h3, HE⟩ | ⟨h1, h2, h3, HE⟩
    · rw [show M.hasRd 2 = true from rfl] at h1
      go_enter Tryz.func18, Tryz.ntmps18
      go_wp2_with (first
        | (go_at_call 25; refine (refForm _ _).mono ?_; rintro e w' ⟨rfl, rfl⟩)
        | (go_at_call 37; refine (refReg _ _ _).mono ?_; rintro e w' ⟨rfl, rfl⟩)
        | (go_at_call 38; refine (fits _ _ _ (by omega) (by omega) (by omega) (by omega)).mono ?_; rintro e w' ⟨rfl, rfl⟩))
      go_ret
      exact ⟨ret_bool HE.out, (Up.refl _).alloc _⟩
    · rw [show M.hasRd 2 = true from rfl] at h1; rw [show M.hasRa 2 = true from rfl] at h2
      go_enter Tryz.func18, Tryz.ntmps18
      go_wp2_with (first
        | (go_at_call 25; refine (refForm _ _).mono ?_; rintro e w' ⟨rfl, rfl⟩)
        | (go_at_call 37; refine (refReg _ _ _).mono ?_; rintro e w' ⟨rfl, rfl⟩)
        | (go_at_call 38; refine (fits _ _ _ (by omega) (by omega) (by omega) (by omega)).mono ?_; rintro e w' ⟨rfl, rfl⟩))
      go_ret
      exact ⟨ret_bool HE.out, (Up.refl _).alloc _⟩
    · rw [show M.hasRd 2 = true from rfl] at h1; rw [show M.hasRa 2 = true from rfl] at h2; rw [show M.hasRb 2 = false from rfl] at h3
      go_enter Tryz.func18, Tryz.ntmps18
      go_wp2_with (first
        | (go_at_call 25; refine (refForm _ _).mono ?_; rintro e w' ⟨rfl, rfl⟩)
        | (go_at_call 37; refine (refReg _ _ _).mono ?_; rintro e w' ⟨rfl, rfl⟩)
        | (go_at_call 38; refine (fits _ _ _ (by omega) (by omega) (by omega) (by omega)).mono ?_; rintro e w' ⟨rfl, rfl⟩))
      go_ret
      exact ⟨ret_bool HE.out, (Up.refl _).alloc _⟩
    · rw [show M.hasRd 2 = true from rfl] at h1; rw [show M.hasRa 2 = true from rfl] at h2; rw [show M.hasRb 2 = false from rfl] at h3
      go_enter Tryz.func18, Tryz.ntmps18
      go_wp2_with (first
        | (go_at_call 25; refine (refForm _ _).mono ?_; rintro e w' ⟨rfl, rfl⟩)
        | (go_at_call 37; refine (refReg _ _ _).mono ?_; rintro e w' ⟨rfl, rfl⟩)
        | (go_at_call 38; refine (fits _ _ _ (by omega) (by omega) (by omega) (by omega)).mono ?_; rintro e w' ⟨rfl, rfl⟩))
      go_ret
      exact ⟨ret_bool HE.out, (Up.refl _).alloc _⟩
  case inr.inr.inr.inl =>
    rcases ways op rd ra rb imm _ hf (by decide) with ⟨h1, HE⟩ | ⟨h1, h2, HE⟩ | ⟨h1, h2, h3, HE⟩ | ⟨h1, h2, h3, HE⟩
    · rw [show M.hasRd 3 = true from rfl] at h1
      go_enter Tryz.func18, Tryz.ntmps18
      go_wp2_with (first
        | (go_at_call 25; refine (refForm _ _).mono ?_; rintro e w' ⟨rfl, rfl⟩)
        | (go_at_call 37; refine (refReg _ _ _).mono ?_; rintro e w' ⟨rfl, rfl⟩)
        | (go_at_call 38; refine (fits _ _ _ (by omega) (by omega) (by omega) (by omega)).mono ?_; rintro e w' ⟨rfl, rfl⟩))
      go_ret
      exact ⟨ret_bool HE.out, (Up.refl _).alloc _⟩
    · rw [show M.hasRd 3 = true from rfl] at h1; rw [show M.hasRa 3 = false from rfl] at h2
      go_enter Tryz.func18, Tryz.ntmps18
      go_wp2_with (first
        | (go_at_call 25; refine (refForm _ _).mono ?_; rintro e w' ⟨rfl, rfl⟩)
        | (go_at_call 37; refine (refReg _ _ _).mono ?_; rintro e w' ⟨rfl, rfl⟩)
        | (go_at_call 38; refine (fits _ _ _ (by omega) (by omega) (by omega) (by omega)).mono ?_; rintro e w' ⟨rfl, rfl⟩))
      go_ret
      exact ⟨ret_bool HE.out, (Up.refl _).alloc _⟩
    · rw [show M.hasRd 3 = true from rfl] at h1; rw [show M.hasRa 3 = false from rfl] at h2; rw [show M.hasRb 3 = false from rfl] at h3
      go_enter Tryz.func18, Tryz.ntmps18
      go_wp2_with (first
        | (go_at_call 25; refine (refForm _ _).mono ?_; rintro e w' ⟨rfl, rfl⟩)
        | (go_at_call 37; refine (refReg _ _ _).mono ?_; rintro e w' ⟨rfl, rfl⟩)
        | (go_at_call 38; refine (fits _ _ _ (by omega) (by omega) (by omega) (by omega)).mono ?_; rintro e w' ⟨rfl, rfl⟩))
      go_ret
      exact ⟨ret_bool HE.out, (Up.refl _).alloc _⟩
    · rw [show M.hasRd 3 = true from rfl] at h1; rw [show M.hasRa 3 = false from rfl] at h2; rw [show M.hasRb 3 = false from rfl] at h3
      go_enter Tryz.func18, Tryz.ntmps18
      go_wp2_with (first
        | (go_at_call 25; refine (refForm _ _).mono ?_; rintro e w' ⟨rfl, rfl⟩)
        | (go_at_call 37; refine (refReg _ _ _).mono ?_; rintro e w' ⟨rfl, rfl⟩)
        | (go_at_call 38; refine (fits _ _ _ (by omega) (by omega) (by omega) (by omega)).mono ?_; rintro e w' ⟨rfl, rfl⟩))
      go_ret
      exact ⟨ret_bool HE.out, (Up.refl _).alloc _⟩
  case inr.inr.inr.inr.inl =>
    rcases ways op rd ra rb imm _ hf (by decide) with ⟨h1, HE⟩ | ⟨h1, h2, HE⟩ | ⟨h1, h2, h3, HE⟩ | ⟨h1, h2, h3, HE⟩
    · rw [show M.hasRd 4 = false from rfl] at h1
      go_enter Tryz.func18, Tryz.ntmps18
      go_wp2_with (first
        | (go_at_call 25; refine (refForm _ _).mono ?_; rintro e w' ⟨rfl, rfl⟩)
        | (go_at_call 37; refine (refReg _ _ _).mono ?_; rintro e w' ⟨rfl, rfl⟩)
        | (go_at_call 38; refine (fits _ _ _ (by omega) (by omega) (by omega) (by omega)).mono ?_; rintro e w' ⟨rfl, rfl⟩))
      go_ret
      exact ⟨ret_bool HE.out, (Up.refl _).alloc _⟩
    · rw [show M.hasRd 4 = false from rfl] at h1; rw [show M.hasRa 4 = false from rfl] at h2
      go_enter Tryz.func18, Tryz.ntmps18
      go_wp2_with (first
        | (go_at_call 25; refine (refForm _ _).mono ?_; rintro e w' ⟨rfl, rfl⟩)
        | (go_at_call 37; refine (refReg _ _ _).mono ?_; rintro e w' ⟨rfl, rfl⟩)
        | (go_at_call 38; refine (fits _ _ _ (by omega) (by omega) (by omega) (by omega)).mono ?_; rintro e w' ⟨rfl, rfl⟩))
      go_ret
      exact ⟨ret_bool HE.out, (Up.refl _).alloc _⟩
    · rw [show M.hasRd 4 = false from rfl] at h1; rw [show M.hasRa 4 = false from rfl] at h2; rw [show M.hasRb 4 = false from rfl] at h3
      go_enter Tryz.func18, Tryz.ntmps18
      go_wp2_with (first
        | (go_at_call 25; refine (refForm _ _).mono ?_; rintro e w' ⟨rfl, rfl⟩)
        | (go_at_call 37; refine (refReg _ _ _).mono ?_; rintro e w' ⟨rfl, rfl⟩)
        | (go_at_call 38; refine (fits _ _ _ (by omega) (by omega) (by omega) (by omega)).mono ?_; rintro e w' ⟨rfl, rfl⟩))
      go_ret
      exact ⟨ret_bool HE.out, (Up.refl _).alloc _⟩
    · rw [show M.hasRd 4 = false from rfl] at h1; rw [show M.hasRa 4 = false from rfl] at h2; rw [show M.hasRb 4 = false from rfl] at h3
      go_enter Tryz.func18, Tryz.ntmps18
      go_wp2_with (first
        | (go_at_call 25; refine (refForm _ _).mono ?_; rintro e w' ⟨rfl, rfl⟩)
        | (go_at_call 37; refine (refReg _ _ _).mono ?_; rintro e w' ⟨rfl, rfl⟩)
        | (go_at_call 38; refine (fits _ _ _ (by omega) (by omega) (by omega) (by omega)).mono ?_; rintro e w' ⟨rfl, rfl⟩))
      go_ret
      exact ⟨ret_bool HE.out, (Up.refl _).alloc _⟩
  case inr.inr.inr.inr.inr.inl =>
    rcases ways op rd ra rb imm _ hf (by decide) with ⟨h1, HE⟩ | ⟨h1, h2, HE⟩ | ⟨h1, h2, h3, HE⟩ | ⟨h1, h2, h3, HE⟩
    · rw [show M.hasRd 5 = true from rfl] at h1
      go_enter Tryz.func18, Tryz.ntmps18
      go_wp2_with (first
        | (go_at_call 25; refine (refForm _ _).mono ?_; rintro e w' ⟨rfl, rfl⟩)
        | (go_at_call 37; refine (refReg _ _ _).mono ?_; rintro e w' ⟨rfl, rfl⟩)
        | (go_at_call 38; refine (fits _ _ _ (by omega) (by omega) (by omega) (by omega)).mono ?_; rintro e w' ⟨rfl, rfl⟩))
      go_ret
      exact ⟨ret_bool HE.out, (Up.refl _).alloc _⟩
    · rw [show M.hasRd 5 = true from rfl] at h1; rw [show M.hasRa 5 = false from rfl] at h2
      go_enter Tryz.func18, Tryz.ntmps18
      go_wp2_with (first
        | (go_at_call 25; refine (refForm _ _).mono ?_; rintro e w' ⟨rfl, rfl⟩)
        | (go_at_call 37; refine (refReg _ _ _).mono ?_; rintro e w' ⟨rfl, rfl⟩)
        | (go_at_call 38; refine (fits _ _ _ (by omega) (by omega) (by omega) (by omega)).mono ?_; rintro e w' ⟨rfl, rfl⟩))
      go_ret
      exact ⟨ret_bool HE.out, (Up.refl _).alloc _⟩
    · rw [show M.hasRd 5 = true from rfl] at h1; rw [show M.hasRa 5 = false from rfl] at h2; rw [show M.hasRb 5 = false from rfl] at h3
      go_enter Tryz.func18, Tryz.ntmps18
      go_wp2_with (first
        | (go_at_call 25; refine (refForm _ _).mono ?_; rintro e w' ⟨rfl, rfl⟩)
        | (go_at_call 37; refine (refReg _ _ _).mono ?_; rintro e w' ⟨rfl, rfl⟩)
        | (go_at_call 38; refine (fits _ _ _ (by omega) (by omega) (by omega) (by omega)).mono ?_; rintro e w' ⟨rfl, rfl⟩))
      go_ret
      exact ⟨ret_bool HE.out, (Up.refl _).alloc _⟩
    · rw [show M.hasRd 5 = true from rfl] at h1; rw [show M.hasRa 5 = false from rfl] at h2; rw [show M.hasRb 5 = false from rfl] at h3
      by_cases h0 : 0 ≤ imm
      · go_enter Tryz.func18, Tryz.ntmps18
        go_wp2_with (first
        | (go_at_call 25; refine (refForm _ _).mono ?_; rintro e w' ⟨rfl, rfl⟩)
        | (go_at_call 37; refine (refReg _ _ _).mono ?_; rintro e w' ⟨rfl, rfl⟩)
        | (go_at_call 38; refine (fits _ _ _ (by omega) (by omega) (by omega) (by omega)).mono ?_; rintro e w' ⟨rfl, rfl⟩))
        go_ret
        exact ⟨ret_bool ((okCsr imm true (decide (imm ≤ 11)) (by simp [h0]) (by rw [Bool.eq_iff_iff, decide_eq_true_eq, decide_eq_true_eq]; omega)).trans HE.out), (Up.refl _).alloc _⟩
      · go_enter Tryz.func18, Tryz.ntmps18
        go_wp2_with (first
        | (go_at_call 25; refine (refForm _ _).mono ?_; rintro e w' ⟨rfl, rfl⟩)
        | (go_at_call 37; refine (refReg _ _ _).mono ?_; rintro e w' ⟨rfl, rfl⟩)
        | (go_at_call 38; refine (fits _ _ _ (by omega) (by omega) (by omega) (by omega)).mono ?_; rintro e w' ⟨rfl, rfl⟩))
        go_ret
        exact ⟨ret_bool ((okCsr imm false true (by simp [h0]) (by simp; omega)).trans HE.out), (Up.refl _).alloc _⟩
  case inr.inr.inr.inr.inr.inr.inl =>
    rcases ways op rd ra rb imm _ hf (by decide) with ⟨h1, HE⟩ | ⟨h1, h2, HE⟩ | ⟨h1, h2, h3, HE⟩ | ⟨h1, h2, h3, HE⟩
    · rw [show M.hasRd 6 = false from rfl] at h1
      go_enter Tryz.func18, Tryz.ntmps18
      go_wp2_with (first
        | (go_at_call 25; refine (refForm _ _).mono ?_; rintro e w' ⟨rfl, rfl⟩)
        | (go_at_call 37; refine (refReg _ _ _).mono ?_; rintro e w' ⟨rfl, rfl⟩)
        | (go_at_call 38; refine (fits _ _ _ (by omega) (by omega) (by omega) (by omega)).mono ?_; rintro e w' ⟨rfl, rfl⟩))
      go_ret
      exact ⟨ret_bool HE.out, (Up.refl _).alloc _⟩
    · rw [show M.hasRd 6 = false from rfl] at h1; rw [show M.hasRa 6 = true from rfl] at h2
      go_enter Tryz.func18, Tryz.ntmps18
      go_wp2_with (first
        | (go_at_call 25; refine (refForm _ _).mono ?_; rintro e w' ⟨rfl, rfl⟩)
        | (go_at_call 37; refine (refReg _ _ _).mono ?_; rintro e w' ⟨rfl, rfl⟩)
        | (go_at_call 38; refine (fits _ _ _ (by omega) (by omega) (by omega) (by omega)).mono ?_; rintro e w' ⟨rfl, rfl⟩))
      go_ret
      exact ⟨ret_bool HE.out, (Up.refl _).alloc _⟩
    · rw [show M.hasRd 6 = false from rfl] at h1; rw [show M.hasRa 6 = true from rfl] at h2; rw [show M.hasRb 6 = false from rfl] at h3
      go_enter Tryz.func18, Tryz.ntmps18
      go_wp2_with (first
        | (go_at_call 25; refine (refForm _ _).mono ?_; rintro e w' ⟨rfl, rfl⟩)
        | (go_at_call 37; refine (refReg _ _ _).mono ?_; rintro e w' ⟨rfl, rfl⟩)
        | (go_at_call 38; refine (fits _ _ _ (by omega) (by omega) (by omega) (by omega)).mono ?_; rintro e w' ⟨rfl, rfl⟩))
      go_ret
      exact ⟨ret_bool HE.out, (Up.refl _).alloc _⟩
    · rw [show M.hasRd 6 = false from rfl] at h1; rw [show M.hasRa 6 = true from rfl] at h2; rw [show M.hasRb 6 = false from rfl] at h3
      by_cases h0 : 0 ≤ imm
      · go_enter Tryz.func18, Tryz.ntmps18
        go_wp2_with (first
        | (go_at_call 25; refine (refForm _ _).mono ?_; rintro e w' ⟨rfl, rfl⟩)
        | (go_at_call 37; refine (refReg _ _ _).mono ?_; rintro e w' ⟨rfl, rfl⟩)
        | (go_at_call 38; refine (fits _ _ _ (by omega) (by omega) (by omega) (by omega)).mono ?_; rintro e w' ⟨rfl, rfl⟩))
        go_ret
        exact ⟨ret_bool ((okCsr imm true (decide (imm ≤ 11)) (by simp [h0]) (by rw [Bool.eq_iff_iff, decide_eq_true_eq, decide_eq_true_eq]; omega)).trans HE.out), (Up.refl _).alloc _⟩
      · go_enter Tryz.func18, Tryz.ntmps18
        go_wp2_with (first
        | (go_at_call 25; refine (refForm _ _).mono ?_; rintro e w' ⟨rfl, rfl⟩)
        | (go_at_call 37; refine (refReg _ _ _).mono ?_; rintro e w' ⟨rfl, rfl⟩)
        | (go_at_call 38; refine (fits _ _ _ (by omega) (by omega) (by omega) (by omega)).mono ?_; rintro e w' ⟨rfl, rfl⟩))
        go_ret
        exact ⟨ret_bool ((okCsr imm false true (by simp [h0]) (by simp; omega)).trans HE.out), (Up.refl _).alloc _⟩
  case inr.inr.inr.inr.inr.inr.inr =>
    rcases ways op rd ra rb imm _ hf (by decide) with ⟨h1, HE⟩ | ⟨h1, h2, HE⟩ | ⟨h1, h2, h3, HE⟩ | ⟨h1, h2, h3, HE⟩
    · rw [show M.hasRd 7 = false from rfl] at h1
      go_enter Tryz.func18, Tryz.ntmps18
      go_wp2_with (first
        | (go_at_call 25; refine (refForm _ _).mono ?_; rintro e w' ⟨rfl, rfl⟩)
        | (go_at_call 37; refine (refReg _ _ _).mono ?_; rintro e w' ⟨rfl, rfl⟩)
        | (go_at_call 38; refine (fits _ _ _ (by omega) (by omega) (by omega) (by omega)).mono ?_; rintro e w' ⟨rfl, rfl⟩))
      go_ret
      exact ⟨ret_bool HE.out, (Up.refl _).alloc _⟩
    · rw [show M.hasRd 7 = false from rfl] at h1; rw [show M.hasRa 7 = true from rfl] at h2
      go_enter Tryz.func18, Tryz.ntmps18
      go_wp2_with (first
        | (go_at_call 25; refine (refForm _ _).mono ?_; rintro e w' ⟨rfl, rfl⟩)
        | (go_at_call 37; refine (refReg _ _ _).mono ?_; rintro e w' ⟨rfl, rfl⟩)
        | (go_at_call 38; refine (fits _ _ _ (by omega) (by omega) (by omega) (by omega)).mono ?_; rintro e w' ⟨rfl, rfl⟩))
      go_ret
      exact ⟨ret_bool HE.out, (Up.refl _).alloc _⟩
    · rw [show M.hasRd 7 = false from rfl] at h1; rw [show M.hasRa 7 = true from rfl] at h2; rw [show M.hasRb 7 = false from rfl] at h3
      go_enter Tryz.func18, Tryz.ntmps18
      go_wp2_with (first
        | (go_at_call 25; refine (refForm _ _).mono ?_; rintro e w' ⟨rfl, rfl⟩)
        | (go_at_call 37; refine (refReg _ _ _).mono ?_; rintro e w' ⟨rfl, rfl⟩)
        | (go_at_call 38; refine (fits _ _ _ (by omega) (by omega) (by omega) (by omega)).mono ?_; rintro e w' ⟨rfl, rfl⟩))
      go_ret
      exact ⟨ret_bool HE.out, (Up.refl _).alloc _⟩
    · rw [show M.hasRd 7 = false from rfl] at h1; rw [show M.hasRa 7 = true from rfl] at h2; rw [show M.hasRb 7 = false from rfl] at h3
      go_enter Tryz.func18, Tryz.ntmps18
      go_wp2_with (first
        | (go_at_call 25; refine (refForm _ _).mono ?_; rintro e w' ⟨rfl, rfl⟩)
        | (go_at_call 37; refine (refReg _ _ _).mono ?_; rintro e w' ⟨rfl, rfl⟩)
        | (go_at_call 38; refine (fits _ _ _ (by omega) (by omega) (by omega) (by omega)).mono ?_; rintro e w' ⟨rfl, rfl⟩))
      go_ret
      exact ⟨ret_bool HE.out, (Up.refl _).alloc _⟩

end Go.Proofs.YtokhipjpppfkgaaGreatDoor
