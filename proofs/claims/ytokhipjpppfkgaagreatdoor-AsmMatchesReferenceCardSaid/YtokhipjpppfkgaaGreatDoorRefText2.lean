/-
  What dec, reg and Text of package gaolerref03 return when called: contracts over the translated program. Conditions: those that stand in each theorem.
-/
import Derived.Test.YtokhipjpppfkgaaGreatDoorRefText
import Derived.Lib.QuietBelow
namespace Go.Proofs.YtokhipjpppfkgaaGreatDoor
open Go.ChangeShapes Go.WideShapes Go.ChangeAt Go.RowKit Go.Sort
set_option linter.unusedVariables false

theorem join_one (x : List UInt8) : Lib.join [x] [32] = x := by rw [Lib.join_cons]; simp [Lib.joinTail]
theorem itoa_short (n : Int) (h0 : -1000000 ≤ n) (h1 : n ≤ 1000000) : (Lib.itoa n).length ≤ 21 := M.itoa_len n (by omega) (by omega)

set_option maxRecDepth 100000 in
set_option maxHeartbeats 1000000 in
theorem refDec (n : Int) (W : World) (h0 : -1000000 ≤ n) (h1 : n ≤ 1000000) :
    Calls Tryz.prog 24 #[.int .i64 n] W fun e W' => e = .returned (.string ⟨(Lib.itoa n).toArray⟩) ∧ Dn W W' := by
  by_cases h : n < 0
  · obtain ⟨m, hm⟩ := Int.eq_ofNat_of_zero_le (show 0 ≤ -n by omega)
    have C := fun W => refDecN m m W (Nat.le_refl _) (by omega)
    have HC : Hid (∀ W, Calls Tryz.prog 24 #[.int .i64 (-n)] W fun e W' => e = .returned (.string ⟨(Lib.decDigits m).toArray⟩) ∧ Dn W W') := Lib.hid (by rw [hm]; exact C)
    have hl := M.itoa_len (m : Int) (by omega) (by omega)
    rw [M.itoa_nat] at hl
    have HE : Hid ((⟨#[45]⟩ : ByteArray) ++ ⟨(Lib.decDigits m).toArray⟩ = ⟨(Lib.itoa n).toArray⟩) := Lib.hid (by
      rw [show (⟨#[45]⟩ : ByteArray) = ⟨[45].toArray⟩ from rfl, bytes_append]
      unfold Lib.itoa
      rw [if_pos h, show n.natAbs = m by omega]
      rfl)
    clear C hm
    go_enter Tryz.func24, Tryz.ntmps24
    go_wp2_with fail
    refine (HC.out _).mono ?_
    rintro e w1 ⟨rfl, dn1⟩
    go_wp2
    go_ret
    exact ⟨by rw [← HE.out]; rfl, dn1⟩
  · obtain ⟨m, rfl⟩ := Int.eq_ofNat_of_zero_le (show 0 ≤ n by omega)
    rw [M.itoa_nat]
    exact refDecN m m W (Nat.le_refl _) (by omega)

set_option maxRecDepth 100000 in
set_option maxHeartbeats 1000000 in
theorem refRegT (n : Int) (W : World) (h0 : -1000000 ≤ n) (h1 : n ≤ 1000000) :
    Calls Tryz.prog 26 #[.int .i64 n] W fun e W' => e = .returned (.string ⟨(32 :: M.regT n).toArray⟩) ∧ Dn W W' := by
  have hl := itoa_short n h0 h1
  have HE : Hid ((⟨#[32, 114]⟩ : ByteArray) ++ ⟨(Lib.itoa n).toArray⟩ = ⟨(32 :: M.regT n).toArray⟩) := Lib.hid (by
    rw [show (⟨#[32, 114]⟩ : ByteArray) = ⟨[32, 114].toArray⟩ from rfl, bytes_append]
    rfl)
  go_enter Tryz.func26, Tryz.ntmps26
  go_wp2_with fail
  refine (refDec n _ h0 h1).mono ?_
  rintro e w1 ⟨rfl, dn1⟩
  go_wp2
  go_ret
  exact ⟨by rw [← HE.out]; rfl, dn1⟩

set_option maxRecDepth 100000 in
set_option maxHeartbeats 1000000 in
theorem refText_no (op rd ra rb imm : Int) (W : World) (h : M.ok op rd ra rb imm = false) (i1 : -2147483648 ≤ imm) (i2 : imm < 2147483648) :
    Calls Tryz.prog 10 #[.agg #[.int .i64 op, .int .i64 rd, .int .i64 ra, .int .i64 rb, .int .i32 imm]] W fun e W' => e = .returned (.tuple #[.string ⟨#[]⟩, .int .i64 1]) ∧ Dn W W' := by
  go_enter Tryz.func10, Tryz.ntmps10
  go_wp2_with fail
  refine (may _ _ _ _ _ _ i1 i2).mono ?_
  rintro e w1 ⟨rfl, up1⟩
  go_wp2
  go_ret2
  exact ⟨rfl, ((Dn.refl W).alloc _).trans up1.dn⟩

set_option maxRecDepth 100000 in
set_option maxHeartbeats 1000000 in
theorem refText1 (op rd ra rb imm : Int) (W : World) (h : M.ok op rd ra rb imm = true) (hf : M.form op = 1) :
    Calls Tryz.prog 10 #[.agg #[.int .i64 op, .int .i64 rd, .int .i64 ra, .int .i64 rb, .int .i32 imm]] W fun e W' => e = .returned (.tuple #[.string ⟨(M.text op rd ra rb imm).toArray⟩, .int .i64 0]) ∧ Dn W W' := by
  obtain ⟨⟨o1, o2⟩, ⟨d1, d2⟩, ⟨a1, a2⟩, ⟨b1, b2⟩, ⟨i1, i2⟩⟩ := M.ok_rng _ _ _ _ _ h
  go_enter Tryz.func10, Tryz.ntmps10
  go_wp2_with fail
  refine (may _ _ _ _ _ _ (by omega) (by omega)).mono ?_
  rintro e w1 ⟨rfl, up1⟩
  have k1 := ((Dn.refl W).alloc _).trans up1.dn
  have bx1 := (Box.new W (.int .i64 op) (.int .i64 rd) (.int .i64 ra) (.int .i64 rb) (.int .i32 imm) 23).up up1
  obtain ⟨c0, c1, c2, c3, c4, c5⟩ := bx1.open
  go_wp2_with fail
  refine (refName op _ (by omega) (by omega)).mono ?_
  rintro e w2 ⟨rfl, dn2⟩
  have k2 := k1.trans dn2
  have bx2 := bx1.dn dn2
  clear c0 c1 c2 c3 c4 c5 bx1
  obtain ⟨c0, c1, c2, c3, c4, c5⟩ := bx2.open
  go_wp2_with fail
  refine (refDec imm _ (by omega) (by omega)).mono ?_
  rintro e w3 ⟨rfl, dn3⟩
  have k3 := k2.trans dn3
  have bx3 := bx2.dn dn3
  clear c0 c1 c2 c3 c4 c5 bx2
  obtain ⟨c0, c1, c2, c3, c4, c5⟩ := bx3.open
  have hl1 := itoa_short imm (by omega) (by omega)
  go_wp2_with fail
  refine (refForm op _).mono ?_
  rintro e w4 ⟨rfl, rfl⟩
  go_wp2_with fail
  have cR : ∀ n : Int, -1000000 ≤ n → n ≤ 1000000 → ∀ d os, Calls Tryz.prog 26 #[.int .i64 n] (grow (redrawn w3 d) os) fun e w'' => e = .returned (.string ⟨(32 :: M.regT n).toArray⟩) ∧ ∃ p : Regrown, w'' = grow (redrawn w3 p.d) p.os := fun n a b d os => Calls.regrown_of (refRegT n _ a b)
  have r1 := cR rd (by omega) (by omega)
  have r2 := cR ra (by omega) (by omega)
  have r3 := cR rb (by omega) (by omega)
  have R1 := Lib.hid r1
  have R2 := Lib.hid r2
  have R3 := Lib.hid r3
  clear cR r1 r2 r3
  have l1 := fun d os => cell_regrown c1 d os
  have l2 := fun d os => cell_regrown c2 d os
  have l3 := fun d os => cell_regrown c3 d os
  have q0 := M.mnem_len op
  have q1 : (32 :: M.regT rd).length ≤ 30 := by have := itoa_short rd (by omega) (by omega); unfold M.regT; simp only [List.length_cons]; omega
  have q2 : (32 :: M.regT ra).length ≤ 30 := by have := itoa_short ra (by omega) (by omega); unfold M.regT; simp only [List.length_cons]; omega
  have q3 : (32 :: M.regT rb).length ≤ 30 := by have := itoa_short rb (by omega) (by omega); unfold M.regT; simp only [List.length_cons]; omega
  have HT : Hid (M.text op rd ra rb imm = ((M.mnem op ++ (32 :: M.regT rd)) ++ (32 :: M.regT ra)) ++ (32 :: M.regT rb)) := Lib.hid (by
    unfold M.text M.opsT
    rw [if_pos hf, M.join_cons2, M.join_cons2, M.join_cons2, join_one]
    simp)
  clear c0 c1 c2 c3 c4 c5 bx3
  generalize 32 :: M.regT rd = t1 at *
  generalize 32 :: M.regT ra = t2 at *
  generalize 32 :: M.regT rb = t3 at *
  generalize M.mnem op = t0 at *
  have b1 := bytes_append t0 t1
  have b2 := bytes_append (t0 ++ t1) t2
  have b3 := bytes_append (t0 ++ t1 ++ t2) t3
  have n1 : ¬ 9223372036854775807 < t0.length + t1.length := by omega
  have n2 : ¬ 9223372036854775807 < t0.length + t1.length + t2.length := by omega
  have n3 : ¬ 9223372036854775807 < t0.length + t1.length + t2.length + t3.length := by omega
  have b3' := bytes_append (t0 ++ (t1 ++ t2)) t3
  have n3' : ¬ 9223372036854775807 < t0.length + (t1.length + t2.length) + t3.length := by omega
  refine wp_region_quiet_below (by kernel_rfl) (by kernel_rfl) ?_
  repeat (quiet_step (first | exact R1.out _ _ | exact R2.out _ _ | exact R3.out _ _))
  refine wpQuiet_nil ?_
  intro _ hw'
  obtain ⟨⟨dq, osq⟩, hw''⟩ := hw'
  subst hw''
  have k5 := k3.trans (below_regrown w3 dq osq)
  go_wp2
  go_ret2
  exact ⟨by rw [HT.out]; simp, k5⟩
end Go.Proofs.YtokhipjpppfkgaaGreatDoor
