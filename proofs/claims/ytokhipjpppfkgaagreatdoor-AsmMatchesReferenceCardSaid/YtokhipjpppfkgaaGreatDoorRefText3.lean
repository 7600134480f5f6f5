/-
  What Text of package gaolerref03 returns when called: contracts over the translated program. Conditions: those that stand in each theorem.
-/
import Derived.Test.YtokhipjpppfkgaaGreatDoorRefText2
namespace Go.Proofs.YtokhipjpppfkgaaGreatDoor
open Go.ChangeShapes Go.WideShapes Go.ChangeAt Go.RowKit Go.Sort
set_option linter.unusedVariables false

set_option maxRecDepth 100000 in
set_option maxHeartbeats 400000 in
theorem refText2 (op rd ra rb imm : Int) (W : World) (h : M.ok op rd ra rb imm = true) (hf : M.form op = 2) :
    Calls Tryz.prog 10 #[.agg #[.int .i64 op, .int .i64 rd, .int .i64 ra, .int .i64 rb, .int .i32 imm]] W fun e W' => e = .returned (.tuple #[.string ⟨(M.text op rd ra rb imm).toArray⟩, .int .i64 0]) ∧ Dn W W' := by
  obtain ⟨⟨o1, o2⟩, ⟨d1, d2⟩, ⟨a1, a2⟩, ⟨b1, b2⟩, ⟨i1, i2⟩⟩ := M.ok_rng _ _ _ _ _ h
  have hl1 := itoa_short imm (by omega) (by omega)
  have B0 : (⟨#[32]⟩ : ByteArray) ++ ⟨(Lib.itoa imm).toArray⟩ = ⟨(32 :: Lib.itoa imm).toArray⟩ := bytes_append [32] (Lib.itoa imm)
  go_enter Tryz.func10, Tryz.ntmps10
  go_wp2_with fail
  refine (may _ _ _ _ _ _ (by omega) (by omega)).mono ?_
  rintro e w1 ⟨rfl, up1⟩
  have k1 := ((Dn.refl W).alloc _).trans up1.dn
  have bx1 := (Box.new W (.int .i64 op) (.int .i64 rd) (.int .i64 ra) (.int .i64 rb) (.int .i32 imm) 23).up up1
  obtain ⟨c0, c1, c2, c3, c4, c5⟩ := bx1.open
  go_wp2_with fail
  refine (refName op _ (by omega) (by omega)).mono ?_
  rintro e w2 ⟨rfl, dn2⟩
  have k2 := k1.trans dn2
  have bx2 := bx1.dn dn2
  clear c0 c1 c2 c3 c4 c5 bx1
  obtain ⟨c0, c1, c2, c3, c4, c5⟩ := bx2.open
  go_wp2_with fail
  refine (refDec imm _ (by omega) (by omega)).mono ?_
  rintro e w3 ⟨rfl, dn3⟩
  have k3 := k2.trans dn3
  have bx3 := bx2.dn dn3
  clear c0 c1 c2 c3 c4 c5 bx2
  obtain ⟨c0, c1, c2, c3, c4, c5⟩ := bx3.open
  go_wp2_with fail
  refine (refForm op _).mono ?_
  rintro e w4 ⟨rfl, rfl⟩
  go_wp2_with fail
  have cR : ∀ n : Int, -1000000 ≤ n → n ≤ 1000000 → ∀ d os, Calls Tryz.prog 26 #[.int .i64 n] (grow (redrawn w3 d) os) fun e w'' => e = .returned (.string ⟨(32 :: M.regT n).toArray⟩) ∧ ∃ p : Regrown, w'' = grow (redrawn w3 p.d) p.os := fun n a b d os => Calls.regrown_of (refRegT n _ a b)
  have cD : ∀ d os, Calls Tryz.prog 24 #[.int .i64 imm] (grow (redrawn w3 d) os) fun e w'' => e = .returned (.string ⟨(Lib.itoa imm).toArray⟩) ∧ ∃ p : Regrown, w'' = grow (redrawn w3 p.d) p.os := fun d os => Calls.regrown_of (refDec imm _ (by omega) (by omega))
  have r1 := cR rd (by omega) (by omega)
  have r2 := cR ra (by omega) (by omega)
  have R1 := Lib.hid r1
  have R2 := Lib.hid r2
  have R4 := Lib.hid cD
  clear cR r1 r2 cD B0
  have l1 := fun d os => cell_regrown c1 d os
  have l2 := fun d os => cell_regrown c2 d os
  have l4 := fun d os => cell_regrown c4 d os
  have ew : IntKind.i64.wrap imm = imm := IntWalk.i64_in _ (by omega)
  have q0 := M.mnem_len op
  have q1 : (32 :: M.regT rd).length ≤ 30 := by have := itoa_short rd (by omega) (by omega); unfold M.regT; simp only [List.length_cons]; omega
  have q2 : (32 :: M.regT ra).length ≤ 30 := by have := itoa_short ra (by omega) (by omega); unfold M.regT; simp only [List.length_cons]; omega
  have HT : Hid (M.text op rd ra rb imm = ((M.mnem op ++ (32 :: M.regT rd)) ++ (32 :: M.regT ra)) ++ (32 :: Lib.itoa imm)) := Lib.hid (by
    unfold M.text M.opsT
    rw [if_neg (by rw [hf]; decide), if_pos hf, M.join_cons2, M.join_cons2, M.join_cons2, join_one]
    simp)
  clear c0 c1 c2 c3 c4 c5 bx3
  generalize 32 :: M.regT rd = t1 at *
  generalize 32 :: M.regT ra = t2 at *
  have q3 : (32 :: Lib.itoa imm).length ≤ 30 := by simp only [List.length_cons]; omega
  generalize 32 :: Lib.itoa imm = t3 at *
  generalize M.mnem op = t0 at *
  have b0x := bytes_append (t0) (t1)
  have b1x := bytes_append (t0 ++ t1) (t2)
  have b2x := bytes_append (t0 ++ t1 ++ t2) (t3)
  have b9 := bytes_append (t0 ++ (t1 ++ t2)) t3
  have m0 : ¬ 9223372036854775807 < t0.length + t1.length := by omega
  have m1 : ¬ 9223372036854775807 < t0.length + t1.length + t2.length := by omega
  have m2 : ¬ 9223372036854775807 < t0.length + (t1.length + t2.length) + t3.length := by omega
  have m3 : ¬ 9223372036854775807 < t0.length + t1.length + t2.length + t3.length := by omega
  refine wp_region_quiet_below (by kernel_rfl) (by kernel_rfl) ?_
  repeat (quiet_step (first | exact R1.out _ _ | exact R2.out _ _ | exact R4.out _ _))
  refine wpQuiet_nil ?_
  intro _ hw'
  obtain ⟨⟨dq, osq⟩, hw''⟩ := hw'
  subst hw''
  have k5 := k3.trans (below_regrown w3 dq osq)
  go_wp2
  go_ret2
  exact ⟨by rw [HT.out]; simp, k5⟩

set_option maxRecDepth 100000 in
set_option maxHeartbeats 400000 in
theorem refText3 (op rd ra rb imm : Int) (W : World) (h : M.ok op rd ra rb imm = true) (hf : M.form op = 3) :
    Calls Tryz.prog 10 #[.agg #[.int .i64 op, .int .i64 rd, .int .i64 ra, .int .i64 rb, .int .i32 imm]] W fun e W' => e = .returned (.tuple #[.string ⟨(M.text op rd ra rb imm).toArray⟩, .int .i64 0]) ∧ Dn W W' := by
  obtain ⟨⟨o1, o2⟩, ⟨d1, d2⟩, ⟨a1, a2⟩, ⟨b1, b2⟩, ⟨i1, i2⟩⟩ := M.ok_rng _ _ _ _ _ h
  have hl1 := itoa_short imm (by omega) (by omega)
  have B0 : (⟨#[32]⟩ : ByteArray) ++ ⟨(Lib.itoa imm).toArray⟩ = ⟨(32 :: Lib.itoa imm).toArray⟩ := bytes_append [32] (Lib.itoa imm)
  go_enter Tryz.func10, Tryz.ntmps10
  go_wp2_with fail
  refine (may _ _ _ _ _ _ (by omega) (by omega)).mono ?_
  rintro e w1 ⟨rfl, up1⟩
  have k1 := ((Dn.refl W).alloc _).trans up1.dn
  have bx1 := (Box.new W (.int .i64 op) (.int .i64 rd) (.int .i64 ra) (.int .i64 rb) (.int .i32 imm) 23).up up1
  obtain ⟨c0, c1, c2, c3, c4, c5⟩ := bx1.open
  go_wp2_with fail
  refine (refName op _ (by omega) (by omega)).mono ?_
  rintro e w2 ⟨rfl, dn2⟩
  have k2 := k1.trans dn2
  have bx2 := bx1.dn dn2
  clear c0 c1 c2 c3 c4 c5 bx1
  obtain ⟨c0, c1, c2, c3, c4, c5⟩ := bx2.open
  go_wp2_with fail
  refine (refDec imm _ (by omega) (by omega)).mono ?_
  rintro e w3 ⟨rfl, dn3⟩
  have k3 := k2.trans dn3
  have bx3 := bx2.dn dn3
  clear c0 c1 c2 c3 c4 c5 bx2
  obtain ⟨c0, c1, c2, c3, c4, c5⟩ := bx3.open
  go_wp2_with fail
  refine (refForm op _).mono ?_
  rintro e w4 ⟨rfl, rfl⟩
  go_wp2_with fail
  refine (refRegT rd _ (by omega) (by omega)).mono ?_
  rintro e w5 ⟨rfl, dn5⟩
  clear B0
  have q0 := M.mnem_len op
  have q1 : (32 :: M.regT rd).length ≤ 30 := by have := itoa_short rd (by omega) (by omega); unfold M.regT; simp only [List.length_cons]; omega
  have HT : Hid (M.text op rd ra rb imm = (M.mnem op ++ (32 :: M.regT rd)) ++ (32 :: Lib.itoa imm)) := Lib.hid (by
    unfold M.text M.opsT
    rw [if_neg (by rw [hf]; decide), if_neg (by rw [hf]; decide), if_pos hf, M.join_cons2, M.join_cons2, join_one]
    simp)
  generalize 32 :: M.regT rd = t1 at *
  have q3 : (32 :: Lib.itoa imm).length ≤ 30 := by simp only [List.length_cons]; omega
  generalize 32 :: Lib.itoa imm = t3 at *
  generalize M.mnem op = t0 at *
  have b0x := bytes_append (t0) (t1)
  have b1x := bytes_append (t0 ++ t1) (t3)
  go_wp2
  go_ret2
  exact ⟨by rw [HT.out]; simp, k3.trans dn5⟩

set_option maxRecDepth 100000 in
set_option maxHeartbeats 400000 in
theorem refText5 (op rd ra rb imm : Int) (W : World) (h : M.ok op rd ra rb imm = true) (hf : M.form op = 5) :
    Calls Tryz.prog 10 #[.agg #[.int .i64 op, .int .i64 rd, .int .i64 ra, .int .i64 rb, .int .i32 imm]] W fun e W' => e = .returned (.tuple #[.string ⟨(M.text op rd ra rb imm).toArray⟩, .int .i64 0]) ∧ Dn W W' := by
  obtain ⟨⟨o1, o2⟩, ⟨d1, d2⟩, ⟨a1, a2⟩, ⟨b1, b2⟩, ⟨i1, i2⟩⟩ := M.ok_rng _ _ _ _ _ h
  have hl1 := itoa_short imm (by omega) (by omega)
  have B0 : (⟨#[32]⟩ : ByteArray) ++ ⟨(Lib.itoa imm).toArray⟩ = ⟨(32 :: Lib.itoa imm).toArray⟩ := bytes_append [32] (Lib.itoa imm)
  go_enter Tryz.func10, Tryz.ntmps10
  go_wp2_with fail
  refine (may _ _ _ _ _ _ (by omega) (by omega)).mono ?_
  rintro e w1 ⟨rfl, up1⟩
  have k1 := ((Dn.refl W).alloc _).trans up1.dn
  have bx1 := (Box.new W (.int .i64 op) (.int .i64 rd) (.int .i64 ra) (.int .i64 rb) (.int .i32 imm) 23).up up1
  obtain ⟨c0, c1, c2, c3, c4, c5⟩ := bx1.open
  go_wp2_with fail
  refine (refName op _ (by omega) (by omega)).mono ?_
  rintro e w2 ⟨rfl, dn2⟩
  have k2 := k1.trans dn2
  have bx2 := bx1.dn dn2
  clear c0 c1 c2 c3 c4 c5 bx1
  obtain ⟨c0, c1, c2, c3, c4, c5⟩ := bx2.open
  go_wp2_with fail
  refine (refDec imm _ (by omega) (by omega)).mono ?_
  rintro e w3 ⟨rfl, dn3⟩
  have k3 := k2.trans dn3
  have bx3 := bx2.dn dn3
  clear c0 c1 c2 c3 c4 c5 bx2
  obtain ⟨c0, c1, c2, c3, c4, c5⟩ := bx3.open
  go_wp2_with fail
  refine (refForm op _).mono ?_
  rintro e w4 ⟨rfl, rfl⟩
  go_wp2_with fail
  have cR : ∀ n : Int, -1000000 ≤ n → n ≤ 1000000 → ∀ d os, Calls Tryz.prog 26 #[.int .i64 n] (grow (redrawn w3 d) os) fun e w'' => e = .returned (.string ⟨(32 :: M.regT n).toArray⟩) ∧ ∃ p : Regrown, w'' = grow (redrawn w3 p.d) p.os := fun n a b d os => Calls.regrown_of (refRegT n _ a b)
  have cD : ∀ d os, Calls Tryz.prog 24 #[.int .i64 imm] (grow (redrawn w3 d) os) fun e w'' => e = .returned (.string ⟨(Lib.itoa imm).toArray⟩) ∧ ∃ p : Regrown, w'' = grow (redrawn w3 p.d) p.os := fun d os => Calls.regrown_of (refDec imm _ (by omega) (by omega))
  have r1 := cR rd (by omega) (by omega)
  have r2 := cR ra (by omega) (by omega)
  have R1 := Lib.hid r1
  have R2 := Lib.hid r2
  have R4 := Lib.hid cD
  clear cR r1 r2 cD B0
  have l1 := fun d os => cell_regrown c1 d os
  have l2 := fun d os => cell_regrown c2 d os
  have l4 := fun d os => cell_regrown c4 d os
  have ew : IntKind.i64.wrap imm = imm := IntWalk.i64_in _ (by omega)
  have q0 := M.mnem_len op
  have q1 : (32 :: M.regT rd).length ≤ 30 := by have := itoa_short rd (by omega) (by omega); unfold M.regT; simp only [List.length_cons]; omega
  have q2 : (32 :: M.regT ra).length ≤ 30 := by have := itoa_short ra (by omega) (by omega); unfold M.regT; simp only [List.length_cons]; omega
  have HT : Hid (M.text op rd ra rb imm = ((M.mnem op ++ (32 :: M.regT rd)) ++ [32, 99]) ++ Lib.itoa imm) := Lib.hid (by
    unfold M.text M.opsT M.csrT
    rw [if_neg (by rw [hf]; decide), if_neg (by rw [hf]; decide), if_neg (by rw [hf]; decide), if_pos hf, M.join_cons2, M.join_cons2, join_one]
    simp)
  clear c0 c1 c2 c3 c4 c5 bx3
  generalize 32 :: M.regT rd = t1 at *
  generalize 32 :: M.regT ra = t2 at *
  generalize Lib.itoa imm = u at *
  generalize M.mnem op = t0 at *
  have b0x := bytes_append (t0) (t1)
  have b1x := bytes_append (t0 ++ t1) ([32, 99])
  have b2x := bytes_append (t0 ++ t1 ++ [32, 99]) (u)
  have b9 := bytes_append (t0 ++ (t1 ++ [32, 99])) u
  have m0 : ¬ 9223372036854775807 < t0.length + t1.length := by omega
  have m1 : ¬ 9223372036854775807 < t0.length + t1.length + 2 := by omega
  have m2 : ¬ 9223372036854775807 < t0.length + (t1.length + 2) + u.length := by omega
  have m3 : ¬ 9223372036854775807 < t0.length + (t1.length + (0 + 1 + 1)) + u.length := by omega
  have m4 : ¬ 9223372036854775807 < t0.length + t1.length + 2 + u.length := by omega
  refine wp_region_quiet_below (by kernel_rfl) (by kernel_rfl) ?_
  repeat (quiet_step (first | exact R1.out _ _ | exact R2.out _ _ | exact R4.out _ _))
  refine wpQuiet_nil ?_
  intro _ hw'
  obtain ⟨⟨dq, osq⟩, hw''⟩ := hw'
  subst hw''
  have k5 := k3.trans (below_regrown w3 dq osq)
  go_wp2
  go_ret2
  exact ⟨by rw [HT.out]; simp, k5⟩

set_option maxRecDepth 100000 in
set_option maxHeartbeats 400000 in
theorem refText6 (op rd ra rb imm : Int) (W : World) (h : M.ok op rd ra rb imm = true) (hf : M.form op = 6) :
    Calls Tryz.prog 10 #[.agg #[.int .i64 op, .int .i64 rd, .int .i64 ra, .int .i64 rb, .int .i32 imm]] W fun e W' => e = .returned (.tuple #[.string ⟨(M.text op rd ra rb imm).toArray⟩, .int .i64 0]) ∧ Dn W W' := by
  obtain ⟨⟨o1, o2⟩, ⟨d1, d2⟩, ⟨a1, a2⟩, ⟨b1, b2⟩, ⟨i1, i2⟩⟩ := M.ok_rng _ _ _ _ _ h
  have hl1 := itoa_short imm (by omega) (by omega)
  have B0 : (⟨#[32]⟩ : ByteArray) ++ ⟨(Lib.itoa imm).toArray⟩ = ⟨(32 :: Lib.itoa imm).toArray⟩ := bytes_append [32] (Lib.itoa imm)
  go_enter Tryz.func10, Tryz.ntmps10
  go_wp2_with fail
  refine (may _ _ _ _ _ _ (by omega) (by omega)).mono ?_
  rintro e w1 ⟨rfl, up1⟩
  have k1 := ((Dn.refl W).alloc _).trans up1.dn
  have bx1 := (Box.new W (.int .i64 op) (.int .i64 rd) (.int .i64 ra) (.int .i64 rb) (.int .i32 imm) 23).up up1
  obtain ⟨c0, c1, c2, c3, c4, c5⟩ := bx1.open
  go_wp2_with fail
  refine (refName op _ (by omega) (by omega)).mono ?_
  rintro e w2 ⟨rfl, dn2⟩
  have k2 := k1.trans dn2
  have bx2 := bx1.dn dn2
  clear c0 c1 c2 c3 c4 c5 bx1
  obtain ⟨c0, c1, c2, c3, c4, c5⟩ := bx2.open
  go_wp2_with fail
  refine (refDec imm _ (by omega) (by omega)).mono ?_
  rintro e w3 ⟨rfl, dn3⟩
  have k3 := k2.trans dn3
  have bx3 := bx2.dn dn3
  clear c0 c1 c2 c3 c4 c5 bx2
  obtain ⟨c0, c1, c2, c3, c4, c5⟩ := bx3.open
  go_wp2_with fail
  refine (refForm op _).mono ?_
  rintro e w4 ⟨rfl, rfl⟩
  go_wp2_with fail
  have cR : ∀ n : Int, -1000000 ≤ n → n ≤ 1000000 → ∀ d os, Calls Tryz.prog 26 #[.int .i64 n] (grow (redrawn w3 d) os) fun e w'' => e = .returned (.string ⟨(32 :: M.regT n).toArray⟩) ∧ ∃ p : Regrown, w'' = grow (redrawn w3 p.d) p.os := fun n a b d os => Calls.regrown_of (refRegT n _ a b)
  have cD : ∀ d os, Calls Tryz.prog 24 #[.int .i64 imm] (grow (redrawn w3 d) os) fun e w'' => e = .returned (.string ⟨(Lib.itoa imm).toArray⟩) ∧ ∃ p : Regrown, w'' = grow (redrawn w3 p.d) p.os := fun d os => Calls.regrown_of (refDec imm _ (by omega) (by omega))
  have r1 := cR rd (by omega) (by omega)
  have r2 := cR ra (by omega) (by omega)
  have R1 := Lib.hid r1
  have R2 := Lib.hid r2
  have R4 := Lib.hid cD
  clear cR r1 r2 cD B0
  have l1 := fun d os => cell_regrown c1 d os
  have l2 := fun d os => cell_regrown c2 d os
  have l4 := fun d os => cell_regrown c4 d os
  have ew : IntKind.i64.wrap imm = imm := IntWalk.i64_in _ (by omega)
  have q0 := M.mnem_len op
  have q1 : (32 :: M.regT rd).length ≤ 30 := by have := itoa_short rd (by omega) (by omega); unfold M.regT; simp only [List.length_cons]; omega
  have q2 : (32 :: M.regT ra).length ≤ 30 := by have := itoa_short ra (by omega) (by omega); unfold M.regT; simp only [List.length_cons]; omega
  have HT : Hid (M.text op rd ra rb imm = ((M.mnem op ++ [32, 99]) ++ Lib.itoa imm) ++ (32 :: M.regT ra)) := Lib.hid (by
    unfold M.text M.opsT M.csrT
    rw [if_neg (by rw [hf]; decide), if_neg (by rw [hf]; decide), if_neg (by rw [hf]; decide), if_neg (by rw [hf]; decide), if_pos hf, M.join_cons2, M.join_cons2, join_one]
    simp)
  clear c0 c1 c2 c3 c4 c5 bx3
  generalize 32 :: M.regT rd = t1 at *
  generalize 32 :: M.regT ra = t2 at *
  generalize Lib.itoa imm = u at *
  generalize M.mnem op = t0 at *
  have b0x := bytes_append (t0) ([32, 99])
  have b1x := bytes_append (t0 ++ [32, 99]) (u)
  have b2x := bytes_append (t0 ++ [32, 99] ++ u) (t2)
  have b9 := bytes_append (t0 ++ ([32, 99] ++ u)) t2
  have b8 := bytes_append (t0 ++ 32 :: 99 :: u) t2
  have m0 : ¬ 9223372036854775807 < t0.length + 2 := by omega
  have m1 : ¬ 9223372036854775807 < t0.length + 2 + u.length := by omega
  have m2 : ¬ 9223372036854775807 < t0.length + (0 + 1 + 1) + u.length := by omega
  have m3 : ¬ 9223372036854775807 < t0.length + (u.length + 1 + 1) + t2.length := by omega
  have m4 : ¬ 9223372036854775807 < t0.length + (2 + u.length) + t2.length := by omega
  have m5 : ¬ 9223372036854775807 < t0.length + 2 + u.length + t2.length := by omega
  refine wp_region_quiet_below (by kernel_rfl) (by kernel_rfl) ?_
  repeat (quiet_step (first | exact R1.out _ _ | exact R2.out _ _ | exact R4.out _ _))
  refine wpQuiet_nil ?_
  intro _ hw'
  obtain ⟨⟨dq, osq⟩, hw''⟩ := hw'
  subst hw''
  have k5 := k3.trans (below_regrown w3 dq osq)
  go_wp2
  go_ret2
  exact ⟨by rw [HT.out]; simp, k5⟩

set_option maxRecDepth 100000 in
set_option maxHeartbeats 400000 in
theorem refText7 (op rd ra rb imm : Int) (W : World) (h : M.ok op rd ra rb imm = true) (hf : M.form op = 7) :
    Calls Tryz.prog 10 #[.agg #[.int .i64 op, .int .i64 rd, .int .i64 ra, .int .i64 rb, .int .i32 imm]] W fun e W' => e = .returned (.tuple #[.string ⟨(M.text op rd ra rb imm).toArray⟩, .int .i64 0]) ∧ Dn W W' := by
  obtain ⟨⟨o1, o2⟩, ⟨d1, d2⟩, ⟨a1, a2⟩, ⟨b1, b2⟩, ⟨i1, i2⟩⟩ := M.ok_rng _ _ _ _ _ h
  have hl1 := itoa_short imm (by omega) (by omega)
  have B0 : (⟨#[32]⟩ : ByteArray) ++ ⟨(Lib.itoa imm).toArray⟩ = ⟨(32 :: Lib.itoa imm).toArray⟩ := bytes_append [32] (Lib.itoa imm)
  go_enter Tryz.func10, Tryz.ntmps10
  go_wp2_with fail
  refine (may _ _ _ _ _ _ (by omega) (by omega)).mono ?_
  rintro e w1 ⟨rfl, up1⟩
  have k1 := ((Dn.refl W).alloc _).trans up1.dn
  have bx1 := (Box.new W (.int .i64 op) (.int .i64 rd) (.int .i64 ra) (.int .i64 rb) (.int .i32 imm) 23).up up1
  obtain ⟨c0, c1, c2, c3, c4, c5⟩ := bx1.open
  go_wp2_with fail
  refine (refName op _ (by omega) (by omega)).mono ?_
  rintro e w2 ⟨rfl, dn2⟩
  have k2 := k1.trans dn2
  have bx2 := bx1.dn dn2
  clear c0 c1 c2 c3 c4 c5 bx1
  obtain ⟨c0, c1, c2, c3, c4, c5⟩ := bx2.open
  go_wp2_with fail
  refine (refDec imm _ (by omega) (by omega)).mono ?_
  rintro e w3 ⟨rfl, dn3⟩
  have k3 := k2.trans dn3
  have bx3 := bx2.dn dn3
  clear c0 c1 c2 c3 c4 c5 bx2
  obtain ⟨c0, c1, c2, c3, c4, c5⟩ := bx3.open
  go_wp2_with fail
  refine (refForm op _).mono ?_
  rintro e w4 ⟨rfl, rfl⟩
  go_wp2_with fail
  refine (refRegT ra _ (by omega) (by omega)).mono ?_
  rintro e w5 ⟨rfl, dn5⟩
  clear B0
  have q0 := M.mnem_len op
  have q1 : (32 :: M.regT ra).length ≤ 30 := by have := itoa_short ra (by omega) (by omega); unfold M.regT; simp only [List.length_cons]; omega
  have HT : Hid (M.text op rd ra rb imm = M.mnem op ++ (32 :: M.regT ra)) := Lib.hid (by
    unfold M.text M.opsT
    rw [if_neg (by rw [hf]; decide), if_neg (by rw [hf]; decide), if_neg (by rw [hf]; decide), if_neg (by rw [hf]; decide), if_neg (by rw [hf]; decide), if_pos hf, M.join_cons2, join_one])
  generalize 32 :: M.regT ra = t1 at *
  generalize M.mnem op = t0 at *
  have b0x := bytes_append (t0) (t1)
  go_wp2
  go_ret2
  exact ⟨by rw [HT.out]; simp, k3.trans dn5⟩

set_option maxRecDepth 100000 in
set_option maxHeartbeats 400000 in
theorem refText4 (op rd ra rb imm : Int) (W : World) (h : M.ok op rd ra rb imm = true) (hf : M.form op = 4) :
    Calls Tryz.prog 10 #[.agg #[.int .i64 op, .int .i64 rd, .int .i64 ra, .int .i64 rb, .int .i32 imm]] W fun e W' => e = .returned (.tuple #[.string ⟨(M.text op rd ra rb imm).toArray⟩, .int .i64 0]) ∧ Dn W W' := by
  obtain ⟨⟨o1, o2⟩, ⟨d1, d2⟩, ⟨a1, a2⟩, ⟨b1, b2⟩, ⟨i1, i2⟩⟩ := M.ok_rng _ _ _ _ _ h
  have hl1 := itoa_short imm (by omega) (by omega)
  have B0 : (⟨#[32]⟩ : ByteArray) ++ ⟨(Lib.itoa imm).toArray⟩ = ⟨(32 :: Lib.itoa imm).toArray⟩ := bytes_append [32] (Lib.itoa imm)
  go_enter Tryz.func10, Tryz.ntmps10
  go_wp2_with fail
  refine (may _ _ _ _ _ _ (by omega) (by omega)).mono ?_
  rintro e w1 ⟨rfl, up1⟩
  have k1 := ((Dn.refl W).alloc _).trans up1.dn
  have bx1 := (Box.new W (.int .i64 op) (.int .i64 rd) (.int .i64 ra) (.int .i64 rb) (.int .i32 imm) 23).up up1
  obtain ⟨c0, c1, c2, c3, c4, c5⟩ := bx1.open
  go_wp2_with fail
  refine (refName op _ (by omega) (by omega)).mono ?_
  rintro e w2 ⟨rfl, dn2⟩
  have k2 := k1.trans dn2
  have bx2 := bx1.dn dn2
  clear c0 c1 c2 c3 c4 c5 bx1
  obtain ⟨c0, c1, c2, c3, c4, c5⟩ := bx2.open
  go_wp2_with fail
  refine (refDec imm _ (by omega) (by omega)).mono ?_
  rintro e w3 ⟨rfl, dn3⟩
  have k3 := k2.trans dn3
  have bx3 := bx2.dn dn3
  clear c0 c1 c2 c3 c4 c5 bx2
  obtain ⟨c0, c1, c2, c3, c4, c5⟩ := bx3.open
  go_wp2_with fail
  refine (refForm op _).mono ?_
  rintro e w4 ⟨rfl, rfl⟩
  have HT : Hid (M.text op rd ra rb imm = M.mnem op) := Lib.hid (by
    unfold M.text M.opsT
    rw [if_neg (by rw [hf]; decide), if_neg (by rw [hf]; decide), if_neg (by rw [hf]; decide), if_neg (by rw [hf]; decide), if_neg (by rw [hf]; decide), if_neg (by rw [hf]; decide), join_one])
  go_wp2
  go_ret2
  exact ⟨by rw [HT.out]; rfl, k3⟩

theorem refText_yes (op rd ra rb imm : Int) (W : World) (h : M.ok op rd ra rb imm = true) :
    Calls Tryz.prog 10 #[.agg #[.int .i64 op, .int .i64 rd, .int .i64 ra, .int .i64 rb, .int .i32 imm]] W fun e W' => e = .returned (.tuple #[.string ⟨(M.text op rd ra rb imm).toArray⟩, .int .i64 0]) ∧ Dn W W' := by
  obtain ⟨hz, _⟩ := M.ok_parts _ _ _ _ _ h
  have hc : M.form op = 0 ∨ M.form op = 1 ∨ M.form op = 2 ∨ M.form op = 3 ∨ M.form op = 4 ∨ M.form op = 5 ∨ M.form op = 6 ∨ M.form op = 7 := by have := M.form_rng op; omega
  rcases hc with e | e | e | e | e | e | e | e
  · exact absurd e hz
  · exact refText1 op rd ra rb imm W h e
  · exact refText2 op rd ra rb imm W h e
  · exact refText3 op rd ra rb imm W h e
  · exact refText4 op rd ra rb imm W h e
  · exact refText5 op rd ra rb imm W h e
  · exact refText6 op rd ra rb imm W h e
  · exact refText7 op rd ra rb imm W h e

end Go.Proofs.YtokhipjpppfkgaaGreatDoor
