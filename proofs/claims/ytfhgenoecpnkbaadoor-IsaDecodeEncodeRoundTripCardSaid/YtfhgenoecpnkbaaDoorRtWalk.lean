/-
  The law IsaDecodeEncodeRoundTrip walked, case by case. Conditions: the two tables, and those that part the cases.
-/
import Derived.Test.YtfhgenoecpnkbaaDoorAwake
import Derived.Test.YtfhgenoecpnkbaaDoorIsaLaws
namespace Go.Proofs.YtfhgenoecpnkbaaDoor
open Go.ChangeShapes Go.WideShapes Go.ChangeAt Go.RowKit
set_option linter.unusedVariables false

theorem dI_imm (w : Int) : -2147483648 ≤ dI w M.dImm ∧ dI w M.dImm < 2147483648 := by
  have h := dImm_rng w
  unfold dI
  split <;> omega

set_option maxHeartbeats 2000000 in
theorem rt_no (op0 rd0 ra0 rb0 im0 op1 rd1 ra1 rb1 im1 a2 : Int) (i1 : -2147483648 ≤ im0) (i2 : im0 < 2147483648) (j1 : -2147483648 ≤ im1) (j2 : im1 < 2147483648) (s1 : 0 ≤ a2) (s2 : a2 < 4294967296) (W : World) (T : Tabs W) (k0 : M.ok op0 rd0 ra0 rb0 im0 = false) :
    Calls Tryd.prog 4 #[.agg #[.int .i64 op0, .int .i64 rd0, .int .i64 ra0, .int .i64 rb0, .int .i32 im0], .agg #[.int .i64 op1, .int .i64 rd1, .int .i64 ra1, .int .i64 rb1, .int .i32 im1], .int .u32 a2] W fun e W' => e = .returned (.bool true) ∧ Up W W' := by
  have q1 : (M.ok op1 rd1 ra1 rb1 im1 == M.ok op1 rd1 ra1 rb1 im1) = true := by simp
  go_enter Tryd.func4, Tryd.ntmps4
  go_wp2_with fail
  have u0 : Up W _ := ((Up.refl W).alloc #[.int .i64 op0, .int .i64 rd0, .int .i64 ra0, .int .i64 rb0, .int .i32 im0] (t := 23)).alloc #[.int .i64 op1, .int .i64 rd1, .int .i64 ra1, .int .i64 rb1, .int .i32 im1] (t := 23)
  refine (awake _ (T.up u0)).mono ?_
  rintro e w1 ⟨rfl, up1⟩
  have u1 := u0.trans up1
  have bi1 := ((Box.new W (.int .i64 op0) (.int .i64 rd0) (.int .i64 ra0) (.int .i64 rb0) (.int .i32 im0) 23).up ((Up.refl _).alloc _)).up up1
  have bj1 := (Box.new2 _ _ _ _ _ _ _ _).up up1
  obtain ⟨c0, c1, c2, c3, c4, c5⟩ := bi1.open
  obtain ⟨d0, d1, d2, d3, d4, d5⟩ := bj1.open
  go_wp2_with fail
  refine (encode _ _ _ _ _ _ (T.up u1) (by omega) (by omega)).mono ?_
  rintro e w2 ⟨rfl, up2⟩
  have u2 := u1.trans up2
  have bi2 := bi1.up up2
  have bj2 := bj1.up up2
  clear c0 c1 c2 c3 c4 c5 d0 d1 d2 d3 d4 d5 bi1 bj1
  obtain ⟨c0, c1, c2, c3, c4, c5⟩ := bi2.open
  obtain ⟨d0, d1, d2, d3, d4, d5⟩ := bj2.open
  go_wp2_with fail
  refine (encode _ _ _ _ _ _ (T.up u2) (by omega) (by omega)).mono ?_
  rintro e w3 ⟨rfl, up3⟩
  have u3 := u2.trans up3
  have bi3 := bi2.up up3
  have bj3 := bj2.up up3
  clear c0 c1 c2 c3 c4 c5 d0 d1 d2 d3 d4 d5 bi2 bj2
  obtain ⟨c0, c1, c2, c3, c4, c5⟩ := bi3.open
  obtain ⟨d0, d1, d2, d3, d4, d5⟩ := bj3.open
  go_wp2_with fail
  refine (valid _ _ _ _ _ _ (T.up u3) (by omega) (by omega)).mono ?_
  rintro e w4 ⟨rfl, up4⟩
  have u4 := u3.trans up4
  have bi4 := bi3.up up4
  have bj4 := bj3.up up4
  clear c0 c1 c2 c3 c4 c5 d0 d1 d2 d3 d4 d5 bi3 bj3
  obtain ⟨c0, c1, c2, c3, c4, c5⟩ := bi4.open
  obtain ⟨d0, d1, d2, d3, d4, d5⟩ := bj4.open
  go_wp2_with fail
  refine (valid _ _ _ _ _ _ (T.up u4) (by omega) (by omega)).mono ?_
  rintro e w5 ⟨rfl, up5⟩
  have u5 := u4.trans up5
  have bi5 := bi4.up up5
  have bj5 := bj4.up up5
  clear c0 c1 c2 c3 c4 c5 d0 d1 d2 d3 d4 d5 bi4 bj4
  obtain ⟨c0, c1, c2, c3, c4, c5⟩ := bi5.open
  obtain ⟨d0, d1, d2, d3, d4, d5⟩ := bj5.open
  go_wp2_with fail
  cases hd : M.dok a2
  · have z0 := dI_no hd M.dOp
    have z1 := dI_no hd M.dRd
    have z2 := dI_no hd M.dRa
    have z3 := dI_no hd M.dRb
    have z4 := dI_no hd M.dImm
    refine (decode _ _ (T.up u5) (by omega) (by omega)).mono ?_
    rintro e w7 ⟨rfl, up7⟩
    have u7 := u5.trans up7
    go_wp2
    go_ret
    exact ⟨rfl, u7.alloc _⟩
  · obtain ⟨z0, z1⟩ := forth hd
    have z2 := dI_imm a2
    refine (decode _ _ (T.up u5) (by omega) (by omega)).mono ?_
    rintro e w7 ⟨rfl, up7⟩
    have u7 := u5.trans up7
    go_wp2_with fail
    refine (encode _ _ _ _ _ _ (T.up (u7.alloc _)) z2.1 z2.2).mono ?_
    rintro e w8 ⟨rfl, up8⟩
    have u8 := (u7.alloc _).trans up8
    have bk8 := (Box.new _ _ _ _ _ _ _).up up8
    obtain ⟨m0, m1, m2, m3, m4, m5⟩ := bk8.open
    go_wp2_with fail
    refine (valid _ _ _ _ _ _ (T.up u8) z2.1 z2.2).mono ?_
    rintro e w9 ⟨rfl, up9⟩
    go_wp2
    go_ret
    exact ⟨rfl, u8.trans up9⟩

set_option maxHeartbeats 2000000 in
theorem rt_yes_no (op0 rd0 ra0 rb0 im0 op1 rd1 ra1 rb1 im1 a2 : Int) (i1 : -2147483648 ≤ im0) (i2 : im0 < 2147483648) (j1 : -2147483648 ≤ im1) (j2 : im1 < 2147483648) (s1 : 0 ≤ a2) (s2 : a2 < 4294967296) (W : World) (T : Tabs W) (k0 : M.ok op0 rd0 ra0 rb0 im0 = true) (k1 : M.ok op1 rd1 ra1 rb1 im1 = false) :
    Calls Tryd.prog 4 #[.agg #[.int .i64 op0, .int .i64 rd0, .int .i64 ra0, .int .i64 rb0, .int .i32 im0], .agg #[.int .i64 op1, .int .i64 rd1, .int .i64 ra1, .int .i64 rb1, .int .i32 im1], .int .u32 a2] W fun e W' => e = .returned (.bool true) ∧ Up W W' := by
  obtain ⟨b0, b1, b2, b3, b4, b5⟩ := back k0
  obtain ⟨r1, r2⟩ := enc_rng op0 rd0 ra0 rb0 im0
  go_enter Tryd.func4, Tryd.ntmps4
  go_wp2_with fail
  have u0 : Up W _ := ((Up.refl W).alloc #[.int .i64 op0, .int .i64 rd0, .int .i64 ra0, .int .i64 rb0, .int .i32 im0] (t := 23)).alloc #[.int .i64 op1, .int .i64 rd1, .int .i64 ra1, .int .i64 rb1, .int .i32 im1] (t := 23)
  refine (awake _ (T.up u0)).mono ?_
  rintro e w1 ⟨rfl, up1⟩
  have u1 := u0.trans up1
  have bi1 := ((Box.new W (.int .i64 op0) (.int .i64 rd0) (.int .i64 ra0) (.int .i64 rb0) (.int .i32 im0) 23).up ((Up.refl _).alloc _)).up up1
  have bj1 := (Box.new2 _ _ _ _ _ _ _ _).up up1
  obtain ⟨c0, c1, c2, c3, c4, c5⟩ := bi1.open
  obtain ⟨d0, d1, d2, d3, d4, d5⟩ := bj1.open
  go_wp2_with fail
  refine (encode _ _ _ _ _ _ (T.up u1) (by omega) (by omega)).mono ?_
  rintro e w2 ⟨rfl, up2⟩
  have u2 := u1.trans up2
  have bi2 := bi1.up up2
  have bj2 := bj1.up up2
  clear c0 c1 c2 c3 c4 c5 d0 d1 d2 d3 d4 d5 bi1 bj1
  obtain ⟨c0, c1, c2, c3, c4, c5⟩ := bi2.open
  obtain ⟨d0, d1, d2, d3, d4, d5⟩ := bj2.open
  go_wp2_with fail
  refine (encode _ _ _ _ _ _ (T.up u2) (by omega) (by omega)).mono ?_
  rintro e w3 ⟨rfl, up3⟩
  have u3 := u2.trans up3
  have bi3 := bi2.up up3
  have bj3 := bj2.up up3
  clear c0 c1 c2 c3 c4 c5 d0 d1 d2 d3 d4 d5 bi2 bj2
  obtain ⟨c0, c1, c2, c3, c4, c5⟩ := bi3.open
  obtain ⟨d0, d1, d2, d3, d4, d5⟩ := bj3.open
  go_wp2_with fail
  refine (valid _ _ _ _ _ _ (T.up u3) (by omega) (by omega)).mono ?_
  rintro e w4 ⟨rfl, up4⟩
  have u4 := u3.trans up4
  have bi4 := bi3.up up4
  have bj4 := bj3.up up4
  clear c0 c1 c2 c3 c4 c5 d0 d1 d2 d3 d4 d5 bi3 bj3
  obtain ⟨c0, c1, c2, c3, c4, c5⟩ := bi4.open
  obtain ⟨d0, d1, d2, d3, d4, d5⟩ := bj4.open
  go_wp2_with fail
  refine (valid _ _ _ _ _ _ (T.up u4) (by omega) (by omega)).mono ?_
  rintro e w5 ⟨rfl, up5⟩
  have u5 := u4.trans up5
  have bi5 := bi4.up up5
  have bj5 := bj4.up up5
  clear c0 c1 c2 c3 c4 c5 d0 d1 d2 d3 d4 d5 bi4 bj4
  obtain ⟨c0, c1, c2, c3, c4, c5⟩ := bi5.open
  obtain ⟨d0, d1, d2, d3, d4, d5⟩ := bj5.open
  go_wp2_with fail
  refine (decode _ _ (T.up u5) r1 r2).mono ?_
  rintro e w6 ⟨rfl, up6⟩
  have u6 := u5.trans up6
  have bi6 := bi5.up up6
  clear c0 c1 c2 c3 c4 c5 d0 d1 d2 d3 d4 d5 bi5 bj5
  obtain ⟨c0, c1, c2, c3, c4, c5⟩ := bi6.open
  go_wp2_with fail
  cases hd : M.dok a2
  · have z0 := dI_no hd M.dOp
    have z1 := dI_no hd M.dRd
    have z2 := dI_no hd M.dRa
    have z3 := dI_no hd M.dRb
    have z4 := dI_no hd M.dImm
    refine (decode _ _ (T.up (u6.alloc _)) (by omega) (by omega)).mono ?_
    rintro e w7 ⟨rfl, up7⟩
    have u7 := (u6.alloc _).trans up7
    go_wp2
    go_ret
    exact ⟨rfl, u7.alloc _⟩
  · obtain ⟨z0, z1⟩ := forth hd
    have z2 := dI_imm a2
    refine (decode _ _ (T.up (u6.alloc _)) (by omega) (by omega)).mono ?_
    rintro e w7 ⟨rfl, up7⟩
    have u7 := (u6.alloc _).trans up7
    go_wp2_with fail
    refine (encode _ _ _ _ _ _ (T.up (u7.alloc _)) z2.1 z2.2).mono ?_
    rintro e w8 ⟨rfl, up8⟩
    have u8 := (u7.alloc _).trans up8
    have bk8 := (Box.new _ _ _ _ _ _ _).up up8
    obtain ⟨m0, m1, m2, m3, m4, m5⟩ := bk8.open
    go_wp2_with fail
    refine (valid _ _ _ _ _ _ (T.up u8) z2.1 z2.2).mono ?_
    rintro e w9 ⟨rfl, up9⟩
    go_wp2
    go_ret
    exact ⟨rfl, u8.trans up9⟩

set_option maxHeartbeats 2000000 in
theorem rt_ne_op (op0 rd0 ra0 rb0 im0 op1 rd1 ra1 rb1 im1 a2 : Int) (i1 : -2147483648 ≤ im0) (i2 : im0 < 2147483648) (j1 : -2147483648 ≤ im1) (j2 : im1 < 2147483648) (s1 : 0 ≤ a2) (s2 : a2 < 4294967296) (W : World) (T : Tabs W) (k0 : M.ok op0 rd0 ra0 rb0 im0 = true) (k1 : M.ok op1 rd1 ra1 rb1 im1 = true) (hne : (enc op0 rd0 ra0 rb0 im0 == enc op1 rd1 ra1 rb1 im1) = false) (pp : ¬ op0 = op1) :
    Calls Tryd.prog 4 #[.agg #[.int .i64 op0, .int .i64 rd0, .int .i64 ra0, .int .i64 rb0, .int .i32 im0], .agg #[.int .i64 op1, .int .i64 rd1, .int .i64 ra1, .int .i64 rb1, .int .i32 im1], .int .u32 a2] W fun e W' => e = .returned (.bool true) ∧ Up W W' := by
  obtain ⟨b0, b1, b2, b3, b4, b5⟩ := back k0
  obtain ⟨r1, r2⟩ := enc_rng op0 rd0 ra0 rb0 im0
  go_enter Tryd.func4, Tryd.ntmps4
  go_wp2_with fail
  have u0 : Up W _ := ((Up.refl W).alloc #[.int .i64 op0, .int .i64 rd0, .int .i64 ra0, .int .i64 rb0, .int .i32 im0] (t := 23)).alloc #[.int .i64 op1, .int .i64 rd1, .int .i64 ra1, .int .i64 rb1, .int .i32 im1] (t := 23)
  refine (awake _ (T.up u0)).mono ?_
  rintro e w1 ⟨rfl, up1⟩
  have u1 := u0.trans up1
  have bi1 := ((Box.new W (.int .i64 op0) (.int .i64 rd0) (.int .i64 ra0) (.int .i64 rb0) (.int .i32 im0) 23).up ((Up.refl _).alloc _)).up up1
  have bj1 := (Box.new2 _ _ _ _ _ _ _ _).up up1
  obtain ⟨c0, c1, c2, c3, c4, c5⟩ := bi1.open
  obtain ⟨d0, d1, d2, d3, d4, d5⟩ := bj1.open
  go_wp2_with fail
  refine (encode _ _ _ _ _ _ (T.up u1) (by omega) (by omega)).mono ?_
  rintro e w2 ⟨rfl, up2⟩
  have u2 := u1.trans up2
  have bi2 := bi1.up up2
  have bj2 := bj1.up up2
  clear c0 c1 c2 c3 c4 c5 d0 d1 d2 d3 d4 d5 bi1 bj1
  obtain ⟨c0, c1, c2, c3, c4, c5⟩ := bi2.open
  obtain ⟨d0, d1, d2, d3, d4, d5⟩ := bj2.open
  go_wp2_with fail
  refine (encode _ _ _ _ _ _ (T.up u2) (by omega) (by omega)).mono ?_
  rintro e w3 ⟨rfl, up3⟩
  have u3 := u2.trans up3
  have bi3 := bi2.up up3
  have bj3 := bj2.up up3
  clear c0 c1 c2 c3 c4 c5 d0 d1 d2 d3 d4 d5 bi2 bj2
  obtain ⟨c0, c1, c2, c3, c4, c5⟩ := bi3.open
  obtain ⟨d0, d1, d2, d3, d4, d5⟩ := bj3.open
  go_wp2_with fail
  refine (valid _ _ _ _ _ _ (T.up u3) (by omega) (by omega)).mono ?_
  rintro e w4 ⟨rfl, up4⟩
  have u4 := u3.trans up4
  have bi4 := bi3.up up4
  have bj4 := bj3.up up4
  clear c0 c1 c2 c3 c4 c5 d0 d1 d2 d3 d4 d5 bi3 bj3
  obtain ⟨c0, c1, c2, c3, c4, c5⟩ := bi4.open
  obtain ⟨d0, d1, d2, d3, d4, d5⟩ := bj4.open
  go_wp2_with fail
  refine (valid _ _ _ _ _ _ (T.up u4) (by omega) (by omega)).mono ?_
  rintro e w5 ⟨rfl, up5⟩
  have u5 := u4.trans up5
  have bi5 := bi4.up up5
  have bj5 := bj4.up up5
  clear c0 c1 c2 c3 c4 c5 d0 d1 d2 d3 d4 d5 bi4 bj4
  obtain ⟨c0, c1, c2, c3, c4, c5⟩ := bi5.open
  obtain ⟨d0, d1, d2, d3, d4, d5⟩ := bj5.open
  go_wp2_with fail
  refine (decode _ _ (T.up u5) r1 r2).mono ?_
  rintro e w6 ⟨rfl, up6⟩
  have u6 := u5.trans up6
  have bi6 := bi5.up up6
  clear c0 c1 c2 c3 c4 c5 d0 d1 d2 d3 d4 d5 bi5 bj5
  obtain ⟨c0, c1, c2, c3, c4, c5⟩ := bi6.open
  go_wp2_with fail
  cases hd : M.dok a2
  · have z0 := dI_no hd M.dOp
    have z1 := dI_no hd M.dRd
    have z2 := dI_no hd M.dRa
    have z3 := dI_no hd M.dRb
    have z4 := dI_no hd M.dImm
    refine (decode _ _ (T.up (u6.alloc _)) (by omega) (by omega)).mono ?_
    rintro e w7 ⟨rfl, up7⟩
    have u7 := (u6.alloc _).trans up7
    go_wp2
    go_ret
    exact ⟨rfl, u7.alloc _⟩
  · obtain ⟨z0, z1⟩ := forth hd
    have z2 := dI_imm a2
    refine (decode _ _ (T.up (u6.alloc _)) (by omega) (by omega)).mono ?_
    rintro e w7 ⟨rfl, up7⟩
    have u7 := (u6.alloc _).trans up7
    go_wp2_with fail
    refine (encode _ _ _ _ _ _ (T.up (u7.alloc _)) z2.1 z2.2).mono ?_
    rintro e w8 ⟨rfl, up8⟩
    have u8 := (u7.alloc _).trans up8
    have bk8 := (Box.new _ _ _ _ _ _ _).up up8
    obtain ⟨m0, m1, m2, m3, m4, m5⟩ := bk8.open
    go_wp2_with fail
    refine (valid _ _ _ _ _ _ (T.up u8) z2.1 z2.2).mono ?_
    rintro e w9 ⟨rfl, up9⟩
    go_wp2
    go_ret
    exact ⟨rfl, u8.trans up9⟩

set_option maxHeartbeats 2000000 in
theorem rt_ne_rd (op0 rd0 ra0 rb0 im0 rd1 ra1 rb1 im1 a2 : Int) (i1 : -2147483648 ≤ im0) (i2 : im0 < 2147483648) (j1 : -2147483648 ≤ im1) (j2 : im1 < 2147483648) (s1 : 0 ≤ a2) (s2 : a2 < 4294967296) (W : World) (T : Tabs W) (k0 : M.ok op0 rd0 ra0 rb0 im0 = true) (k1 : M.ok op0 rd1 ra1 rb1 im1 = true) (hne : (enc op0 rd0 ra0 rb0 im0 == enc op0 rd1 ra1 rb1 im1) = false) (pp : ¬ rd0 = rd1) :
    Calls Tryd.prog 4 #[.agg #[.int .i64 op0, .int .i64 rd0, .int .i64 ra0, .int .i64 rb0, .int .i32 im0], .agg #[.int .i64 op0, .int .i64 rd1, .int .i64 ra1, .int .i64 rb1, .int .i32 im1], .int .u32 a2] W fun e W' => e = .returned (.bool true) ∧ Up W W' := by
  obtain ⟨b0, b1, b2, b3, b4, b5⟩ := back k0
  obtain ⟨r1, r2⟩ := enc_rng op0 rd0 ra0 rb0 im0
  go_enter Tryd.func4, Tryd.ntmps4
  go_wp2_with fail
  have u0 : Up W _ := ((Up.refl W).alloc #[.int .i64 op0, .int .i64 rd0, .int .i64 ra0, .int .i64 rb0, .int .i32 im0] (t := 23)).alloc #[.int .i64 op0, .int .i64 rd1, .int .i64 ra1, .int .i64 rb1, .int .i32 im1] (t := 23)
  refine (awake _ (T.up u0)).mono ?_
  rintro e w1 ⟨rfl, up1⟩
  have u1 := u0.trans up1
  have bi1 := ((Box.new W (.int .i64 op0) (.int .i64 rd0) (.int .i64 ra0) (.int .i64 rb0) (.int .i32 im0) 23).up ((Up.refl _).alloc _)).up up1
  have bj1 := (Box.new2 _ _ _ _ _ _ _ _).up up1
  obtain ⟨c0, c1, c2, c3, c4, c5⟩ := bi1.open
  obtain ⟨d0, d1, d2, d3, d4, d5⟩ := bj1.open
  go_wp2_with fail
  refine (encode _ _ _ _ _ _ (T.up u1) (by omega) (by omega)).mono ?_
  rintro e w2 ⟨rfl, up2⟩
  have u2 := u1.trans up2
  have bi2 := bi1.up up2
  have bj2 := bj1.up up2
  clear c0 c1 c2 c3 c4 c5 d0 d1 d2 d3 d4 d5 bi1 bj1
  obtain ⟨c0, c1, c2, c3, c4, c5⟩ := bi2.open
  obtain ⟨d0, d1, d2, d3, d4, d5⟩ := bj2.open
  go_wp2_with fail
  refine (encode _ _ _ _ _ _ (T.up u2) (by omega) (by omega)).mono ?_
  rintro e w3 ⟨rfl, up3⟩
  have u3 := u2.trans up3
  have bi3 := bi2.up up3
  have bj3 := bj2.up up3
  clear c0 c1 c2 c3 c4 c5 d0 d1 d2 d3 d4 d5 bi2 bj2
  obtain ⟨c0, c1, c2, c3, c4, c5⟩ := bi3.open
  obtain ⟨d0, d1, d2, d3, d4, d5⟩ := bj3.open
  go_wp2_with fail
  refine (valid _ _ _ _ _ _ (T.up u3) (by omega) (by omega)).mono ?_
  rintro e w4 ⟨rfl, up4⟩
  have u4 := u3.trans up4
  have bi4 := bi3.up up4
  have bj4 := bj3.up up4
  clear c0 c1 c2 c3 c4 c5 d0 d1 d2 d3 d4 d5 bi3 bj3
  obtain ⟨c0, c1, c2, c3, c4, c5⟩ := bi4.open
  obtain ⟨d0, d1, d2, d3, d4, d5⟩ := bj4.open
  go_wp2_with fail
  refine (valid _ _ _ _ _ _ (T.up u4) (by omega) (by omega)).mono ?_
  rintro e w5 ⟨rfl, up5⟩
  have u5 := u4.trans up5
  have bi5 := bi4.up up5
  have bj5 := bj4.up up5
  clear c0 c1 c2 c3 c4 c5 d0 d1 d2 d3 d4 d5 bi4 bj4
  obtain ⟨c0, c1, c2, c3, c4, c5⟩ := bi5.open
  obtain ⟨d0, d1, d2, d3, d4, d5⟩ := bj5.open
  go_wp2_with fail
  refine (decode _ _ (T.up u5) r1 r2).mono ?_
  rintro e w6 ⟨rfl, up6⟩
  have u6 := u5.trans up6
  have bi6 := bi5.up up6
  clear c0 c1 c2 c3 c4 c5 d0 d1 d2 d3 d4 d5 bi5 bj5
  obtain ⟨c0, c1, c2, c3, c4, c5⟩ := bi6.open
  go_wp2_with fail
  cases hd : M.dok a2
  · have z0 := dI_no hd M.dOp
    have z1 := dI_no hd M.dRd
    have z2 := dI_no hd M.dRa
    have z3 := dI_no hd M.dRb
    have z4 := dI_no hd M.dImm
    refine (decode _ _ (T.up (u6.alloc _)) (by omega) (by omega)).mono ?_
    rintro e w7 ⟨rfl, up7⟩
    have u7 := (u6.alloc _).trans up7
    go_wp2
    go_ret
    exact ⟨rfl, u7.alloc _⟩
  · obtain ⟨z0, z1⟩ := forth hd
    have z2 := dI_imm a2
    refine (decode _ _ (T.up (u6.alloc _)) (by omega) (by omega)).mono ?_
    rintro e w7 ⟨rfl, up7⟩
    have u7 := (u6.alloc _).trans up7
    go_wp2_with fail
    refine (encode _ _ _ _ _ _ (T.up (u7.alloc _)) z2.1 z2.2).mono ?_
    rintro e w8 ⟨rfl, up8⟩
    have u8 := (u7.alloc _).trans up8
    have bk8 := (Box.new _ _ _ _ _ _ _).up up8
    obtain ⟨m0, m1, m2, m3, m4, m5⟩ := bk8.open
    go_wp2_with fail
    refine (valid _ _ _ _ _ _ (T.up u8) z2.1 z2.2).mono ?_
    rintro e w9 ⟨rfl, up9⟩
    go_wp2
    go_ret
    exact ⟨rfl, u8.trans up9⟩

set_option maxHeartbeats 2000000 in
theorem rt_ne_ra (op0 rd0 ra0 rb0 im0 ra1 rb1 im1 a2 : Int) (i1 : -2147483648 ≤ im0) (i2 : im0 < 2147483648) (j1 : -2147483648 ≤ im1) (j2 : im1 < 2147483648) (s1 : 0 ≤ a2) (s2 : a2 < 4294967296) (W : World) (T : Tabs W) (k0 : M.ok op0 rd0 ra0 rb0 im0 = true) (k1 : M.ok op0 rd0 ra1 rb1 im1 = true) (hne : (enc op0 rd0 ra0 rb0 im0 == enc op0 rd0 ra1 rb1 im1) = false) (pp : ¬ ra0 = ra1) :
    Calls Tryd.prog 4 #[.agg #[.int .i64 op0, .int .i64 rd0, .int .i64 ra0, .int .i64 rb0, .int .i32 im0], .agg #[.int .i64 op0, .int .i64 rd0, .int .i64 ra1, .int .i64 rb1, .int .i32 im1], .int .u32 a2] W fun e W' => e = .returned (.bool true) ∧ Up W W' := by
  obtain ⟨b0, b1, b2, b3, b4, b5⟩ := back k0
  obtain ⟨r1, r2⟩ := enc_rng op0 rd0 ra0 rb0 im0
  go_enter Tryd.func4, Tryd.ntmps4
  go_wp2_with fail
  have u0 : Up W _ := ((Up.refl W).alloc #[.int .i64 op0, .int .i64 rd0, .int .i64 ra0, .int .i64 rb0, .int .i32 im0] (t := 23)).alloc #[.int .i64 op0, .int .i64 rd0, .int .i64 ra1, .int .i64 rb1, .int .i32 im1] (t := 23)
  refine (awake _ (T.up u0)).mono ?_
  rintro e w1 ⟨rfl, up1⟩
  have u1 := u0.trans up1
  have bi1 := ((Box.new W (.int .i64 op0) (.int .i64 rd0) (.int .i64 ra0) (.int .i64 rb0) (.int .i32 im0) 23).up ((Up.refl _).alloc _)).up up1
  have bj1 := (Box.new2 _ _ _ _ _ _ _ _).up up1
  obtain ⟨c0, c1, c2, c3, c4, c5⟩ := bi1.open
  obtain ⟨d0, d1, d2, d3, d4, d5⟩ := bj1.open
  go_wp2_with fail
  refine (encode _ _ _ _ _ _ (T.up u1) (by omega) (by omega)).mono ?_
  rintro e w2 ⟨rfl, up2⟩
  have u2 := u1.trans up2
  have bi2 := bi1.up up2
  have bj2 := bj1.up up2
  clear c0 c1 c2 c3 c4 c5 d0 d1 d2 d3 d4 d5 bi1 bj1
  obtain ⟨c0, c1, c2, c3, c4, c5⟩ := bi2.open
  obtain ⟨d0, d1, d2, d3, d4, d5⟩ := bj2.open
  go_wp2_with fail
  refine (encode _ _ _ _ _ _ (T.up u2) (by omega) (by omega)).mono ?_
  rintro e w3 ⟨rfl, up3⟩
  have u3 := u2.trans up3
  have bi3 := bi2.up up3
  have bj3 := bj2.up up3
  clear c0 c1 c2 c3 c4 c5 d0 d1 d2 d3 d4 d5 bi2 bj2
  obtain ⟨c0, c1, c2, c3, c4, c5⟩ := bi3.open
  obtain ⟨d0, d1, d2, d3, d4, d5⟩ := bj3.open
  go_wp2_with fail
  refine (valid _ _ _ _ _ _ (T.up u3) (by omega) (by omega)).mono ?_
  rintro e w4 ⟨rfl, up4⟩
  have u4 := u3.trans up4
  have bi4 := bi3.up up4
  have bj4 := bj3.up up4
  clear c0 c1 c2 c3 c4 c5 d0 d1 d2 d3 d4 d5 bi3 bj3
  obtain ⟨c0, c1, c2, c3, c4, c5⟩ := bi4.open
  obtain ⟨d0, d1, d2, d3, d4, d5⟩ := bj4.open
  go_wp2_with fail
  refine (valid _ _ _ _ _ _ (T.up u4) (by omega) (by omega)).mono ?_
  rintro e w5 ⟨rfl, up5⟩
  have u5 := u4.trans up5
  have bi5 := bi4.up up5
  have bj5 := bj4.up up5
  clear c0 c1 c2 c3 c4 c5 d0 d1 d2 d3 d4 d5 bi4 bj4
  obtain ⟨c0, c1, c2, c3, c4, c5⟩ := bi5.open
  obtain ⟨d0, d1, d2, d3, d4, d5⟩ := bj5.open
  go_wp2_with fail
  refine (decode _ _ (T.up u5) r1 r2).mono ?_
  rintro e w6 ⟨rfl, up6⟩
  have u6 := u5.trans up6
  have bi6 := bi5.up up6
  clear c0 c1 c2 c3 c4 c5 d0 d1 d2 d3 d4 d5 bi5 bj5
  obtain ⟨c0, c1, c2, c3, c4, c5⟩ := bi6.open
  go_wp2_with fail
  cases hd : M.dok a2
  · have z0 := dI_no hd M.dOp
    have z1 := dI_no hd M.dRd
    have z2 := dI_no hd M.dRa
    have z3 := dI_no hd M.dRb
    have z4 := dI_no hd M.dImm
    refine (decode _ _ (T.up (u6.alloc _)) (by omega) (by omega)).mono ?_
    rintro e w7 ⟨rfl, up7⟩
    have u7 := (u6.alloc _).trans up7
    go_wp2
    go_ret
    exact ⟨rfl, u7.alloc _⟩
  · obtain ⟨z0, z1⟩ := forth hd
    have z2 := dI_imm a2
    refine (decode _ _ (T.up (u6.alloc _)) (by omega) (by omega)).mono ?_
    rintro e w7 ⟨rfl, up7⟩
    have u7 := (u6.alloc _).trans up7
    go_wp2_with fail
    refine (encode _ _ _ _ _ _ (T.up (u7.alloc _)) z2.1 z2.2).mono ?_
    rintro e w8 ⟨rfl, up8⟩
    have u8 := (u7.alloc _).trans up8
    have bk8 := (Box.new _ _ _ _ _ _ _).up up8
    obtain ⟨m0, m1, m2, m3, m4, m5⟩ := bk8.open
    go_wp2_with fail
    refine (valid _ _ _ _ _ _ (T.up u8) z2.1 z2.2).mono ?_
    rintro e w9 ⟨rfl, up9⟩
    go_wp2
    go_ret
    exact ⟨rfl, u8.trans up9⟩

set_option maxHeartbeats 2000000 in
theorem rt_ne_rb (op0 rd0 ra0 rb0 im0 rb1 im1 a2 : Int) (i1 : -2147483648 ≤ im0) (i2 : im0 < 2147483648) (j1 : -2147483648 ≤ im1) (j2 : im1 < 2147483648) (s1 : 0 ≤ a2) (s2 : a2 < 4294967296) (W : World) (T : Tabs W) (k0 : M.ok op0 rd0 ra0 rb0 im0 = true) (k1 : M.ok op0 rd0 ra0 rb1 im1 = true) (hne : (enc op0 rd0 ra0 rb0 im0 == enc op0 rd0 ra0 rb1 im1) = false) (pp : ¬ rb0 = rb1) :
    Calls Tryd.prog 4 #[.agg #[.int .i64 op0, .int .i64 rd0, .int .i64 ra0, .int .i64 rb0, .int .i32 im0], .agg #[.int .i64 op0, .int .i64 rd0, .int .i64 ra0, .int .i64 rb1, .int .i32 im1], .int .u32 a2] W fun e W' => e = .returned (.bool true) ∧ Up W W' := by
  obtain ⟨b0, b1, b2, b3, b4, b5⟩ := back k0
  obtain ⟨r1, r2⟩ := enc_rng op0 rd0 ra0 rb0 im0
  go_enter Tryd.func4, Tryd.ntmps4
  go_wp2_with fail
  have u0 : Up W _ := ((Up.refl W).alloc #[.int .i64 op0, .int .i64 rd0, .int .i64 ra0, .int .i64 rb0, .int .i32 im0] (t := 23)).alloc #[.int .i64 op0, .int .i64 rd0, .int .i64 ra0, .int .i64 rb1, .int .i32 im1] (t := 23)
  refine (awake _ (T.up u0)).mono ?_
  rintro e w1 ⟨rfl, up1⟩
  have u1 := u0.trans up1
  have bi1 := ((Box.new W (.int .i64 op0) (.int .i64 rd0) (.int .i64 ra0) (.int .i64 rb0) (.int .i32 im0) 23).up ((Up.refl _).alloc _)).up up1
  have bj1 := (Box.new2 _ _ _ _ _ _ _ _).up up1
  obtain ⟨c0, c1, c2, c3, c4, c5⟩ := bi1.open
  obtain ⟨d0, d1, d2, d3, d4, d5⟩ := bj1.open
  go_wp2_with fail
  refine (encode _ _ _ _ _ _ (T.up u1) (by omega) (by omega)).mono ?_
  rintro e w2 ⟨rfl, up2⟩
  have u2 := u1.trans up2
  have bi2 := bi1.up up2
  have bj2 := bj1.up up2
  clear c0 c1 c2 c3 c4 c5 d0 d1 d2 d3 d4 d5 bi1 bj1
  obtain ⟨c0, c1, c2, c3, c4, c5⟩ := bi2.open
  obtain ⟨d0, d1, d2, d3, d4, d5⟩ := bj2.open
  go_wp2_with fail
  refine (encode _ _ _ _ _ _ (T.up u2) (by omega) (by omega)).mono ?_
  rintro e w3 ⟨rfl, up3⟩
  have u3 := u2.trans up3
  have bi3 := bi2.up up3
  have bj3 := bj2.up up3
  clear c0 c1 c2 c3 c4 c5 d0 d1 d2 d3 d4 d5 bi2 bj2
  obtain ⟨c0, c1, c2, c3, c4, c5⟩ := bi3.open
  obtain ⟨d0, d1, d2, d3, d4, d5⟩ := bj3.open
  go_wp2_with fail
  refine (valid _ _ _ _ _ _ (T.up u3) (by omega) (by omega)).mono ?_
  rintro e w4 ⟨rfl, up4⟩
  have u4 := u3.trans up4
  have bi4 := bi3.up up4
  have bj4 := bj3.up up4
  clear c0 c1 c2 c3 c4 c5 d0 d1 d2 d3 d4 d5 bi3 bj3
  obtain ⟨c0, c1, c2, c3, c4, c5⟩ := bi4.open
  obtain ⟨d0, d1, d2, d3, d4, d5⟩ := bj4.open
  go_wp2_with fail
  refine (valid _ _ _ _ _ _ (T.up u4) (by omega) (by omega)).mono ?_
  rintro e w5 ⟨rfl, up5⟩
  have u5 := u4.trans up5
  have bi5 := bi4.up up5
  have bj5 := bj4.up up5
  clear c0 c1 c2 c3 c4 c5 d0 d1 d2 d3 d4 d5 bi4 bj4
  obtain ⟨c0, c1, c2, c3, c4, c5⟩ := bi5.open
  obtain ⟨d0, d1, d2, d3, d4, d5⟩ := bj5.open
  go_wp2_with fail
  refine (decode _ _ (T.up u5) r1 r2).mono ?_
  rintro e w6 ⟨rfl, up6⟩
  have u6 := u5.trans up6
  have bi6 := bi5.up up6
  clear c0 c1 c2 c3 c4 c5 d0 d1 d2 d3 d4 d5 bi5 bj5
  obtain ⟨c0, c1, c2, c3, c4, c5⟩ := bi6.open
  go_wp2_with fail
  cases hd : M.dok a2
  · have z0 := dI_no hd M.dOp
    have z1 := dI_no hd M.dRd
    have z2 := dI_no hd M.dRa
    have z3 := dI_no hd M.dRb
    have z4 := dI_no hd M.dImm
    refine (decode _ _ (T.up (u6.alloc _)) (by omega) (by omega)).mono ?_
    rintro e w7 ⟨rfl, up7⟩
    have u7 := (u6.alloc _).trans up7
    go_wp2
    go_ret
    exact ⟨rfl, u7.alloc _⟩
  · obtain ⟨z0, z1⟩ := forth hd
    have z2 := dI_imm a2
    refine (decode _ _ (T.up (u6.alloc _)) (by omega) (by omega)).mono ?_
    rintro e w7 ⟨rfl, up7⟩
    have u7 := (u6.alloc _).trans up7
    go_wp2_with fail
    refine (encode _ _ _ _ _ _ (T.up (u7.alloc _)) z2.1 z2.2).mono ?_
    rintro e w8 ⟨rfl, up8⟩
    have u8 := (u7.alloc _).trans up8
    have bk8 := (Box.new _ _ _ _ _ _ _).up up8
    obtain ⟨m0, m1, m2, m3, m4, m5⟩ := bk8.open
    go_wp2_with fail
    refine (valid _ _ _ _ _ _ (T.up u8) z2.1 z2.2).mono ?_
    rintro e w9 ⟨rfl, up9⟩
    go_wp2
    go_ret
    exact ⟨rfl, u8.trans up9⟩

set_option maxHeartbeats 2000000 in
theorem rt_ne_im (op0 rd0 ra0 rb0 im0 im1 a2 : Int) (i1 : -2147483648 ≤ im0) (i2 : im0 < 2147483648) (j1 : -2147483648 ≤ im1) (j2 : im1 < 2147483648) (s1 : 0 ≤ a2) (s2 : a2 < 4294967296) (W : World) (T : Tabs W) (k0 : M.ok op0 rd0 ra0 rb0 im0 = true) (k1 : M.ok op0 rd0 ra0 rb0 im1 = true) (hne : (enc op0 rd0 ra0 rb0 im0 == enc op0 rd0 ra0 rb0 im1) = false) (pp : ¬ im0 = im1) :
    Calls Tryd.prog 4 #[.agg #[.int .i64 op0, .int .i64 rd0, .int .i64 ra0, .int .i64 rb0, .int .i32 im0], .agg #[.int .i64 op0, .int .i64 rd0, .int .i64 ra0, .int .i64 rb0, .int .i32 im1], .int .u32 a2] W fun e W' => e = .returned (.bool true) ∧ Up W W' := by
  obtain ⟨b0, b1, b2, b3, b4, b5⟩ := back k0
  obtain ⟨r1, r2⟩ := enc_rng op0 rd0 ra0 rb0 im0
  go_enter Tryd.func4, Tryd.ntmps4
  go_wp2_with fail
  have u0 : Up W _ := ((Up.refl W).alloc #[.int .i64 op0, .int .i64 rd0, .int .i64 ra0, .int .i64 rb0, .int .i32 im0] (t := 23)).alloc #[.int .i64 op0, .int .i64 rd0, .int .i64 ra0, .int .i64 rb0, .int .i32 im1] (t := 23)
  refine (awake _ (T.up u0)).mono ?_
  rintro e w1 ⟨rfl, up1⟩
  have u1 := u0.trans up1
  have bi1 := ((Box.new W (.int .i64 op0) (.int .i64 rd0) (.int .i64 ra0) (.int .i64 rb0) (.int .i32 im0) 23).up ((Up.refl _).alloc _)).up up1
  have bj1 := (Box.new2 _ _ _ _ _ _ _ _).up up1
  obtain ⟨c0, c1, c2, c3, c4, c5⟩ := bi1.open
  obtain ⟨d0, d1, d2, d3, d4, d5⟩ := bj1.open
  go_wp2_with fail
  refine (encode _ _ _ _ _ _ (T.up u1) (by omega) (by omega)).mono ?_
  rintro e w2 ⟨rfl, up2⟩
  have u2 := u1.trans up2
  have bi2 := bi1.up up2
  have bj2 := bj1.up up2
  clear c0 c1 c2 c3 c4 c5 d0 d1 d2 d3 d4 d5 bi1 bj1
  obtain ⟨c0, c1, c2, c3, c4, c5⟩ := bi2.open
  obtain ⟨d0, d1, d2, d3, d4, d5⟩ := bj2.open
  go_wp2_with fail
  refine (encode _ _ _ _ _ _ (T.up u2) (by omega) (by omega)).mono ?_
  rintro e w3 ⟨rfl, up3⟩
  have u3 := u2.trans up3
  have bi3 := bi2.up up3
  have bj3 := bj2.up up3
  clear c0 c1 c2 c3 c4 c5 d0 d1 d2 d3 d4 d5 bi2 bj2
  obtain ⟨c0, c1, c2, c3, c4, c5⟩ := bi3.open
  obtain ⟨d0, d1, d2, d3, d4, d5⟩ := bj3.open
  go_wp2_with fail
  refine (valid _ _ _ _ _ _ (T.up u3) (by omega) (by omega)).mono ?_
  rintro e w4 ⟨rfl, up4⟩
  have u4 := u3.trans up4
  have bi4 := bi3.up up4
  have bj4 := bj3.up up4
  clear c0 c1 c2 c3 c4 c5 d0 d1 d2 d3 d4 d5 bi3 bj3
  obtain ⟨c0, c1, c2, c3, c4, c5⟩ := bi4.open
  obtain ⟨d0, d1, d2, d3, d4, d5⟩ := bj4.open
  go_wp2_with fail
  refine (valid _ _ _ _ _ _ (T.up u4) (by omega) (by omega)).mono ?_
  rintro e w5 ⟨rfl, up5⟩
  have u5 := u4.trans up5
  have bi5 := bi4.up up5
  have bj5 := bj4.up up5
  clear c0 c1 c2 c3 c4 c5 d0 d1 d2 d3 d4 d5 bi4 bj4
  obtain ⟨c0, c1, c2, c3, c4, c5⟩ := bi5.open
  obtain ⟨d0, d1, d2, d3, d4, d5⟩ := bj5.open
  go_wp2_with fail
  refine (decode _ _ (T.up u5) r1 r2).mono ?_
  rintro e w6 ⟨rfl, up6⟩
  have u6 := u5.trans up6
  have bi6 := bi5.up up6
  clear c0 c1 c2 c3 c4 c5 d0 d1 d2 d3 d4 d5 bi5 bj5
  obtain ⟨c0, c1, c2, c3, c4, c5⟩ := bi6.open
  go_wp2_with fail
  cases hd : M.dok a2
  · have z0 := dI_no hd M.dOp
    have z1 := dI_no hd M.dRd
    have z2 := dI_no hd M.dRa
    have z3 := dI_no hd M.dRb
    have z4 := dI_no hd M.dImm
    refine (decode _ _ (T.up (u6.alloc _)) (by omega) (by omega)).mono ?_
    rintro e w7 ⟨rfl, up7⟩
    have u7 := (u6.alloc _).trans up7
    go_wp2
    go_ret
    exact ⟨rfl, u7.alloc _⟩
  · obtain ⟨z0, z1⟩ := forth hd
    have z2 := dI_imm a2
    refine (decode _ _ (T.up (u6.alloc _)) (by omega) (by omega)).mono ?_
    rintro e w7 ⟨rfl, up7⟩
    have u7 := (u6.alloc _).trans up7
    go_wp2_with fail
    refine (encode _ _ _ _ _ _ (T.up (u7.alloc _)) z2.1 z2.2).mono ?_
    rintro e w8 ⟨rfl, up8⟩
    have u8 := (u7.alloc _).trans up8
    have bk8 := (Box.new _ _ _ _ _ _ _).up up8
    obtain ⟨m0, m1, m2, m3, m4, m5⟩ := bk8.open
    go_wp2_with fail
    refine (valid _ _ _ _ _ _ (T.up u8) z2.1 z2.2).mono ?_
    rintro e w9 ⟨rfl, up9⟩
    go_wp2
    go_ret
    exact ⟨rfl, u8.trans up9⟩

set_option maxHeartbeats 2000000 in
theorem rt_eq (op0 rd0 ra0 rb0 im0 a2 : Int) (i1 : -2147483648 ≤ im0) (i2 : im0 < 2147483648) (s1 : 0 ≤ a2) (s2 : a2 < 4294967296) (W : World) (T : Tabs W) (k0 : M.ok op0 rd0 ra0 rb0 im0 = true) :
    Calls Tryd.prog 4 #[.agg #[.int .i64 op0, .int .i64 rd0, .int .i64 ra0, .int .i64 rb0, .int .i32 im0], .agg #[.int .i64 op0, .int .i64 rd0, .int .i64 ra0, .int .i64 rb0, .int .i32 im0], .int .u32 a2] W fun e W' => e = .returned (.bool true) ∧ Up W W' := by
  obtain ⟨b0, b1, b2, b3, b4, b5⟩ := back k0
  obtain ⟨r1, r2⟩ := enc_rng op0 rd0 ra0 rb0 im0
  go_enter Tryd.func4, Tryd.ntmps4
  go_wp2_with fail
  have u0 : Up W _ := ((Up.refl W).alloc #[.int .i64 op0, .int .i64 rd0, .int .i64 ra0, .int .i64 rb0, .int .i32 im0] (t := 23)).alloc #[.int .i64 op0, .int .i64 rd0, .int .i64 ra0, .int .i64 rb0, .int .i32 im0] (t := 23)
  refine (awake _ (T.up u0)).mono ?_
  rintro e w1 ⟨rfl, up1⟩
  have u1 := u0.trans up1
  have bi1 := ((Box.new W (.int .i64 op0) (.int .i64 rd0) (.int .i64 ra0) (.int .i64 rb0) (.int .i32 im0) 23).up ((Up.refl _).alloc _)).up up1
  have bj1 := (Box.new2 _ _ _ _ _ _ _ _).up up1
  obtain ⟨c0, c1, c2, c3, c4, c5⟩ := bi1.open
  obtain ⟨d0, d1, d2, d3, d4, d5⟩ := bj1.open
  go_wp2_with fail
  refine (encode _ _ _ _ _ _ (T.up u1) (by omega) (by omega)).mono ?_
  rintro e w2 ⟨rfl, up2⟩
  have u2 := u1.trans up2
  have bi2 := bi1.up up2
  have bj2 := bj1.up up2
  clear c0 c1 c2 c3 c4 c5 d0 d1 d2 d3 d4 d5 bi1 bj1
  obtain ⟨c0, c1, c2, c3, c4, c5⟩ := bi2.open
  obtain ⟨d0, d1, d2, d3, d4, d5⟩ := bj2.open
  go_wp2_with fail
  refine (encode _ _ _ _ _ _ (T.up u2) (by omega) (by omega)).mono ?_
  rintro e w3 ⟨rfl, up3⟩
  have u3 := u2.trans up3
  have bi3 := bi2.up up3
  have bj3 := bj2.up up3
  clear c0 c1 c2 c3 c4 c5 d0 d1 d2 d3 d4 d5 bi2 bj2
  obtain ⟨c0, c1, c2, c3, c4, c5⟩ := bi3.open
  obtain ⟨d0, d1, d2, d3, d4, d5⟩ := bj3.open
  go_wp2_with fail
  refine (valid _ _ _ _ _ _ (T.up u3) (by omega) (by omega)).mono ?_
  rintro e w4 ⟨rfl, up4⟩
  have u4 := u3.trans up4
  have bi4 := bi3.up up4
  have bj4 := bj3.up up4
  clear c0 c1 c2 c3 c4 c5 d0 d1 d2 d3 d4 d5 bi3 bj3
  obtain ⟨c0, c1, c2, c3, c4, c5⟩ := bi4.open
  obtain ⟨d0, d1, d2, d3, d4, d5⟩ := bj4.open
  go_wp2_with fail
  refine (valid _ _ _ _ _ _ (T.up u4) (by omega) (by omega)).mono ?_
  rintro e w5 ⟨rfl, up5⟩
  have u5 := u4.trans up5
  have bi5 := bi4.up up5
  have bj5 := bj4.up up5
  clear c0 c1 c2 c3 c4 c5 d0 d1 d2 d3 d4 d5 bi4 bj4
  obtain ⟨c0, c1, c2, c3, c4, c5⟩ := bi5.open
  obtain ⟨d0, d1, d2, d3, d4, d5⟩ := bj5.open
  go_wp2_with fail
  refine (decode _ _ (T.up u5) r1 r2).mono ?_
  rintro e w6 ⟨rfl, up6⟩
  have u6 := u5.trans up6
  have bi6 := bi5.up up6
  clear c0 c1 c2 c3 c4 c5 d0 d1 d2 d3 d4 d5 bi5 bj5
  obtain ⟨c0, c1, c2, c3, c4, c5⟩ := bi6.open
  go_wp2_with fail
  cases hd : M.dok a2
  · have z0 := dI_no hd M.dOp
    have z1 := dI_no hd M.dRd
    have z2 := dI_no hd M.dRa
    have z3 := dI_no hd M.dRb
    have z4 := dI_no hd M.dImm
    refine (decode _ _ (T.up (u6.alloc _)) (by omega) (by omega)).mono ?_
    rintro e w7 ⟨rfl, up7⟩
    have u7 := (u6.alloc _).trans up7
    go_wp2
    go_ret
    exact ⟨rfl, u7.alloc _⟩
  · obtain ⟨z0, z1⟩ := forth hd
    have z2 := dI_imm a2
    refine (decode _ _ (T.up (u6.alloc _)) (by omega) (by omega)).mono ?_
    rintro e w7 ⟨rfl, up7⟩
    have u7 := (u6.alloc _).trans up7
    go_wp2_with fail
    refine (encode _ _ _ _ _ _ (T.up (u7.alloc _)) z2.1 z2.2).mono ?_
    rintro e w8 ⟨rfl, up8⟩
    have u8 := (u7.alloc _).trans up8
    have bk8 := (Box.new _ _ _ _ _ _ _).up up8
    obtain ⟨m0, m1, m2, m3, m4, m5⟩ := bk8.open
    go_wp2_with fail
    refine (valid _ _ _ _ _ _ (T.up u8) z2.1 z2.2).mono ?_
    rintro e w9 ⟨rfl, up9⟩
    go_wp2
    go_ret
    exact ⟨rfl, u8.trans up9⟩


theorem rt (op0 rd0 ra0 rb0 im0 op1 rd1 ra1 rb1 im1 a2 : Int) (i1 : -2147483648 ≤ im0) (i2 : im0 < 2147483648) (j1 : -2147483648 ≤ im1) (j2 : im1 < 2147483648) (s1 : 0 ≤ a2) (s2 : a2 < 4294967296) (W : World) (T : Tabs W) :
    Calls Tryd.prog 4 #[.agg #[.int .i64 op0, .int .i64 rd0, .int .i64 ra0, .int .i64 rb0, .int .i32 im0], .agg #[.int .i64 op1, .int .i64 rd1, .int .i64 ra1, .int .i64 rb1, .int .i32 im1], .int .u32 a2] W fun e W' => e = .returned (.bool true) ∧ Up W W' := by
  cases k0 : M.ok op0 rd0 ra0 rb0 im0
  · exact rt_no op0 rd0 ra0 rb0 im0 op1 rd1 ra1 rb1 im1 a2 i1 i2 j1 j2 s1 s2 W T k0
  cases k1 : M.ok op1 rd1 ra1 rb1 im1
  · exact rt_yes_no op0 rd0 ra0 rb0 im0 op1 rd1 ra1 rb1 im1 a2 i1 i2 j1 j2 s1 s2 W T k0 k1
  by_cases hn : enc op0 rd0 ra0 rb0 im0 = enc op1 rd1 ra1 rb1 im1
  · obtain ⟨rfl, rfl, rfl, rfl, rfl⟩ := inj k0 k1 hn
    exact rt_eq op0 rd0 ra0 rb0 im0 a2 i1 i2 s1 s2 W T k0
  have hne := beq_eq_false_iff_ne.2 hn
  by_cases p0 : op0 = op1
  · subst p0
    by_cases p1 : rd0 = rd1
    · subst p1
      by_cases p2 : ra0 = ra1
      · subst p2
        by_cases p3 : rb0 = rb1
        · subst p3
          by_cases p4 : im0 = im1
          · subst p4; exact absurd rfl hn
          · exact rt_ne_im op0 rd0 ra0 rb0 im0 im1 a2 i1 i2 j1 j2 s1 s2 W T k0 k1 hne p4
        · exact rt_ne_rb op0 rd0 ra0 rb0 im0 rb1 im1 a2 i1 i2 j1 j2 s1 s2 W T k0 k1 hne p3
      · exact rt_ne_ra op0 rd0 ra0 rb0 im0 ra1 rb1 im1 a2 i1 i2 j1 j2 s1 s2 W T k0 k1 hne p2
    · exact rt_ne_rd op0 rd0 ra0 rb0 im0 rd1 ra1 rb1 im1 a2 i1 i2 j1 j2 s1 s2 W T k0 k1 hne p1
  · exact rt_ne_op op0 rd0 ra0 rb0 im0 op1 rd1 ra1 rb1 im1 a2 i1 i2 j1 j2 s1 s2 W T k0 k1 hne p0

end Go.Proofs.YtfhgenoecpnkbaaDoor
