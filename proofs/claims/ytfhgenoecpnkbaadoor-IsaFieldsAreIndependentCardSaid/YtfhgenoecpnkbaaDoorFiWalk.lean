/-
  The law IsaFieldsAreIndependent walked, case by case. Conditions: the two tables, and those that part the cases.
-/
import Derived.Test.YtfhgenoecpnkbaaDoorAwake
import Derived.Test.YtfhgenoecpnkbaaDoorIsaLaws
namespace Go.Proofs.YtfhgenoecpnkbaaDoor
open Go.ChangeShapes Go.WideShapes Go.ChangeAt Go.RowKit
set_option linter.unusedVariables false

theorem ok_mk (op rd ra rb imm : Int) (h0 : M.form op ≠ 0) (h1 : M.okReg rd (M.hasRd (M.form op)) = true) (h2 : M.okReg ra (M.hasRa (M.form op)) = true) (h3 : M.okReg rb (M.hasRb (M.form op)) = true)
    (h4 : M.okImm imm (M.hasImm (M.form op)) (M.hasCsr (M.form op)) = true) : M.ok op rd ra rb imm = true := by
  rw [M.ok_eq op rd ra rb imm (by simpa using h0), h1, h2, h3, h4]; rfl

theorem swaps (op rd0 ra0 rb0 im0 rd1 ra1 rb1 im1 : Int) (k0 : M.ok op rd0 ra0 rb0 im0 = true) (k1 : M.ok op rd1 ra1 rb1 im1 = true) :
    M.ok op rd1 ra0 rb0 im0 = true ∧ M.ok op rd0 ra1 rb1 im1 = true ∧ M.ok op rd0 ra0 rb1 im1 = true ∧ M.ok op rd1 ra1 rb0 im0 = true := by
  obtain ⟨a0, a1, a2, a3, a4⟩ := M.ok_parts _ _ _ _ _ k0
  obtain ⟨b0, b1, b2, b3, b4⟩ := M.ok_parts _ _ _ _ _ k1
  exact ⟨ok_mk _ _ _ _ _ a0 b1 a2 a3 a4, ok_mk _ _ _ _ _ a0 a1 b2 b3 b4, ok_mk _ _ _ _ _ a0 a1 a2 b3 b4, ok_mk _ _ _ _ _ a0 b1 b2 a3 a4⟩

theorem enc_small (op rd ra rb imm : Int) (k : M.ok op rd ra rb imm = true) : 0 ≤ enc op rd ra rb imm ∧ enc op rd ra rb imm < 1744830464 ∧ op * 67108864 ≤ enc op rd ra rb imm ∧ enc op rd ra rb imm < op * 67108864 + 67108864 := by
  obtain ⟨ho, hd, ha, hb, hi⟩ := M.ok_rng _ _ _ _ _ k
  rw [enc_ok k]
  unfold M.word
  split <;> omega

theorem sums (op rd0 ra0 rb0 im0 rd1 ra1 rb1 im1 : Int) (k0 : M.ok op rd0 ra0 rb0 im0 = true) (k1 : M.ok op rd1 ra1 rb1 im1 = true) :
    (enc op rd0 ra0 rb0 im0 + enc op rd1 ra1 rb1 im1 == enc op rd1 ra0 rb0 im0 + enc op rd0 ra1 rb1 im1) = true ∧ (enc op rd0 ra0 rb0 im0 + enc op rd1 ra1 rb1 im1 == enc op rd0 ra0 rb1 im1 + enc op rd1 ra1 rb0 im0) = true := by
  obtain ⟨s1, s2, s3, s4⟩ := swaps _ _ _ _ _ _ _ _ _ k0 k1
  rw [beq_iff_eq, beq_iff_eq, enc_ok k0, enc_ok k1, enc_ok s1, enc_ok s2, enc_ok s3, enc_ok s4]
  unfold M.word
  constructor <;> split <;> omega

/-- four new blocks of five cells, and what a call behind them leaves -/
theorem four_up {w w' : World} {x0 x1 x2 x3 x4 y0 y1 y2 y3 y4 z0 z1 z2 z3 z4 v0 v1 v2 v3 v4 : Value} {t : TypeId}
    (h : Up ((((w.alloc (.cells #[x0, x1, x2, x3, x4] t)).alloc (.cells #[y0, y1, y2, y3, y4] t)).alloc (.cells #[z0, z1, z2, z3, z4] t)).alloc (.cells #[v0, v1, v2, v3, v4] t)) w') :
    Up w w' ∧ Box w' w.heap.size x0 x1 x2 x3 x4 ∧ Box w' (w.heap.size + 1) y0 y1 y2 y3 y4 ∧ Box w' (w.heap.size + 1 + 1) z0 z1 z2 z3 z4 ∧ Box w' (w.heap.size + 1 + 1 + 1) v0 v1 v2 v3 v4 := by
  have a1 : Up _ w' := ((Up.refl _).alloc _).trans h
  have a2 : Up _ w' := ((Up.refl _).alloc _).trans a1
  have a3 : Up _ w' := ((Up.refl _).alloc _).trans a2
  have a4 : Up _ w' := ((Up.refl _).alloc _).trans a3
  have b1 := (Box.new w x0 x1 x2 x3 x4 t).up a3
  have b2 := (Box.new (w.alloc (.cells #[x0, x1, x2, x3, x4] t)) y0 y1 y2 y3 y4 t).up a2
  have b3 := (Box.new ((w.alloc (.cells #[x0, x1, x2, x3, x4] t)).alloc (.cells #[y0, y1, y2, y3, y4] t)) z0 z1 z2 z3 z4 t).up a1
  have b4 := (Box.new (((w.alloc (.cells #[x0, x1, x2, x3, x4] t)).alloc (.cells #[y0, y1, y2, y3, y4] t)).alloc (.cells #[z0, z1, z2, z3, z4] t)) v0 v1 v2 v3 v4 t).up h
  simp only [World.size_alloc] at b2 b3 b4
  exact ⟨a4, b1, b2, b3, b4⟩

set_option maxHeartbeats 2000000 in
theorem fi_no (op0 rd0 ra0 rb0 im0 op1 rd1 ra1 rb1 im1 : Int) (i1 : -2147483648 ≤ im0) (i2 : im0 < 2147483648) (j1 : -2147483648 ≤ im1) (j2 : im1 < 2147483648) (W : World) (T : Tabs W) (k0 : M.ok op0 rd0 ra0 rb0 im0 = false) :
    Calls Tryd.prog 7 #[.agg #[.int .i64 op0, .int .i64 rd0, .int .i64 ra0, .int .i64 rb0, .int .i32 im0], .agg #[.int .i64 op1, .int .i64 rd1, .int .i64 ra1, .int .i64 rb1, .int .i32 im1]] W fun e W' => e = .returned (.bool true) ∧ Up W W' := by
  go_enter Tryd.func7, Tryd.ntmps7
  go_wp2_with fail
  have u0 : Up W _ := ((Up.refl W).alloc #[.int .i64 op0, .int .i64 rd0, .int .i64 ra0, .int .i64 rb0, .int .i32 im0] (t := 23)).alloc #[.int .i64 op1, .int .i64 rd1, .int .i64 ra1, .int .i64 rb1, .int .i32 im1] (t := 23)
  refine (awake _ (T.up u0)).mono ?_
  rintro e w1 ⟨rfl, up1⟩
  have u1 := u0.trans up1
  have bi1 := ((Box.new W (.int .i64 op0) (.int .i64 rd0) (.int .i64 ra0) (.int .i64 rb0) (.int .i32 im0) 23).up ((Up.refl _).alloc _)).up up1
  have bj1 := (Box.new2 _ _ _ _ _ _ _ _).up up1
  obtain ⟨c0, c1, c2, c3, c4, c5⟩ := bi1.open
  obtain ⟨d0, d1, d2, d3, d4, d5⟩ := bj1.open
  go_wp2_with fail
  refine (may _ _ _ _ _ _ (by omega) (by omega)).mono ?_
  rintro e w2 ⟨rfl, up2⟩
  have u2 := u1.trans up2
  have bi2 := bi1.up up2
  have bj2 := bj1.up up2
  clear c0 c1 c2 c3 c4 c5 d0 d1 d2 d3 d4 d5 bi1 bj1
  obtain ⟨c0, c1, c2, c3, c4, c5⟩ := bi2.open
  obtain ⟨d0, d1, d2, d3, d4, d5⟩ := bj2.open
  go_wp2_with fail
  refine (awake _ (T.up u2)).mono ?_
  rintro e w9 ⟨rfl, up9⟩
  go_wp2
  go_ret
  exact ⟨rfl, u2.trans up9⟩

set_option maxHeartbeats 2000000 in
theorem fi_yes_no (op0 rd0 ra0 rb0 im0 op1 rd1 ra1 rb1 im1 : Int) (i1 : -2147483648 ≤ im0) (i2 : im0 < 2147483648) (j1 : -2147483648 ≤ im1) (j2 : im1 < 2147483648) (W : World) (T : Tabs W) (k0 : M.ok op0 rd0 ra0 rb0 im0 = true) (k1 : M.ok op1 rd1 ra1 rb1 im1 = false) :
    Calls Tryd.prog 7 #[.agg #[.int .i64 op0, .int .i64 rd0, .int .i64 ra0, .int .i64 rb0, .int .i32 im0], .agg #[.int .i64 op1, .int .i64 rd1, .int .i64 ra1, .int .i64 rb1, .int .i32 im1]] W fun e W' => e = .returned (.bool true) ∧ Up W W' := by
  go_enter Tryd.func7, Tryd.ntmps7
  go_wp2_with fail
  have u0 : Up W _ := ((Up.refl W).alloc #[.int .i64 op0, .int .i64 rd0, .int .i64 ra0, .int .i64 rb0, .int .i32 im0] (t := 23)).alloc #[.int .i64 op1, .int .i64 rd1, .int .i64 ra1, .int .i64 rb1, .int .i32 im1] (t := 23)
  refine (awake _ (T.up u0)).mono ?_
  rintro e w1 ⟨rfl, up1⟩
  have u1 := u0.trans up1
  have bi1 := ((Box.new W (.int .i64 op0) (.int .i64 rd0) (.int .i64 ra0) (.int .i64 rb0) (.int .i32 im0) 23).up ((Up.refl _).alloc _)).up up1
  have bj1 := (Box.new2 _ _ _ _ _ _ _ _).up up1
  obtain ⟨c0, c1, c2, c3, c4, c5⟩ := bi1.open
  obtain ⟨d0, d1, d2, d3, d4, d5⟩ := bj1.open
  go_wp2_with fail
  refine (may _ _ _ _ _ _ (by omega) (by omega)).mono ?_
  rintro e w2 ⟨rfl, up2⟩
  have u2 := u1.trans up2
  have bi2 := bi1.up up2
  have bj2 := bj1.up up2
  clear c0 c1 c2 c3 c4 c5 d0 d1 d2 d3 d4 d5 bi1 bj1
  obtain ⟨c0, c1, c2, c3, c4, c5⟩ := bi2.open
  obtain ⟨d0, d1, d2, d3, d4, d5⟩ := bj2.open
  go_wp2_with fail
  refine (may _ _ _ _ _ _ (by omega) (by omega)).mono ?_
  rintro e w3 ⟨rfl, up3⟩
  have u3 := u2.trans up3
  have bi3 := bi2.up up3
  have bj3 := bj2.up up3
  clear c0 c1 c2 c3 c4 c5 d0 d1 d2 d3 d4 d5 bi2 bj2
  obtain ⟨c0, c1, c2, c3, c4, c5⟩ := bi3.open
  obtain ⟨d0, d1, d2, d3, d4, d5⟩ := bj3.open
  go_wp2_with fail
  refine (awake _ (T.up u3)).mono ?_
  rintro e w9 ⟨rfl, up9⟩
  go_wp2
  go_ret
  exact ⟨rfl, u3.trans up9⟩

set_option maxHeartbeats 2000000 in
theorem fi_ne (op0 rd0 ra0 rb0 im0 op1 rd1 ra1 rb1 im1 : Int) (i1 : -2147483648 ≤ im0) (i2 : im0 < 2147483648) (j1 : -2147483648 ≤ im1) (j2 : im1 < 2147483648) (W : World) (T : Tabs W) (k0 : M.ok op0 rd0 ra0 rb0 im0 = true) (k1 : M.ok op1 rd1 ra1 rb1 im1 = true) (p0 : (op0 != op1) = true) :
    Calls Tryd.prog 7 #[.agg #[.int .i64 op0, .int .i64 rd0, .int .i64 ra0, .int .i64 rb0, .int .i32 im0], .agg #[.int .i64 op1, .int .i64 rd1, .int .i64 ra1, .int .i64 rb1, .int .i32 im1]] W fun e W' => e = .returned (.bool true) ∧ Up W W' := by
  go_enter Tryd.func7, Tryd.ntmps7
  go_wp2_with fail
  have u0 : Up W _ := ((Up.refl W).alloc #[.int .i64 op0, .int .i64 rd0, .int .i64 ra0, .int .i64 rb0, .int .i32 im0] (t := 23)).alloc #[.int .i64 op1, .int .i64 rd1, .int .i64 ra1, .int .i64 rb1, .int .i32 im1] (t := 23)
  refine (awake _ (T.up u0)).mono ?_
  rintro e w1 ⟨rfl, up1⟩
  have u1 := u0.trans up1
  have bi1 := ((Box.new W (.int .i64 op0) (.int .i64 rd0) (.int .i64 ra0) (.int .i64 rb0) (.int .i32 im0) 23).up ((Up.refl _).alloc _)).up up1
  have bj1 := (Box.new2 _ _ _ _ _ _ _ _).up up1
  obtain ⟨c0, c1, c2, c3, c4, c5⟩ := bi1.open
  obtain ⟨d0, d1, d2, d3, d4, d5⟩ := bj1.open
  go_wp2_with fail
  refine (may _ _ _ _ _ _ (by omega) (by omega)).mono ?_
  rintro e w2 ⟨rfl, up2⟩
  have u2 := u1.trans up2
  have bi2 := bi1.up up2
  have bj2 := bj1.up up2
  clear c0 c1 c2 c3 c4 c5 d0 d1 d2 d3 d4 d5 bi1 bj1
  obtain ⟨c0, c1, c2, c3, c4, c5⟩ := bi2.open
  obtain ⟨d0, d1, d2, d3, d4, d5⟩ := bj2.open
  go_wp2_with fail
  refine (may _ _ _ _ _ _ (by omega) (by omega)).mono ?_
  rintro e w3 ⟨rfl, up3⟩
  have u3 := u2.trans up3
  have bi3 := bi2.up up3
  have bj3 := bj2.up up3
  clear c0 c1 c2 c3 c4 c5 d0 d1 d2 d3 d4 d5 bi2 bj2
  obtain ⟨c0, c1, c2, c3, c4, c5⟩ := bi3.open
  obtain ⟨d0, d1, d2, d3, d4, d5⟩ := bj3.open
  go_wp2_with fail
  refine (awake _ (T.up u3)).mono ?_
  rintro e w9 ⟨rfl, up9⟩
  go_wp2
  go_ret
  exact ⟨rfl, u3.trans up9⟩

set_option maxHeartbeats 2000000 in
theorem fi_full (op0 rd0 ra0 rb0 im0 rd1 ra1 rb1 im1 : Int) (i1 : -2147483648 ≤ im0) (i2 : im0 < 2147483648) (j1 : -2147483648 ≤ im1) (j2 : im1 < 2147483648) (W : World) (T : Tabs W) (k0 : M.ok op0 rd0 ra0 rb0 im0 = true) (k1 : M.ok op0 rd1 ra1 rb1 im1 = true) :
    Calls Tryd.prog 7 #[.agg #[.int .i64 op0, .int .i64 rd0, .int .i64 ra0, .int .i64 rb0, .int .i32 im0], .agg #[.int .i64 op0, .int .i64 rd1, .int .i64 ra1, .int .i64 rb1, .int .i32 im1]] W fun e W' => e = .returned (.bool true) ∧ Up W W' := by
  obtain ⟨q1, q2, q3, q4⟩ := swaps _ _ _ _ _ _ _ _ _ k0 k1
  obtain ⟨e1, e2⟩ := sums _ _ _ _ _ _ _ _ _ k0 k1
  obtain ⟨ra1', ra2', ra3', ra4'⟩ := enc_small _ _ _ _ _ k0
  obtain ⟨rb1', rb2', _, _⟩ := enc_small _ _ _ _ _ k1
  obtain ⟨rc1', rc2', _, _⟩ := enc_small _ _ _ _ _ q1
  obtain ⟨rd1', rd2', _, _⟩ := enc_small _ _ _ _ _ q2
  obtain ⟨re1', re2', _, _⟩ := enc_small _ _ _ _ _ q3
  obtain ⟨rf1', rf2', _, _⟩ := enc_small _ _ _ _ _ q4
  obtain ⟨⟨o1, o2⟩, _⟩ := M.ok_rng _ _ _ _ _ k0
  have t1 : (enc op0 rd0 ra0 rb0 im0 / 67108864 == op0) = true := by rw [beq_iff_eq]; omega
  have t2 : (enc op0 rd0 ra0 rb0 im0 % 67108864 == enc op0 rd0 ra0 rb0 im0 - op0 * 67108864) = true := by rw [beq_iff_eq]; omega
  go_enter Tryd.func7, Tryd.ntmps7
  go_wp2_with fail
  have u0 : Up W _ := ((Up.refl W).alloc #[.int .i64 op0, .int .i64 rd0, .int .i64 ra0, .int .i64 rb0, .int .i32 im0] (t := 23)).alloc #[.int .i64 op0, .int .i64 rd1, .int .i64 ra1, .int .i64 rb1, .int .i32 im1] (t := 23)
  refine (awake _ (T.up u0)).mono ?_
  rintro e w1 ⟨rfl, up1⟩
  have u1 := u0.trans up1
  have bi1 := ((Box.new W (.int .i64 op0) (.int .i64 rd0) (.int .i64 ra0) (.int .i64 rb0) (.int .i32 im0) 23).up ((Up.refl _).alloc _)).up up1
  have bj1 := (Box.new2 _ _ _ _ _ _ _ _).up up1
  obtain ⟨c0, c1, c2, c3, c4, c5⟩ := bi1.open
  obtain ⟨d0, d1, d2, d3, d4, d5⟩ := bj1.open
  go_wp2_with fail
  refine (may _ _ _ _ _ _ (by omega) (by omega)).mono ?_
  rintro e w2 ⟨rfl, up2⟩
  have u2 := u1.trans up2
  have bi2 := bi1.up up2
  have bj2 := bj1.up up2
  clear c0 c1 c2 c3 c4 c5 d0 d1 d2 d3 d4 d5 bi1 bj1
  obtain ⟨c0, c1, c2, c3, c4, c5⟩ := bi2.open
  obtain ⟨d0, d1, d2, d3, d4, d5⟩ := bj2.open
  go_wp2_with fail
  refine (may _ _ _ _ _ _ (by omega) (by omega)).mono ?_
  rintro e w3 ⟨rfl, up3⟩
  have u3 := u2.trans up3
  have bi3 := bi2.up up3
  have bj3 := bj2.up up3
  clear c0 c1 c2 c3 c4 c5 d0 d1 d2 d3 d4 d5 bi2 bj2
  obtain ⟨c0, c1, c2, c3, c4, c5⟩ := bi3.open
  obtain ⟨d0, d1, d2, d3, d4, d5⟩ := bj3.open
  have n0 : W.heap.size < w3.heap.size + 1 := by omega
  have n1 : W.heap.size < w3.heap.size + 1 + 1 := by omega
  have n2 : W.heap.size < w3.heap.size + 1 + 1 + 1 := by omega
  have n4 : W.heap.size + 1 < w3.heap.size + 1 := by omega
  have n5 : W.heap.size + 1 < w3.heap.size + 1 + 1 := by omega
  have n6 : W.heap.size + 1 < w3.heap.size + 1 + 1 + 1 := by omega
  go_wp2_with fail
  refine (encode _ _ _ _ _ _ (T.up ((((u3.alloc _).alloc _).alloc _).alloc _)) (by omega) (by omega)).mono ?_
  rintro e w4 ⟨rfl, up4⟩
  obtain ⟨v4, bx4, by4, bu4, bv4⟩ := four_up up4
  have u4 := u3.trans v4
  have bi4 := bi3.up v4
  have bj4 := bj3.up v4
  clear c0 c1 c2 c3 c4 c5 d0 d1 d2 d3 d4 d5 bi3 bj3 n0 n1 n2 n4 n5 n6
  obtain ⟨d0, d1, d2, d3, d4, d5⟩ := bj4.open
  go_wp2_with fail
  refine (encode _ _ _ _ _ _ (T.up u4) (by omega) (by omega)).mono ?_
  rintro e w5 ⟨rfl, up5⟩
  have u5 := u4.trans up5
  have bi5 := bi4.up up5
  have bx5 := bx4.up up5
  have by5 := by4.up up5
  have bu5 := bu4.up up5
  have bv5 := bv4.up up5
  clear d0 d1 d2 d3 d4 d5
  obtain ⟨d0, d1, d2, d3, d4, d5⟩ := bx5.open
  go_wp2_with fail
  refine (encode _ _ _ _ _ _ (T.up u5) (by omega) (by omega)).mono ?_
  rintro e w6 ⟨rfl, up6⟩
  have u6 := u5.trans up6
  have bi6 := bi5.up up6
  have by6 := by5.up up6
  have bu6 := bu5.up up6
  have bv6 := bv5.up up6
  clear d0 d1 d2 d3 d4 d5
  obtain ⟨d0, d1, d2, d3, d4, d5⟩ := by6.open
  go_wp2_with fail
  refine (encode _ _ _ _ _ _ (T.up u6) (by omega) (by omega)).mono ?_
  rintro e w7 ⟨rfl, up7⟩
  have u7 := u6.trans up7
  have bi7 := bi6.up up7
  have bu7 := bu6.up up7
  have bv7 := bv6.up up7
  clear d0 d1 d2 d3 d4 d5
  obtain ⟨d0, d1, d2, d3, d4, d5⟩ := bu7.open
  go_wp2_with fail
  refine (encode _ _ _ _ _ _ (T.up u7) (by omega) (by omega)).mono ?_
  rintro e w8 ⟨rfl, up8⟩
  have u8 := u7.trans up8
  have bi8 := bi7.up up8
  have bv8 := bv7.up up8
  clear d0 d1 d2 d3 d4 d5
  obtain ⟨d0, d1, d2, d3, d4, d5⟩ := bv8.open
  go_wp2_with fail
  refine (encode _ _ _ _ _ _ (T.up u8) (by omega) (by omega)).mono ?_
  rintro e w9 ⟨rfl, up9⟩
  have u9 := u8.trans up9
  have bi9 := bi8.up up9
  clear d0 d1 d2 d3 d4 d5
  obtain ⟨d0, d1, d2, d3, d4, d5⟩ := bi9.open
  go_wp2
  go_ret
  exact ⟨rfl, u9⟩


theorem fi (op0 rd0 ra0 rb0 im0 op1 rd1 ra1 rb1 im1 : Int) (i1 : -2147483648 ≤ im0) (i2 : im0 < 2147483648) (j1 : -2147483648 ≤ im1) (j2 : im1 < 2147483648) (W : World) (T : Tabs W) :
    Calls Tryd.prog 7 #[.agg #[.int .i64 op0, .int .i64 rd0, .int .i64 ra0, .int .i64 rb0, .int .i32 im0], .agg #[.int .i64 op1, .int .i64 rd1, .int .i64 ra1, .int .i64 rb1, .int .i32 im1]] W fun e W' => e = .returned (.bool true) ∧ Up W W' := by
  cases k0 : M.ok op0 rd0 ra0 rb0 im0
  · exact fi_no op0 rd0 ra0 rb0 im0 op1 rd1 ra1 rb1 im1 i1 i2 j1 j2 W T k0
  cases k1 : M.ok op1 rd1 ra1 rb1 im1
  · exact fi_yes_no op0 rd0 ra0 rb0 im0 op1 rd1 ra1 rb1 im1 i1 i2 j1 j2 W T k0 k1
  by_cases p0 : op0 = op1
  · subst p0
    exact fi_full op0 rd0 ra0 rb0 im0 rd1 ra1 rb1 im1 i1 i2 j1 j2 W T k0 k1
  · exact fi_ne op0 rd0 ra0 rb0 im0 op1 rd1 ra1 rb1 im1 i1 i2 j1 j2 W T k0 k1 (by simpa using p0)

end Go.Proofs.YtfhgenoecpnkbaaDoor
