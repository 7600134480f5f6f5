/-
  The law AsmParseFormat walked, case by case. Conditions: the package variables hold what the program's text lays there, and those that part the cases.
-/
import Derived.Test.YtokhipjpppfkgaaGreatDoorAsmAwake
namespace Go.Proofs.YtokhipjpppfkgaaGreatDoor
open Go.ChangeShapes Go.WideShapes Go.ChangeAt Go.RowKit Go.Sort
set_option linter.unusedVariables false

theorem parse_any (s : List UInt8) (W : World) (E : Env W) (hs : s.length ≤ 100000) :
    Calls Tryz.prog 11 #[.string ⟨s.toArray⟩] W fun e W' => ((∃ op rd ra rb imm, M.ok op rd ra rb imm = true ∧ M.text op rd ra rb imm = s ∧ e = .returned (.tuple #[.agg #[.int .i64 op, .int .i64 rd, .int .i64 ra, .int .i64 rb, .int .i32 imm], .int .i64 0])) ∨
      e = .returned (.tuple #[.agg #[.int .i64 0, .int .i64 0, .int .i64 0, .int .i64 0, .int .i32 0], .int .i64 2])) ∧ Dn W W' := by
  by_cases h : ∃ op rd ra rb imm, M.ok op rd ra rb imm = true ∧ M.text op rd ra rb imm = s
  · obtain ⟨op, rd, ra, rb, imm, hk, rfl⟩ := h
    exact (parse_yes op rd ra rb imm W E hk).mono fun e W' ⟨he, dn⟩ => ⟨.inl ⟨op, rd, ra, rb, imm, hk, rfl, he⟩, dn⟩
  · exact (parse_no s W E hs (fun op rd ra rb imm hk e => h ⟨op, rd, ra, rb, imm, hk, e⟩)).mono fun e W' ⟨he, dn⟩ => ⟨.inr he, dn⟩

set_option maxRecDepth 100000 in
set_option maxHeartbeats 2000000 in
theorem pf_long (op0 rd0 ra0 rb0 im0 op1 rd1 ra1 rb1 im1 : Int) (s : List UInt8) (hm : s.length ≤ 9223372036854775807) (hs : ¬ s.length ≤ 200) (W : World) (E : Env W) :
    Calls Tryz.prog 5 #[.agg #[.int .i64 op0, .int .i64 rd0, .int .i64 ra0, .int .i64 rb0, .int .i32 im0], .agg #[.int .i64 op1, .int .i64 rd1, .int .i64 ra1, .int .i64 rb1, .int .i32 im1], .string ⟨s.toArray⟩] W fun e W' => e = .returned (.bool true) ∧ Dn W W' := by
  have hs2 : (200 : Int) < s.length := by omega
  go_enter Tryz.func5, Tryz.ntmps5
  go_wp2_with fail
  refine (awake _ (E.dn (((Dn.refl _).alloc _).alloc _))).mono ?_
  rintro e w1 ⟨rfl, dn1⟩
  have k1 := (((Dn.refl W).alloc _).alloc _).trans dn1
  go_wp2_with fail
  refine (awake _ (E.dn k1)).mono ?_
  rintro e w2 ⟨rfl, dn2⟩
  go_wp2
  go_ret
  exact ⟨rfl, k1.trans dn2⟩

set_option maxRecDepth 100000 in
set_option maxHeartbeats 2000000 in
theorem pf_no (op0 rd0 ra0 rb0 im0 op1 rd1 ra1 rb1 im1 : Int) (i1 : -2147483648 ≤ im0) (i2 : im0 < 2147483648) (j1 : -2147483648 ≤ im1) (j2 : im1 < 2147483648) (s : List UInt8) (hs : s.length ≤ 200) (W : World) (E : Env W) (h0 : M.ok op0 rd0 ra0 rb0 im0 = false) :
    Calls Tryz.prog 5 #[.agg #[.int .i64 op0, .int .i64 rd0, .int .i64 ra0, .int .i64 rb0, .int .i32 im0], .agg #[.int .i64 op1, .int .i64 rd1, .int .i64 ra1, .int .i64 rb1, .int .i32 im1], .string ⟨s.toArray⟩] W fun e W' => e = .returned (.bool true) ∧ Dn W W' := by
  have hs2 : (s.length : Int) ≤ 200 := by omega
  go_enter Tryz.func5, Tryz.ntmps5
  go_wp2_with fail
  refine (awake _ (E.dn (((Dn.refl _).alloc _).alloc _))).mono ?_
  rintro e w1 ⟨rfl, dn1⟩
  have k1 := (((Dn.refl W).alloc _).alloc _).trans dn1
  have bi1 := ((Box.new W (.int .i64 op0) (.int .i64 rd0) (.int .i64 ra0) (.int .i64 rb0) (.int .i32 im0) 23).dn ((Dn.refl _).alloc _)).dn dn1
  have bj1 := (Box.new2 _ _ _ _ _ _ _ _).dn dn1
  obtain ⟨c0, c1, c2, c3, c4, c5⟩ := bi1.open
  obtain ⟨d0, d1, d2, d3, d4, d5⟩ := bj1.open
  go_wp2_with fail
  refine (format_no _ _ _ _ _ _ (E.dn k1) h0 i1 i2).mono ?_
  rintro e w2 ⟨rfl, dn2⟩
  have k2 := k1.trans dn2
  have bi2 := bi1.dn dn2
  have bj2 := bj1.dn dn2
  clear c0 c1 c2 c3 c4 c5 d0 d1 d2 d3 d4 d5 bi1 bj1
  obtain ⟨c0, c1, c2, c3, c4, c5⟩ := bi2.open
  obtain ⟨d0, d1, d2, d3, d4, d5⟩ := bj2.open
  go_wp2_with fail
  refine (format _ _ _ _ _ _ (E.dn k2) j1 j2).mono ?_
  rintro e w3 ⟨rfl, dn3⟩
  have k3 := k2.trans dn3
  have bi3 := bi2.dn dn3
  have bj3 := bj2.dn dn3
  clear c0 c1 c2 c3 c4 c5 d0 d1 d2 d3 d4 d5 bi2 bj2
  obtain ⟨c0, c1, c2, c3, c4, c5⟩ := bi3.open
  obtain ⟨d0, d1, d2, d3, d4, d5⟩ := bj3.open
  go_wp2_with fail
  refine (may _ _ _ _ _ _ i1 i2).mono ?_
  rintro e w4 ⟨rfl, up4⟩
  have k4 := k3.trans up4.dn
  have bi4 := bi3.dn up4.dn
  have bj4 := bj3.dn up4.dn
  clear c0 c1 c2 c3 c4 c5 d0 d1 d2 d3 d4 d5 bi3 bj3
  obtain ⟨c0, c1, c2, c3, c4, c5⟩ := bi4.open
  obtain ⟨d0, d1, d2, d3, d4, d5⟩ := bj4.open
  go_wp2_with fail
  clear c0 c1 c2 c3 c4 c5 d0 d1 d2 d3 d4 d5 bi4 bj4
  refine (parse_any s _ (E.dn k4) (by omega)).mono ?_
  rintro e w8 ⟨⟨op, rd, ra, rb, im, hk, ht, rfl⟩ | rfl, dn8⟩
  · have k8 := k4.trans dn8
    have ht2 : (M.text op rd ra rb im == s) = true := beq_iff_eq.2 ht
    clear ht
    go_wp2_with fail
    refine (format_ok _ _ _ _ _ _ (E.dn (k8.alloc _)) hk).mono ?_
    rintro e w9 ⟨rfl, dn9⟩
    go_wp2
    go_ret
    exact ⟨rfl, (k8.alloc _).trans dn9⟩
  · have k8 := k4.trans dn8
    go_wp2_with fail
    refine (format_no 0 0 0 0 0 _ (E.dn (k8.alloc _)) f4 (by decide) (by decide)).mono ?_
    rintro e w9 ⟨rfl, dn9⟩
    have b9 := (Box.new w8 (.int .i64 0) (.int .i64 0) (.int .i64 0) (.int .i64 0) (.int .i32 0) 23).dn dn9
    obtain ⟨q0, q1, q2, q3, q4, q5⟩ := b9.open
    go_wp2
    go_ret
    exact ⟨rfl, (k8.alloc _).trans dn9⟩

set_option maxRecDepth 100000 in
set_option maxHeartbeats 2000000 in
theorem pf_yes_no (op0 rd0 ra0 rb0 im0 op1 rd1 ra1 rb1 im1 : Int) (i1 : -2147483648 ≤ im0) (i2 : im0 < 2147483648) (j1 : -2147483648 ≤ im1) (j2 : im1 < 2147483648) (s : List UInt8) (hs : s.length ≤ 200) (W : World) (E : Env W) (h0 : M.ok op0 rd0 ra0 rb0 im0 = true) (h1 : M.ok op1 rd1 ra1 rb1 im1 = false) :
    Calls Tryz.prog 5 #[.agg #[.int .i64 op0, .int .i64 rd0, .int .i64 ra0, .int .i64 rb0, .int .i32 im0], .agg #[.int .i64 op1, .int .i64 rd1, .int .i64 ra1, .int .i64 rb1, .int .i32 im1], .string ⟨s.toArray⟩] W fun e W' => e = .returned (.bool true) ∧ Dn W W' := by
  have hs2 : (s.length : Int) ≤ 200 := by omega
  go_enter Tryz.func5, Tryz.ntmps5
  go_wp2_with fail
  refine (awake _ (E.dn (((Dn.refl _).alloc _).alloc _))).mono ?_
  rintro e w1 ⟨rfl, dn1⟩
  have k1 := (((Dn.refl W).alloc _).alloc _).trans dn1
  have bi1 := ((Box.new W (.int .i64 op0) (.int .i64 rd0) (.int .i64 ra0) (.int .i64 rb0) (.int .i32 im0) 23).dn ((Dn.refl _).alloc _)).dn dn1
  have bj1 := (Box.new2 _ _ _ _ _ _ _ _).dn dn1
  obtain ⟨c0, c1, c2, c3, c4, c5⟩ := bi1.open
  obtain ⟨d0, d1, d2, d3, d4, d5⟩ := bj1.open
  go_wp2_with fail
  refine (format_ok _ _ _ _ _ _ (E.dn k1) h0).mono ?_
  rintro e w2 ⟨rfl, dn2⟩
  have k2 := k1.trans dn2
  have bi2 := bi1.dn dn2
  have bj2 := bj1.dn dn2
  clear c0 c1 c2 c3 c4 c5 d0 d1 d2 d3 d4 d5 bi1 bj1
  obtain ⟨c0, c1, c2, c3, c4, c5⟩ := bi2.open
  obtain ⟨d0, d1, d2, d3, d4, d5⟩ := bj2.open
  go_wp2_with fail
  refine (format_no _ _ _ _ _ _ (E.dn k2) h1 j1 j2).mono ?_
  rintro e w3 ⟨rfl, dn3⟩
  have k3 := k2.trans dn3
  have bi3 := bi2.dn dn3
  have bj3 := bj2.dn dn3
  clear c0 c1 c2 c3 c4 c5 d0 d1 d2 d3 d4 d5 bi2 bj2
  obtain ⟨c0, c1, c2, c3, c4, c5⟩ := bi3.open
  obtain ⟨d0, d1, d2, d3, d4, d5⟩ := bj3.open
  go_wp2_with fail
  refine (may _ _ _ _ _ _ i1 i2).mono ?_
  rintro e w4 ⟨rfl, up4⟩
  have k4 := k3.trans up4.dn
  have bi4 := bi3.dn up4.dn
  have bj4 := bj3.dn up4.dn
  clear c0 c1 c2 c3 c4 c5 d0 d1 d2 d3 d4 d5 bi3 bj3
  obtain ⟨c0, c1, c2, c3, c4, c5⟩ := bi4.open
  obtain ⟨d0, d1, d2, d3, d4, d5⟩ := bj4.open
  go_wp2_with fail
  refine (parse_yes _ _ _ _ _ _ (E.dn k4) h0).mono ?_
  rintro e w5 ⟨rfl, dn5⟩
  have k5 := k4.trans dn5
  have bi5 := (bi4.dn dn5).dn ((Dn.refl _).alloc (Obj.cells #[Value.int IntKind.i64 op0, Value.int IntKind.i64 rd0, Value.int IntKind.i64 ra0, Value.int IntKind.i64 rb0, Value.int IntKind.i32 im0] 23))
  clear c0 c1 c2 c3 c4 c5 d0 d1 d2 d3 d4 d5 bi4 bj4
  have bk5 := Box.new w5 (.int .i64 op0) (.int .i64 rd0) (.int .i64 ra0) (.int .i64 rb0) (.int .i32 im0) 23
  obtain ⟨c0, c1, c2, c3, c4, c5⟩ := bi5.open
  obtain ⟨d0, d1, d2, d3, d4, d5⟩ := bk5.open
  have k6 := k5.alloc (Obj.cells #[Value.int IntKind.i64 op0, Value.int IntKind.i64 rd0, Value.int IntKind.i64 ra0, Value.int IntKind.i64 rb0, Value.int IntKind.i32 im0] 23)
  go_wp2_with fail
  refine (parse_any s _ (E.dn k6) (by omega)).mono ?_
  clear c0 c1 c2 c3 c4 c5 d0 d1 d2 d3 d4 d5 bi5 bk5
  rintro e w8 ⟨⟨op, rd, ra, rb, im, hk, ht, rfl⟩ | rfl, dn8⟩
  · have k8 := k6.trans dn8
    have ht2 : (M.text op rd ra rb im == s) = true := beq_iff_eq.2 ht
    clear ht
    go_wp2_with fail
    refine (format_ok _ _ _ _ _ _ (E.dn (k8.alloc _)) hk).mono ?_
    rintro e w9 ⟨rfl, dn9⟩
    go_wp2
    go_ret
    exact ⟨rfl, (k8.alloc _).trans dn9⟩
  · have k8 := k6.trans dn8
    go_wp2_with fail
    refine (format_no 0 0 0 0 0 _ (E.dn (k8.alloc _)) f4 (by decide) (by decide)).mono ?_
    rintro e w9 ⟨rfl, dn9⟩
    have b9 := (Box.new w8 (.int .i64 0) (.int .i64 0) (.int .i64 0) (.int .i64 0) (.int .i32 0) 23).dn dn9
    obtain ⟨q0, q1, q2, q3, q4, q5⟩ := b9.open
    go_wp2
    go_ret
    exact ⟨rfl, (k8.alloc _).trans dn9⟩

set_option maxRecDepth 100000 in
set_option maxHeartbeats 2000000 in
theorem pf_same (op0 rd0 ra0 rb0 im0 : Int) (i1 : -2147483648 ≤ im0) (i2 : im0 < 2147483648) (s : List UInt8) (hs : s.length ≤ 200) (W : World) (E : Env W) (h0 : M.ok op0 rd0 ra0 rb0 im0 = true) :
    Calls Tryz.prog 5 #[.agg #[.int .i64 op0, .int .i64 rd0, .int .i64 ra0, .int .i64 rb0, .int .i32 im0], .agg #[.int .i64 op0, .int .i64 rd0, .int .i64 ra0, .int .i64 rb0, .int .i32 im0], .string ⟨s.toArray⟩] W fun e W' => e = .returned (.bool true) ∧ Dn W W' := by
  have hs2 : (s.length : Int) ≤ 200 := by omega
  go_enter Tryz.func5, Tryz.ntmps5
  go_wp2_with fail
  refine (awake _ (E.dn (((Dn.refl _).alloc _).alloc _))).mono ?_
  rintro e w1 ⟨rfl, dn1⟩
  have k1 := (((Dn.refl W).alloc _).alloc _).trans dn1
  have bi1 := ((Box.new W (.int .i64 op0) (.int .i64 rd0) (.int .i64 ra0) (.int .i64 rb0) (.int .i32 im0) 23).dn ((Dn.refl _).alloc _)).dn dn1
  have bj1 := (Box.new2 _ _ _ _ _ _ _ _).dn dn1
  obtain ⟨c0, c1, c2, c3, c4, c5⟩ := bi1.open
  obtain ⟨d0, d1, d2, d3, d4, d5⟩ := bj1.open
  go_wp2_with fail
  refine (format_ok _ _ _ _ _ _ (E.dn k1) h0).mono ?_
  rintro e w2 ⟨rfl, dn2⟩
  have k2 := k1.trans dn2
  have bi2 := bi1.dn dn2
  have bj2 := bj1.dn dn2
  clear c0 c1 c2 c3 c4 c5 d0 d1 d2 d3 d4 d5 bi1 bj1
  obtain ⟨c0, c1, c2, c3, c4, c5⟩ := bi2.open
  obtain ⟨d0, d1, d2, d3, d4, d5⟩ := bj2.open
  go_wp2_with fail
  refine (format_ok _ _ _ _ _ _ (E.dn k2) h0).mono ?_
  rintro e w3 ⟨rfl, dn3⟩
  have k3 := k2.trans dn3
  have bi3 := bi2.dn dn3
  have bj3 := bj2.dn dn3
  clear c0 c1 c2 c3 c4 c5 d0 d1 d2 d3 d4 d5 bi2 bj2
  obtain ⟨c0, c1, c2, c3, c4, c5⟩ := bi3.open
  obtain ⟨d0, d1, d2, d3, d4, d5⟩ := bj3.open
  go_wp2_with fail
  refine (may _ _ _ _ _ _ i1 i2).mono ?_
  rintro e w4 ⟨rfl, up4⟩
  have k4 := k3.trans up4.dn
  have bi4 := bi3.dn up4.dn
  have bj4 := bj3.dn up4.dn
  clear c0 c1 c2 c3 c4 c5 d0 d1 d2 d3 d4 d5 bi3 bj3
  obtain ⟨c0, c1, c2, c3, c4, c5⟩ := bi4.open
  obtain ⟨d0, d1, d2, d3, d4, d5⟩ := bj4.open
  go_wp2_with fail
  refine (parse_yes _ _ _ _ _ _ (E.dn k4) h0).mono ?_
  rintro e w5 ⟨rfl, dn5⟩
  have k5 := k4.trans dn5
  have bi5 := (bi4.dn dn5).dn ((Dn.refl _).alloc (Obj.cells #[Value.int IntKind.i64 op0, Value.int IntKind.i64 rd0, Value.int IntKind.i64 ra0, Value.int IntKind.i64 rb0, Value.int IntKind.i32 im0] 23))
  clear c0 c1 c2 c3 c4 c5 d0 d1 d2 d3 d4 d5 bi4 bj4
  have bk5 := Box.new w5 (.int .i64 op0) (.int .i64 rd0) (.int .i64 ra0) (.int .i64 rb0) (.int .i32 im0) 23
  obtain ⟨c0, c1, c2, c3, c4, c5⟩ := bi5.open
  obtain ⟨d0, d1, d2, d3, d4, d5⟩ := bk5.open
  have k6 := k5.alloc (Obj.cells #[Value.int IntKind.i64 op0, Value.int IntKind.i64 rd0, Value.int IntKind.i64 ra0, Value.int IntKind.i64 rb0, Value.int IntKind.i32 im0] 23)
  go_wp2_with fail
  refine (parse_any s _ (E.dn k6) (by omega)).mono ?_
  clear c0 c1 c2 c3 c4 c5 d0 d1 d2 d3 d4 d5 bi5 bk5
  rintro e w8 ⟨⟨op, rd, ra, rb, im, hk, ht, rfl⟩ | rfl, dn8⟩
  · have k8 := k6.trans dn8
    have ht2 : (M.text op rd ra rb im == s) = true := beq_iff_eq.2 ht
    clear ht
    go_wp2_with fail
    refine (format_ok _ _ _ _ _ _ (E.dn (k8.alloc _)) hk).mono ?_
    rintro e w9 ⟨rfl, dn9⟩
    go_wp2
    go_ret
    exact ⟨rfl, (k8.alloc _).trans dn9⟩
  · have k8 := k6.trans dn8
    go_wp2_with fail
    refine (format_no 0 0 0 0 0 _ (E.dn (k8.alloc _)) f4 (by decide) (by decide)).mono ?_
    rintro e w9 ⟨rfl, dn9⟩
    have b9 := (Box.new w8 (.int .i64 0) (.int .i64 0) (.int .i64 0) (.int .i64 0) (.int .i32 0) 23).dn dn9
    obtain ⟨q0, q1, q2, q3, q4, q5⟩ := b9.open
    go_wp2
    go_ret
    exact ⟨rfl, (k8.alloc _).trans dn9⟩

set_option maxRecDepth 100000 in
set_option maxHeartbeats 2000000 in
theorem pf_ne_op (op0 rd0 ra0 rb0 im0 op1 rd1 ra1 rb1 im1 : Int) (i1 : -2147483648 ≤ im0) (i2 : im0 < 2147483648) (j1 : -2147483648 ≤ im1) (j2 : im1 < 2147483648) (s : List UInt8) (hs : s.length ≤ 200) (W : World) (E : Env W) (h0 : M.ok op0 rd0 ra0 rb0 im0 = true) (h1 : M.ok op1 rd1 ra1 rb1 im1 = true) (hne : (M.text op0 rd0 ra0 rb0 im0 == M.text op1 rd1 ra1 rb1 im1) = false) (pp : ¬ op0 = op1) :
    Calls Tryz.prog 5 #[.agg #[.int .i64 op0, .int .i64 rd0, .int .i64 ra0, .int .i64 rb0, .int .i32 im0], .agg #[.int .i64 op1, .int .i64 rd1, .int .i64 ra1, .int .i64 rb1, .int .i32 im1], .string ⟨s.toArray⟩] W fun e W' => e = .returned (.bool true) ∧ Dn W W' := by
  have hs2 : (s.length : Int) ≤ 200 := by omega
  go_enter Tryz.func5, Tryz.ntmps5
  go_wp2_with fail
  refine (awake _ (E.dn (((Dn.refl _).alloc _).alloc _))).mono ?_
  rintro e w1 ⟨rfl, dn1⟩
  have k1 := (((Dn.refl W).alloc _).alloc _).trans dn1
  have bi1 := ((Box.new W (.int .i64 op0) (.int .i64 rd0) (.int .i64 ra0) (.int .i64 rb0) (.int .i32 im0) 23).dn ((Dn.refl _).alloc _)).dn dn1
  have bj1 := (Box.new2 _ _ _ _ _ _ _ _).dn dn1
  obtain ⟨c0, c1, c2, c3, c4, c5⟩ := bi1.open
  obtain ⟨d0, d1, d2, d3, d4, d5⟩ := bj1.open
  go_wp2_with fail
  refine (format_ok _ _ _ _ _ _ (E.dn k1) h0).mono ?_
  rintro e w2 ⟨rfl, dn2⟩
  have k2 := k1.trans dn2
  have bi2 := bi1.dn dn2
  have bj2 := bj1.dn dn2
  clear c0 c1 c2 c3 c4 c5 d0 d1 d2 d3 d4 d5 bi1 bj1
  obtain ⟨c0, c1, c2, c3, c4, c5⟩ := bi2.open
  obtain ⟨d0, d1, d2, d3, d4, d5⟩ := bj2.open
  go_wp2_with fail
  refine (format_ok _ _ _ _ _ _ (E.dn k2) h1).mono ?_
  rintro e w3 ⟨rfl, dn3⟩
  have k3 := k2.trans dn3
  have bi3 := bi2.dn dn3
  have bj3 := bj2.dn dn3
  clear c0 c1 c2 c3 c4 c5 d0 d1 d2 d3 d4 d5 bi2 bj2
  obtain ⟨c0, c1, c2, c3, c4, c5⟩ := bi3.open
  obtain ⟨d0, d1, d2, d3, d4, d5⟩ := bj3.open
  go_wp2_with fail
  refine (may _ _ _ _ _ _ i1 i2).mono ?_
  rintro e w4 ⟨rfl, up4⟩
  have k4 := k3.trans up4.dn
  have bi4 := bi3.dn up4.dn
  have bj4 := bj3.dn up4.dn
  clear c0 c1 c2 c3 c4 c5 d0 d1 d2 d3 d4 d5 bi3 bj3
  obtain ⟨c0, c1, c2, c3, c4, c5⟩ := bi4.open
  obtain ⟨d0, d1, d2, d3, d4, d5⟩ := bj4.open
  go_wp2_with fail
  refine (parse_yes _ _ _ _ _ _ (E.dn k4) h0).mono ?_
  rintro e w5 ⟨rfl, dn5⟩
  have k5 := k4.trans dn5
  have bi5 := (bi4.dn dn5).dn ((Dn.refl _).alloc (Obj.cells #[Value.int IntKind.i64 op0, Value.int IntKind.i64 rd0, Value.int IntKind.i64 ra0, Value.int IntKind.i64 rb0, Value.int IntKind.i32 im0] 23))
  clear c0 c1 c2 c3 c4 c5 d0 d1 d2 d3 d4 d5 bi4 bj4
  have bk5 := Box.new w5 (.int .i64 op0) (.int .i64 rd0) (.int .i64 ra0) (.int .i64 rb0) (.int .i32 im0) 23
  obtain ⟨c0, c1, c2, c3, c4, c5⟩ := bi5.open
  obtain ⟨d0, d1, d2, d3, d4, d5⟩ := bk5.open
  have k6 := k5.alloc (Obj.cells #[Value.int IntKind.i64 op0, Value.int IntKind.i64 rd0, Value.int IntKind.i64 ra0, Value.int IntKind.i64 rb0, Value.int IntKind.i32 im0] 23)
  go_wp2_with fail
  refine (parse_any s _ (E.dn k6) (by omega)).mono ?_
  clear c0 c1 c2 c3 c4 c5 d0 d1 d2 d3 d4 d5 bi5 bk5
  rintro e w8 ⟨⟨op, rd, ra, rb, im, hk, ht, rfl⟩ | rfl, dn8⟩
  · have k8 := k6.trans dn8
    have ht2 : (M.text op rd ra rb im == s) = true := beq_iff_eq.2 ht
    clear ht
    go_wp2_with fail
    refine (format_ok _ _ _ _ _ _ (E.dn (k8.alloc _)) hk).mono ?_
    rintro e w9 ⟨rfl, dn9⟩
    go_wp2
    go_ret
    exact ⟨rfl, (k8.alloc _).trans dn9⟩
  · have k8 := k6.trans dn8
    go_wp2_with fail
    refine (format_no 0 0 0 0 0 _ (E.dn (k8.alloc _)) f4 (by decide) (by decide)).mono ?_
    rintro e w9 ⟨rfl, dn9⟩
    have b9 := (Box.new w8 (.int .i64 0) (.int .i64 0) (.int .i64 0) (.int .i64 0) (.int .i32 0) 23).dn dn9
    obtain ⟨q0, q1, q2, q3, q4, q5⟩ := b9.open
    go_wp2
    go_ret
    exact ⟨rfl, (k8.alloc _).trans dn9⟩

set_option maxRecDepth 100000 in
set_option maxHeartbeats 2000000 in
theorem pf_ne_rd (op0 rd0 ra0 rb0 im0 rd1 ra1 rb1 im1 : Int) (i1 : -2147483648 ≤ im0) (i2 : im0 < 2147483648) (j1 : -2147483648 ≤ im1) (j2 : im1 < 2147483648) (s : List UInt8) (hs : s.length ≤ 200) (W : World) (E : Env W) (h0 : M.ok op0 rd0 ra0 rb0 im0 = true) (h1 : M.ok op0 rd1 ra1 rb1 im1 = true) (hne : (M.text op0 rd0 ra0 rb0 im0 == M.text op0 rd1 ra1 rb1 im1) = false) (pp : ¬ rd0 = rd1) :
    Calls Tryz.prog 5 #[.agg #[.int .i64 op0, .int .i64 rd0, .int .i64 ra0, .int .i64 rb0, .int .i32 im0], .agg #[.int .i64 op0, .int .i64 rd1, .int .i64 ra1, .int .i64 rb1, .int .i32 im1], .string ⟨s.toArray⟩] W fun e W' => e = .returned (.bool true) ∧ Dn W W' := by
  have hs2 : (s.length : Int) ≤ 200 := by omega
  go_enter Tryz.func5, Tryz.ntmps5
  go_wp2_with fail
  refine (awake _ (E.dn (((Dn.refl _).alloc _).alloc _))).mono ?_
  rintro e w1 ⟨rfl, dn1⟩
  have k1 := (((Dn.refl W).alloc _).alloc _).trans dn1
  have bi1 := ((Box.new W (.int .i64 op0) (.int .i64 rd0) (.int .i64 ra0) (.int .i64 rb0) (.int .i32 im0) 23).dn ((Dn.refl _).alloc _)).dn dn1
  have bj1 := (Box.new2 _ _ _ _ _ _ _ _).dn dn1
  obtain ⟨c0, c1, c2, c3, c4, c5⟩ := bi1.open
  obtain ⟨d0, d1, d2, d3, d4, d5⟩ := bj1.open
  go_wp2_with fail
  refine (format_ok _ _ _ _ _ _ (E.dn k1) h0).mono ?_
  rintro e w2 ⟨rfl, dn2⟩
  have k2 := k1.trans dn2
  have bi2 := bi1.dn dn2
  have bj2 := bj1.dn dn2
  clear c0 c1 c2 c3 c4 c5 d0 d1 d2 d3 d4 d5 bi1 bj1
  obtain ⟨c0, c1, c2, c3, c4, c5⟩ := bi2.open
  obtain ⟨d0, d1, d2, d3, d4, d5⟩ := bj2.open
  go_wp2_with fail
  refine (format_ok _ _ _ _ _ _ (E.dn k2) h1).mono ?_
  rintro e w3 ⟨rfl, dn3⟩
  have k3 := k2.trans dn3
  have bi3 := bi2.dn dn3
  have bj3 := bj2.dn dn3
  clear c0 c1 c2 c3 c4 c5 d0 d1 d2 d3 d4 d5 bi2 bj2
  obtain ⟨c0, c1, c2, c3, c4, c5⟩ := bi3.open
  obtain ⟨d0, d1, d2, d3, d4, d5⟩ := bj3.open
  go_wp2_with fail
  refine (may _ _ _ _ _ _ i1 i2).mono ?_
  rintro e w4 ⟨rfl, up4⟩
  have k4 := k3.trans up4.dn
  have bi4 := bi3.dn up4.dn
  have bj4 := bj3.dn up4.dn
  clear c0 c1 c2 c3 c4 c5 d0 d1 d2 d3 d4 d5 bi3 bj3
  obtain ⟨c0, c1, c2, c3, c4, c5⟩ := bi4.open
  obtain ⟨d0, d1, d2, d3, d4, d5⟩ := bj4.open
  go_wp2_with fail
  refine (parse_yes _ _ _ _ _ _ (E.dn k4) h0).mono ?_
  rintro e w5 ⟨rfl, dn5⟩
  have k5 := k4.trans dn5
  have bi5 := (bi4.dn dn5).dn ((Dn.refl _).alloc (Obj.cells #[Value.int IntKind.i64 op0, Value.int IntKind.i64 rd0, Value.int IntKind.i64 ra0, Value.int IntKind.i64 rb0, Value.int IntKind.i32 im0] 23))
  clear c0 c1 c2 c3 c4 c5 d0 d1 d2 d3 d4 d5 bi4 bj4
  have bk5 := Box.new w5 (.int .i64 op0) (.int .i64 rd0) (.int .i64 ra0) (.int .i64 rb0) (.int .i32 im0) 23
  obtain ⟨c0, c1, c2, c3, c4, c5⟩ := bi5.open
  obtain ⟨d0, d1, d2, d3, d4, d5⟩ := bk5.open
  have k6 := k5.alloc (Obj.cells #[Value.int IntKind.i64 op0, Value.int IntKind.i64 rd0, Value.int IntKind.i64 ra0, Value.int IntKind.i64 rb0, Value.int IntKind.i32 im0] 23)
  go_wp2_with fail
  refine (parse_any s _ (E.dn k6) (by omega)).mono ?_
  clear c0 c1 c2 c3 c4 c5 d0 d1 d2 d3 d4 d5 bi5 bk5
  rintro e w8 ⟨⟨op, rd, ra, rb, im, hk, ht, rfl⟩ | rfl, dn8⟩
  · have k8 := k6.trans dn8
    have ht2 : (M.text op rd ra rb im == s) = true := beq_iff_eq.2 ht
    clear ht
    go_wp2_with fail
    refine (format_ok _ _ _ _ _ _ (E.dn (k8.alloc _)) hk).mono ?_
    rintro e w9 ⟨rfl, dn9⟩
    go_wp2
    go_ret
    exact ⟨rfl, (k8.alloc _).trans dn9⟩
  · have k8 := k6.trans dn8
    go_wp2_with fail
    refine (format_no 0 0 0 0 0 _ (E.dn (k8.alloc _)) f4 (by decide) (by decide)).mono ?_
    rintro e w9 ⟨rfl, dn9⟩
    have b9 := (Box.new w8 (.int .i64 0) (.int .i64 0) (.int .i64 0) (.int .i64 0) (.int .i32 0) 23).dn dn9
    obtain ⟨q0, q1, q2, q3, q4, q5⟩ := b9.open
    go_wp2
    go_ret
    exact ⟨rfl, (k8.alloc _).trans dn9⟩

set_option maxRecDepth 100000 in
set_option maxHeartbeats 2000000 in
theorem pf_ne_ra (op0 rd0 ra0 rb0 im0 ra1 rb1 im1 : Int) (i1 : -2147483648 ≤ im0) (i2 : im0 < 2147483648) (j1 : -2147483648 ≤ im1) (j2 : im1 < 2147483648) (s : List UInt8) (hs : s.length ≤ 200) (W : World) (E : Env W) (h0 : M.ok op0 rd0 ra0 rb0 im0 = true) (h1 : M.ok op0 rd0 ra1 rb1 im1 = true) (hne : (M.text op0 rd0 ra0 rb0 im0 == M.text op0 rd0 ra1 rb1 im1) = false) (pp : ¬ ra0 = ra1) :
    Calls Tryz.prog 5 #[.agg #[.int .i64 op0, .int .i64 rd0, .int .i64 ra0, .int .i64 rb0, .int .i32 im0], .agg #[.int .i64 op0, .int .i64 rd0, .int .i64 ra1, .int .i64 rb1, .int .i32 im1], .string ⟨s.toArray⟩] W fun e W' => e = .returned (.bool true) ∧ Dn W W' := by
  have hs2 : (s.length : Int) ≤ 200 := by omega
  go_enter Tryz.func5, Tryz.ntmps5
  go_wp2_with fail
  refine (awake _ (E.dn (((Dn.refl _).alloc _).alloc _))).mono ?_
  rintro e w1 ⟨rfl, dn1⟩
  have k1 := (((Dn.refl W).alloc _).alloc _).trans dn1
  have bi1 := ((Box.new W (.int .i64 op0) (.int .i64 rd0) (.int .i64 ra0) (.int .i64 rb0) (.int .i32 im0) 23).dn ((Dn.refl _).alloc _)).dn dn1
  have bj1 := (Box.new2 _ _ _ _ _ _ _ _).dn dn1
  obtain ⟨c0, c1, c2, c3, c4, c5⟩ := bi1.open
  obtain ⟨d0, d1, d2, d3, d4, d5⟩ := bj1.open
  go_wp2_with fail
  refine (format_ok _ _ _ _ _ _ (E.dn k1) h0).mono ?_
  rintro e w2 ⟨rfl, dn2⟩
  have k2 := k1.trans dn2
  have bi2 := bi1.dn dn2
  have bj2 := bj1.dn dn2
  clear c0 c1 c2 c3 c4 c5 d0 d1 d2 d3 d4 d5 bi1 bj1
  obtain ⟨c0, c1, c2, c3, c4, c5⟩ := bi2.open
  obtain ⟨d0, d1, d2, d3, d4, d5⟩ := bj2.open
  go_wp2_with fail
  refine (format_ok _ _ _ _ _ _ (E.dn k2) h1).mono ?_
  rintro e w3 ⟨rfl, dn3⟩
  have k3 := k2.trans dn3
  have bi3 := bi2.dn dn3
  have bj3 := bj2.dn dn3
  clear c0 c1 c2 c3 c4 c5 d0 d1 d2 d3 d4 d5 bi2 bj2
  obtain ⟨c0, c1, c2, c3, c4, c5⟩ := bi3.open
  obtain ⟨d0, d1, d2, d3, d4, d5⟩ := bj3.open
  go_wp2_with fail
  refine (may _ _ _ _ _ _ i1 i2).mono ?_
  rintro e w4 ⟨rfl, up4⟩
  have k4 := k3.trans up4.dn
  have bi4 := bi3.dn up4.dn
  have bj4 := bj3.dn up4.dn
  clear c0 c1 c2 c3 c4 c5 d0 d1 d2 d3 d4 d5 bi3 bj3
  obtain ⟨c0, c1, c2, c3, c4, c5⟩ := bi4.open
  obtain ⟨d0, d1, d2, d3, d4, d5⟩ := bj4.open
  go_wp2_with fail
  refine (parse_yes _ _ _ _ _ _ (E.dn k4) h0).mono ?_
  rintro e w5 ⟨rfl, dn5⟩
  have k5 := k4.trans dn5
  have bi5 := (bi4.dn dn5).dn ((Dn.refl _).alloc (Obj.cells #[Value.int IntKind.i64 op0, Value.int IntKind.i64 rd0, Value.int IntKind.i64 ra0, Value.int IntKind.i64 rb0, Value.int IntKind.i32 im0] 23))
  clear c0 c1 c2 c3 c4 c5 d0 d1 d2 d3 d4 d5 bi4 bj4
  have bk5 := Box.new w5 (.int .i64 op0) (.int .i64 rd0) (.int .i64 ra0) (.int .i64 rb0) (.int .i32 im0) 23
  obtain ⟨c0, c1, c2, c3, c4, c5⟩ := bi5.open
  obtain ⟨d0, d1, d2, d3, d4, d5⟩ := bk5.open
  have k6 := k5.alloc (Obj.cells #[Value.int IntKind.i64 op0, Value.int IntKind.i64 rd0, Value.int IntKind.i64 ra0, Value.int IntKind.i64 rb0, Value.int IntKind.i32 im0] 23)
  go_wp2_with fail
  refine (parse_any s _ (E.dn k6) (by omega)).mono ?_
  clear c0 c1 c2 c3 c4 c5 d0 d1 d2 d3 d4 d5 bi5 bk5
  rintro e w8 ⟨⟨op, rd, ra, rb, im, hk, ht, rfl⟩ | rfl, dn8⟩
  · have k8 := k6.trans dn8
    have ht2 : (M.text op rd ra rb im == s) = true := beq_iff_eq.2 ht
    clear ht
    go_wp2_with fail
    refine (format_ok _ _ _ _ _ _ (E.dn (k8.alloc _)) hk).mono ?_
    rintro e w9 ⟨rfl, dn9⟩
    go_wp2
    go_ret
    exact ⟨rfl, (k8.alloc _).trans dn9⟩
  · have k8 := k6.trans dn8
    go_wp2_with fail
    refine (format_no 0 0 0 0 0 _ (E.dn (k8.alloc _)) f4 (by decide) (by decide)).mono ?_
    rintro e w9 ⟨rfl, dn9⟩
    have b9 := (Box.new w8 (.int .i64 0) (.int .i64 0) (.int .i64 0) (.int .i64 0) (.int .i32 0) 23).dn dn9
    obtain ⟨q0, q1, q2, q3, q4, q5⟩ := b9.open
    go_wp2
    go_ret
    exact ⟨rfl, (k8.alloc _).trans dn9⟩

set_option maxRecDepth 100000 in
set_option maxHeartbeats 2000000 in
theorem pf_ne_rb (op0 rd0 ra0 rb0 im0 rb1 im1 : Int) (i1 : -2147483648 ≤ im0) (i2 : im0 < 2147483648) (j1 : -2147483648 ≤ im1) (j2 : im1 < 2147483648) (s : List UInt8) (hs : s.length ≤ 200) (W : World) (E : Env W) (h0 : M.ok op0 rd0 ra0 rb0 im0 = true) (h1 : M.ok op0 rd0 ra0 rb1 im1 = true) (hne : (M.text op0 rd0 ra0 rb0 im0 == M.text op0 rd0 ra0 rb1 im1) = false) (pp : ¬ rb0 = rb1) :
    Calls Tryz.prog 5 #[.agg #[.int .i64 op0, .int .i64 rd0, .int .i64 ra0, .int .i64 rb0, .int .i32 im0], .agg #[.int .i64 op0, .int .i64 rd0, .int .i64 ra0, .int .i64 rb1, .int .i32 im1], .string ⟨s.toArray⟩] W fun e W' => e = .returned (.bool true) ∧ Dn W W' := by
  have hs2 : (s.length : Int) ≤ 200 := by omega
  go_enter Tryz.func5, Tryz.ntmps5
  go_wp2_with fail
  refine (awake _ (E.dn (((Dn.refl _).alloc _).alloc _))).mono ?_
  rintro e w1 ⟨rfl, dn1⟩
  have k1 := (((Dn.refl W).alloc _).alloc _).trans dn1
  have bi1 := ((Box.new W (.int .i64 op0) (.int .i64 rd0) (.int .i64 ra0) (.int .i64 rb0) (.int .i32 im0) 23).dn ((Dn.refl _).alloc _)).dn dn1
  have bj1 := (Box.new2 _ _ _ _ _ _ _ _).dn dn1
  obtain ⟨c0, c1, c2, c3, c4, c5⟩ := bi1.open
  obtain ⟨d0, d1, d2, d3, d4, d5⟩ := bj1.open
  go_wp2_with fail
  refine (format_ok _ _ _ _ _ _ (E.dn k1) h0).mono ?_
  rintro e w2 ⟨rfl, dn2⟩
  have k2 := k1.trans dn2
  have bi2 := bi1.dn dn2
  have bj2 := bj1.dn dn2
  clear c0 c1 c2 c3 c4 c5 d0 d1 d2 d3 d4 d5 bi1 bj1
  obtain ⟨c0, c1, c2, c3, c4, c5⟩ := bi2.open
  obtain ⟨d0, d1, d2, d3, d4, d5⟩ := bj2.open
  go_wp2_with fail
  refine (format_ok _ _ _ _ _ _ (E.dn k2) h1).mono ?_
  rintro e w3 ⟨rfl, dn3⟩
  have k3 := k2.trans dn3
  have bi3 := bi2.dn dn3
  have bj3 := bj2.dn dn3
  clear c0 c1 c2 c3 c4 c5 d0 d1 d2 d3 d4 d5 bi2 bj2
  obtain ⟨c0, c1, c2, c3, c4, c5⟩ := bi3.open
  obtain ⟨d0, d1, d2, d3, d4, d5⟩ := bj3.open
  go_wp2_with fail
  refine (may _ _ _ _ _ _ i1 i2).mono ?_
  rintro e w4 ⟨rfl, up4⟩
  have k4 := k3.trans up4.dn
  have bi4 := bi3.dn up4.dn
  have bj4 := bj3.dn up4.dn
  clear c0 c1 c2 c3 c4 c5 d0 d1 d2 d3 d4 d5 bi3 bj3
  obtain ⟨c0, c1, c2, c3, c4, c5⟩ := bi4.open
  obtain ⟨d0, d1, d2, d3, d4, d5⟩ := bj4.open
  go_wp2_with fail
  refine (parse_yes _ _ _ _ _ _ (E.dn k4) h0).mono ?_
  rintro e w5 ⟨rfl, dn5⟩
  have k5 := k4.trans dn5
  have bi5 := (bi4.dn dn5).dn ((Dn.refl _).alloc (Obj.cells #[Value.int IntKind.i64 op0, Value.int IntKind.i64 rd0, Value.int IntKind.i64 ra0, Value.int IntKind.i64 rb0, Value.int IntKind.i32 im0] 23))
  clear c0 c1 c2 c3 c4 c5 d0 d1 d2 d3 d4 d5 bi4 bj4
  have bk5 := Box.new w5 (.int .i64 op0) (.int .i64 rd0) (.int .i64 ra0) (.int .i64 rb0) (.int .i32 im0) 23
  obtain ⟨c0, c1, c2, c3, c4, c5⟩ := bi5.open
  obtain ⟨d0, d1, d2, d3, d4, d5⟩ := bk5.open
  have k6 := k5.alloc (Obj.cells #[Value.int IntKind.i64 op0, Value.int IntKind.i64 rd0, Value.int IntKind.i64 ra0, Value.int IntKind.i64 rb0, Value.int IntKind.i32 im0] 23)
  go_wp2_with fail
  refine (parse_any s _ (E.dn k6) (by omega)).mono ?_
  clear c0 c1 c2 c3 c4 c5 d0 d1 d2 d3 d4 d5 bi5 bk5
  rintro e w8 ⟨⟨op, rd, ra, rb, im, hk, ht, rfl⟩ | rfl, dn8⟩
  · have k8 := k6.trans dn8
    have ht2 : (M.text op rd ra rb im == s) = true := beq_iff_eq.2 ht
    clear ht
    go_wp2_with fail
    refine (format_ok _ _ _ _ _ _ (E.dn (k8.alloc _)) hk).mono ?_
    rintro e w9 ⟨rfl, dn9⟩
    go_wp2
    go_ret
    exact ⟨rfl, (k8.alloc _).trans dn9⟩
  · have k8 := k6.trans dn8
    go_wp2_with fail
    refine (format_no 0 0 0 0 0 _ (E.dn (k8.alloc _)) f4 (by decide) (by decide)).mono ?_
    rintro e w9 ⟨rfl, dn9⟩
    have b9 := (Box.new w8 (.int .i64 0) (.int .i64 0) (.int .i64 0) (.int .i64 0) (.int .i32 0) 23).dn dn9
    obtain ⟨q0, q1, q2, q3, q4, q5⟩ := b9.open
    go_wp2
    go_ret
    exact ⟨rfl, (k8.alloc _).trans dn9⟩

set_option maxRecDepth 100000 in
set_option maxHeartbeats 2000000 in
theorem pf_ne_im (op0 rd0 ra0 rb0 im0 im1 : Int) (i1 : -2147483648 ≤ im0) (i2 : im0 < 2147483648) (j1 : -2147483648 ≤ im1) (j2 : im1 < 2147483648) (s : List UInt8) (hs : s.length ≤ 200) (W : World) (E : Env W) (h0 : M.ok op0 rd0 ra0 rb0 im0 = true) (h1 : M.ok op0 rd0 ra0 rb0 im1 = true) (hne : (M.text op0 rd0 ra0 rb0 im0 == M.text op0 rd0 ra0 rb0 im1) = false) (pp : ¬ im0 = im1) :
    Calls Tryz.prog 5 #[.agg #[.int .i64 op0, .int .i64 rd0, .int .i64 ra0, .int .i64 rb0, .int .i32 im0], .agg #[.int .i64 op0, .int .i64 rd0, .int .i64 ra0, .int .i64 rb0, .int .i32 im1], .string ⟨s.toArray⟩] W fun e W' => e = .returned (.bool true) ∧ Dn W W' := by
  have hs2 : (s.length : Int) ≤ 200 := by omega
  go_enter Tryz.func5, Tryz.ntmps5
  go_wp2_with fail
  refine (awake _ (E.dn (((Dn.refl _).alloc _).alloc _))).mono ?_
  rintro e w1 ⟨rfl, dn1⟩
  have k1 := (((Dn.refl W).alloc _).alloc _).trans dn1
  have bi1 := ((Box.new W (.int .i64 op0) (.int .i64 rd0) (.int .i64 ra0) (.int .i64 rb0) (.int .i32 im0) 23).dn ((Dn.refl _).alloc _)).dn dn1
  have bj1 := (Box.new2 _ _ _ _ _ _ _ _).dn dn1
  obtain ⟨c0, c1, c2, c3, c4, c5⟩ := bi1.open
  obtain ⟨d0, d1, d2, d3, d4, d5⟩ := bj1.open
  go_wp2_with fail
  refine (format_ok _ _ _ _ _ _ (E.dn k1) h0).mono ?_
  rintro e w2 ⟨rfl, dn2⟩
  have k2 := k1.trans dn2
  have bi2 := bi1.dn dn2
  have bj2 := bj1.dn dn2
  clear c0 c1 c2 c3 c4 c5 d0 d1 d2 d3 d4 d5 bi1 bj1
  obtain ⟨c0, c1, c2, c3, c4, c5⟩ := bi2.open
  obtain ⟨d0, d1, d2, d3, d4, d5⟩ := bj2.open
  go_wp2_with fail
  refine (format_ok _ _ _ _ _ _ (E.dn k2) h1).mono ?_
  rintro e w3 ⟨rfl, dn3⟩
  have k3 := k2.trans dn3
  have bi3 := bi2.dn dn3
  have bj3 := bj2.dn dn3
  clear c0 c1 c2 c3 c4 c5 d0 d1 d2 d3 d4 d5 bi2 bj2
  obtain ⟨c0, c1, c2, c3, c4, c5⟩ := bi3.open
  obtain ⟨d0, d1, d2, d3, d4, d5⟩ := bj3.open
  go_wp2_with fail
  refine (may _ _ _ _ _ _ i1 i2).mono ?_
  rintro e w4 ⟨rfl, up4⟩
  have k4 := k3.trans up4.dn
  have bi4 := bi3.dn up4.dn
  have bj4 := bj3.dn up4.dn
  clear c0 c1 c2 c3 c4 c5 d0 d1 d2 d3 d4 d5 bi3 bj3
  obtain ⟨c0, c1, c2, c3, c4, c5⟩ := bi4.open
  obtain ⟨d0, d1, d2, d3, d4, d5⟩ := bj4.open
  go_wp2_with fail
  refine (parse_yes _ _ _ _ _ _ (E.dn k4) h0).mono ?_
  rintro e w5 ⟨rfl, dn5⟩
  have k5 := k4.trans dn5
  have bi5 := (bi4.dn dn5).dn ((Dn.refl _).alloc (Obj.cells #[Value.int IntKind.i64 op0, Value.int IntKind.i64 rd0, Value.int IntKind.i64 ra0, Value.int IntKind.i64 rb0, Value.int IntKind.i32 im0] 23))
  clear c0 c1 c2 c3 c4 c5 d0 d1 d2 d3 d4 d5 bi4 bj4
  have bk5 := Box.new w5 (.int .i64 op0) (.int .i64 rd0) (.int .i64 ra0) (.int .i64 rb0) (.int .i32 im0) 23
  obtain ⟨c0, c1, c2, c3, c4, c5⟩ := bi5.open
  obtain ⟨d0, d1, d2, d3, d4, d5⟩ := bk5.open
  have k6 := k5.alloc (Obj.cells #[Value.int IntKind.i64 op0, Value.int IntKind.i64 rd0, Value.int IntKind.i64 ra0, Value.int IntKind.i64 rb0, Value.int IntKind.i32 im0] 23)
  go_wp2_with fail
  refine (parse_any s _ (E.dn k6) (by omega)).mono ?_
  clear c0 c1 c2 c3 c4 c5 d0 d1 d2 d3 d4 d5 bi5 bk5
  rintro e w8 ⟨⟨op, rd, ra, rb, im, hk, ht, rfl⟩ | rfl, dn8⟩
  · have k8 := k6.trans dn8
    have ht2 : (M.text op rd ra rb im == s) = true := beq_iff_eq.2 ht
    clear ht
    go_wp2_with fail
    refine (format_ok _ _ _ _ _ _ (E.dn (k8.alloc _)) hk).mono ?_
    rintro e w9 ⟨rfl, dn9⟩
    go_wp2
    go_ret
    exact ⟨rfl, (k8.alloc _).trans dn9⟩
  · have k8 := k6.trans dn8
    go_wp2_with fail
    refine (format_no 0 0 0 0 0 _ (E.dn (k8.alloc _)) f4 (by decide) (by decide)).mono ?_
    rintro e w9 ⟨rfl, dn9⟩
    have b9 := (Box.new w8 (.int .i64 0) (.int .i64 0) (.int .i64 0) (.int .i64 0) (.int .i32 0) 23).dn dn9
    obtain ⟨q0, q1, q2, q3, q4, q5⟩ := b9.open
    go_wp2
    go_ret
    exact ⟨rfl, (k8.alloc _).trans dn9⟩

theorem pfWalk (op0 rd0 ra0 rb0 im0 : Int) (i1 : -2147483648 ≤ im0) (i2 : im0 < 2147483648) (op1 rd1 ra1 rb1 im1 : Int) (j1 : -2147483648 ≤ im1) (j2 : im1 < 2147483648) (s : List UInt8) (hm : s.length ≤ 9223372036854775807) (W : World) (E : Env W) :
    Calls Tryz.prog 5 #[.agg #[.int .i64 op0, .int .i64 rd0, .int .i64 ra0, .int .i64 rb0, .int .i32 im0], .agg #[.int .i64 op1, .int .i64 rd1, .int .i64 ra1, .int .i64 rb1, .int .i32 im1], .string ⟨s.toArray⟩] W fun e W' => e = .returned (.bool true) ∧ Dn W W' := by
  by_cases hs : s.length ≤ 200
  · cases h0 : M.ok op0 rd0 ra0 rb0 im0
    · exact pf_no op0 rd0 ra0 rb0 im0 op1 rd1 ra1 rb1 im1 i1 i2 j1 j2 s hs W E h0
    · cases h1 : M.ok op1 rd1 ra1 rb1 im1
      · exact pf_yes_no op0 rd0 ra0 rb0 im0 op1 rd1 ra1 rb1 im1 i1 i2 j1 j2 s hs W E h0 h1
      · by_cases he : op0 = op1 ∧ rd0 = rd1 ∧ ra0 = ra1 ∧ rb0 = rb1 ∧ im0 = im1
        · obtain ⟨rfl, rfl, rfl, rfl, rfl⟩ := he
          exact pf_same op0 rd0 ra0 rb0 im0 i1 i2 s hs W E h0
        · have hb : (M.text op0 rd0 ra0 rb0 im0 == M.text op1 rd1 ra1 rb1 im1) = false := by
            cases hb : (M.text op0 rd0 ra0 rb0 im0 == M.text op1 rd1 ra1 rb1 im1)
            · rfl
            · exact absurd (text_inj h0 h1 (beq_iff_eq.1 hb)) he
          by_cases p0 : op0 = op1
          · subst p0
            by_cases p1 : rd0 = rd1
            · subst p1
              by_cases p2 : ra0 = ra1
              · subst p2
                by_cases p3 : rb0 = rb1
                · subst p3
                  by_cases p4 : im0 = im1
                  · exact absurd ⟨rfl, rfl, rfl, rfl, p4⟩ he
                  · exact pf_ne_im op0 rd0 ra0 rb0 im0 im1 i1 i2 j1 j2 s hs W E h0 h1 hb p4
                · exact pf_ne_rb op0 rd0 ra0 rb0 im0 rb1 im1 i1 i2 j1 j2 s hs W E h0 h1 hb p3
              · exact pf_ne_ra op0 rd0 ra0 rb0 im0 ra1 rb1 im1 i1 i2 j1 j2 s hs W E h0 h1 hb p2
            · exact pf_ne_rd op0 rd0 ra0 rb0 im0 rd1 ra1 rb1 im1 i1 i2 j1 j2 s hs W E h0 h1 hb p1
          · exact pf_ne_op op0 rd0 ra0 rb0 im0 op1 rd1 ra1 rb1 im1 i1 i2 j1 j2 s hs W E h0 h1 hb p0
  · exact pf_long op0 rd0 ra0 rb0 im0 op1 rd1 ra1 rb1 im1 s hm hs W E

end Go.Proofs.YtokhipjpppfkgaaGreatDoor
