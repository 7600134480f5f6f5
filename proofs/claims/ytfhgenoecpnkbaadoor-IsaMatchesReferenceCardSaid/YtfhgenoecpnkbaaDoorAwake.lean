/-
  What awake of package gaolerlaw02 returns when called: true. Condition: the two tables hold what the program's text lays there.
-/
import Derived.Test.YtfhgenoecpnkbaaDoorIsaRefs2
namespace Go.Proofs.YtfhgenoecpnkbaaDoor
open Go.ChangeShapes Go.WideShapes Go.ChangeAt Go.RowKit
set_option linter.unusedVariables false

theorem a1 : M.ok 9 1 2 0 (-1) = true := by decide +kernel
theorem a2 : enc 9 1 2 0 (-1) = 608960511 := by decide +kernel
theorem a3 : M.dok 608960511 = true := by decide +kernel
theorem a4 : dI 608960511 M.dOp = 9 := by decide +kernel
theorem a5 : dI 608960511 M.dRd = 1 := by decide +kernel
theorem a6 : dI 608960511 M.dRa = 2 := by decide +kernel
theorem a7 : dI 608960511 M.dRb = 0 := by decide +kernel
theorem a8 : dI 608960511 M.dImm = -1 := by decide +kernel
theorem a9 : M.dok 0 = false := by decide +kernel
theorem a10 : M.dok 1342177281 = false := by decide +kernel
theorem a11 : M.ok 1 15 0 3 0 = true := by decide +kernel
theorem a12 : enc 1 15 0 3 0 = 130023427 := by decide +kernel
theorem a13 : M.form 25 = 7 := by decide +kernel
theorem a14 : M.form 0 = 0 := by decide +kernel
theorem a15 : M.form 26 = 0 := by decide +kernel
theorem a16 : M.priv 23 = true := by decide +kernel
theorem a17 : M.priv 20 = false := by decide +kernel
theorem a18 : M.ok 21 0 0 0 12 = false := by decide +kernel
theorem a19 : M.ok 1 0 0 0 1 = false := by decide +kernel

set_option maxHeartbeats 1000000 in
theorem awake (W : World) (T : Tabs W) : Calls Tryd.prog 8 #[] W fun e W' => e = .returned (.bool true) ∧ Up W W' := by
  have h1 := a1
  have h2 := a2
  have h3 := a3
  have h4 := a4
  have h5 := a5
  have h6 := a6
  have h7 := a7
  have h8 := a8
  have h9 := a9
  have h10 := a10
  have h11 := a11
  have h12 := a12
  have h13 := a13
  have h14 := a14
  have h15 := a15
  have h16 := a16
  have h17 := a17
  have h18 := a18
  have h19 := a19
  go_enter Tryd.func8, Tryd.ntmps8
  go_wp2_with fail
  refine (encode _ _ _ _ _ _ (T.up ((Up.refl _).alloc _)) (by omega) (by omega)).mono ?_
  rintro e w1 ⟨rfl, up1⟩
  have u1 : Up W w1 := ((Up.refl _).alloc _).trans up1
  have bi1 := (Box.new _ _ _ _ _ _ _).up up1
  obtain ⟨c0, c1, c2, c3, c4, c5⟩ := bi1.open
  go_wp2_with fail
  refine (decode _ _ (T.up u1) (by omega) (by omega)).mono ?_
  rintro e w2 ⟨rfl, up2⟩
  have u2 := u1.trans up2
  have bi2 := bi1.up up2
  obtain ⟨d0, d1, d2, d3, d4, d5⟩ := bi2.open
  clear c0 c1 c2 c3 c4 c5 bi1
  go_wp2_with fail
  refine (decode _ _ (T.up (u2.alloc _)) (by omega) (by omega)).mono ?_
  rintro e w3 ⟨rfl, up3⟩
  have u3 := (u2.alloc _).trans up3
  have bj3 := (Box.new _ _ _ _ _ _ _).up up3
  have bi3 := (bi2.up ((Up.refl _).alloc _)).up up3
  clear d0 d1 d2 d3 d4 d5 bi2
  go_wp2_with fail
  refine (decode _ _ (T.up (u3.alloc _)) (by omega) (by omega)).mono ?_
  rintro e w4 ⟨rfl, up4⟩
  have u4 := (u3.alloc _).trans up4
  have bj4 := (bj3.up ((Up.refl _).alloc _)).up up4
  have bi4 := (bi3.up ((Up.refl _).alloc _)).up up4
  clear bj3 bi3
  go_wp2_with fail
  refine (encode _ _ _ _ _ _ (T.up (u4.alloc _)) (by omega) (by omega)).mono ?_
  rintro e w5 ⟨rfl, up5⟩
  have u5 := (u4.alloc _).trans up5
  have bj5 := (bj4.up ((Up.refl _).alloc _)).up up5
  have bi5 := (bi4.up ((Up.refl _).alloc _)).up up5
  clear bj4 bi4
  obtain ⟨c0, c1, c2, c3, c4, c5⟩ := bi5.open
  obtain ⟨d0, d1, d2, d3, d4, d5⟩ := bj5.open
  go_wp2_with (first
    | (go_at_call 13; refine (formatOf _ _ (T.up u5)).mono ?_; rintro e w' ⟨rfl, rfl⟩)
    | (go_at_call 15; refine (isPrivileged _ _).mono ?_; rintro e w' ⟨rfl, rfl⟩))
  refine (valid _ _ _ _ _ _ (T.up u5) (by omega) (by omega)).mono ?_
  rintro e w6 ⟨rfl, up6⟩
  have u6 := u5.trans up6
  go_wp2_with fail
  refine (valid _ _ _ _ _ _ (T.up u6) (by omega) (by omega)).mono ?_
  rintro e w7 ⟨rfl, up7⟩
  have u7 := u6.trans up7
  go_wp2_with fail
  refine (valid _ _ _ _ _ _ (T.up u7) (by omega) (by omega)).mono ?_
  rintro e w8 ⟨rfl, up8⟩
  have u8 := u7.trans up8
  go_wp2
  go_ret
  exact ⟨rfl, u8⟩

end Go.Proofs.YtfhgenoecpnkbaaDoor
