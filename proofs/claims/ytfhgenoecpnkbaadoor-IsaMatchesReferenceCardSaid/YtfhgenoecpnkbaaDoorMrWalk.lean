/-
  The law IsaMatchesReference walked. Conditions: the two tables.
-/
import Derived.Test.YtfhgenoecpnkbaaDoorAwake
import Derived.Test.YtfhgenoecpnkbaaDoorIsaLaws
import Derived.Deep.RegionHeld3
namespace Go.Proofs.YtfhgenoecpnkbaaDoor
open Go.ChangeShapes Go.WideShapes Go.ChangeAt Go.RowKit
set_option linter.unusedVariables false

set_option maxHeartbeats 2000000 in
theorem mr (op0 rd0 ra0 rb0 im0 a1 a2 : Int) (i1 : -2147483648 ≤ im0) (i2 : im0 < 2147483648) (s1 : 0 ≤ a1) (s2 : a1 < 4294967296) (W : World) (T : Tabs W) :
    Calls Tryd.prog 3 #[.agg #[.int .i64 op0, .int .i64 rd0, .int .i64 ra0, .int .i64 rb0, .int .i32 im0], .int .u32 a1, .int .i64 a2] W fun e W' => e = .returned (.bool true) ∧ Up W W' := by
  go_enter Tryd.func3, Tryd.ntmps3
  go_wp2_with fail
  refine (awake _ (T.up ((Up.refl W).alloc _))).mono ?_
  rintro e w1 ⟨rfl, up1⟩
  have u1 : Up W w1 := ((Up.refl W).alloc _).trans up1
  have bi1 := (Box.new _ _ _ _ _ _ _).up up1
  obtain ⟨c0, c1, c2, c3, c4, c5⟩ := bi1.open
  go_wp2_with fail
  refine (encode _ _ _ _ _ _ (T.up u1) (by omega) (by omega)).mono ?_
  rintro e w2 ⟨rfl, up2⟩
  have u2 := u1.trans up2
  have bi2 := bi1.up up2
  clear c0 c1 c2 c3 c4 c5 bi1
  obtain ⟨c0, c1, c2, c3, c4, c5⟩ := bi2.open
  go_wp2_with fail
  refine (refEncode _ _ _ _ _ _ (by omega) (by omega)).mono ?_
  rintro e w3 ⟨rfl, up3⟩
  have u3 := u2.trans up3
  have bi3 := bi2.up up3
  clear c0 c1 c2 c3 c4 c5 bi2
  go_wp2_with fail
  refine (decode _ _ (T.up u3) (by omega) (by omega)).mono ?_
  rintro e w4 ⟨rfl, up4⟩
  have u4 := u3.trans up4
  have bi4 := bi3.up up4
  clear bi3
  go_wp2_with fail
  refine (refDecode _ _ (by omega) (by omega)).mono ?_
  rintro e w5 ⟨rfl, up5⟩
  have u5 := (u4.alloc _).trans up5
  have bi5 := (bi4.up ((Up.refl _).alloc _)).up up5
  have bc5 := (Box.new _ _ _ _ _ _ _).up up5
  clear bi4
  go_wp2_with fail
  have u6 := u5.alloc #[.int .i64 (dI a1 M.dOp), .int .i64 (dI a1 M.dRd), .int .i64 (dI a1 M.dRa), .int .i64 (dI a1 M.dRb), .int .i32 (dI a1 M.dImm)] (t := 23)
  have bd6 := Box.new w5 (.int .i64 (dI a1 M.dOp)) (.int .i64 (dI a1 M.dRd)) (.int .i64 (dI a1 M.dRa)) (.int .i64 (dI a1 M.dRb)) (.int .i32 (dI a1 M.dImm)) 23
  have bi6 := bi5.up ((Up.refl w5).alloc #[.int .i64 (dI a1 M.dOp), .int .i64 (dI a1 M.dRd), .int .i64 (dI a1 M.dRa), .int .i64 (dI a1 M.dRb), .int .i32 (dI a1 M.dImm)] (t := 23))
  have bc6 := bc5.up ((Up.refl w5).alloc #[.int .i64 (dI a1 M.dOp), .int .i64 (dI a1 M.dRd), .int .i64 (dI a1 M.dRa), .int .i64 (dI a1 M.dRb), .int .i32 (dI a1 M.dImm)] (t := 23))
  clear bi5 bc5
  generalize w5.alloc (Obj.cells #[.int .i64 (dI a1 M.dOp), .int .i64 (dI a1 M.dRd), .int .i64 (dI a1 M.dRa), .int .i64 (dI a1 M.dRb), .int .i32 (dI a1 M.dImm)] 23) = w6 at *
  have T6 : Tabs w6.drew := T.up ⟨⟨u6.below.os, u6.below.tape, u6.below.output, u6.below.size, u6.below.block⟩, u6.frozen⟩
  have U6 : Up W w6.drew := ⟨⟨u6.below.os, u6.below.tape, u6.below.output, u6.below.size, u6.below.block⟩, u6.frozen⟩
  have Bi : Box w6.drew _ _ _ _ _ _ := ⟨bi6.c0, bi6.c1, bi6.c2, bi6.c3, bi6.c4, bi6.lt, bi6.fr⟩
  have Bc : Box w6.drew _ _ _ _ _ _ := ⟨bc6.c0, bc6.c1, bc6.c2, bc6.c3, bc6.c4, bc6.lt, bc6.fr⟩
  have Bd : Box w6.drew _ _ _ _ _ _ := ⟨bd6.c0, bd6.c1, bd6.c2, bd6.c3, bd6.c4, bd6.lt, bd6.fr⟩
  obtain ⟨x0, x1, x2, x3, x4, x5⟩ := bi6.open
  obtain ⟨y0, y1, y2, y3, y4, y5⟩ := bc6.open
  obtain ⟨z0, z1, z2, z3, z4, z5⟩ := bd6.open
  clear up1 up2 up3 up4 up5 u1 u2 u3 u4 u5 u6 bi6 bc6 bd6
  go_region_held3 (fun w' => w'.cell? ⟨W.heap.size, 0, none⟩ = some (.int .i64 op0) ∧ w'.cell? ⟨W.heap.size, 1, none⟩ = some (.int .i64 rd0) ∧ w'.cell? ⟨W.heap.size, 2, none⟩ = some (.int .i64 ra0) ∧ w'.cell? ⟨W.heap.size, 3, none⟩ = some (.int .i64 rb0) ∧ w'.cell? ⟨W.heap.size, 4, none⟩ = some (.int .i32 im0) ∧ w'.cell? ⟨w4.heap.size, 0, none⟩ = some (.int .i64 (dI a1 M.dOp)) ∧ w'.cell? ⟨w4.heap.size, 1, none⟩ = some (.int .i64 (dI a1 M.dRd)) ∧ w'.cell? ⟨w4.heap.size, 2, none⟩ = some (.int .i64 (dI a1 M.dRa)) ∧ w'.cell? ⟨w4.heap.size, 3, none⟩ = some (.int .i64 (dI a1 M.dRb)) ∧ w'.cell? ⟨w4.heap.size, 4, none⟩ = some (.int .i32 (dI a1 M.dImm)) ∧ w'.cell? ⟨w5.heap.size, 0, none⟩ = some (.int .i64 (dI a1 M.dOp)) ∧ w'.cell? ⟨w5.heap.size, 1, none⟩ = some (.int .i64 (dI a1 M.dRd)) ∧ w'.cell? ⟨w5.heap.size, 2, none⟩ = some (.int .i64 (dI a1 M.dRa)) ∧ w'.cell? ⟨w5.heap.size, 3, none⟩ = some (.int .i64 (dI a1 M.dRb)) ∧ w'.cell? ⟨w5.heap.size, 4, none⟩ = some (.int .i32 (dI a1 M.dImm)))
    (first | exact ⟨Bi.c0, Bi.c1, Bi.c2, Bi.c3, Bi.c4, Bc.c0, Bc.c1, Bc.c2, Bc.c3, Bc.c4, Bd.c0, Bd.c1, Bd.c2, Bd.c3, Bd.c4⟩ | exact ⟨Bi8.c0, Bi8.c1, Bi8.c2, Bi8.c3, Bi8.c4, Bc8.c0, Bc8.c1, Bc8.c2, Bc8.c3, Bc8.c4, Bd8.c0, Bd8.c1, Bd8.c2, Bd8.c3, Bd8.c4⟩ | exact ⟨Bi7.c0, Bi7.c1, Bi7.c2, Bi7.c3, Bi7.c4, Bc7.c0, Bc7.c1, Bc7.c2, Bc7.c3, Bc7.c4, Bd7.c0, Bd7.c1, Bd7.c2, Bd7.c3, Bd7.c4⟩)
    (first
    | (go_at_call 13; refine (formatOf _ _ T6).mono ?_; rintro e w' ⟨rfl, rfl⟩)
    | (go_at_call 14; refine (refForm _ _).mono ?_; rintro e w' ⟨rfl, rfl⟩)
    | (go_at_call 15; refine (isPrivileged _ _).mono ?_; rintro e w' ⟨rfl, rfl⟩)
    | (go_at_call 16; refine (refPrivileged _ _).mono ?_; rintro e w' ⟨rfl, rfl⟩)
    | (go_at_call 17; refine (valid _ _ _ _ _ _ T6 (by omega) (by omega)).mono ?_; rintro e w7 ⟨rfl, up7⟩; have Bi7 := Bi.up up7; have Bc7 := Bc.up up7; have Bd7 := Bd.up up7)
    | (go_at_call 18; refine (may _ _ _ _ _ _ (by omega) (by omega)).mono ?_; rintro e w8 ⟨rfl, up8⟩; have Bi8 := Bi7.up up8; have Bc8 := Bc7.up up8; have Bd8 := Bd7.up up8))
  go_wp2
  go_ret
  exact ⟨rfl, (U6.trans up7).trans up8⟩
end Go.Proofs.YtfhgenoecpnkbaaDoor
