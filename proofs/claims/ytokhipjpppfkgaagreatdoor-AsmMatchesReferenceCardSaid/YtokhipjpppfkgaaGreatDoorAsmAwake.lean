/-
  What awake of package gaolerlaw03 returns when called: true. Condition: the package variables hold what the program's text lays there.
-/
import Derived.Test.YtokhipjpppfkgaaGreatDoorAsmSame
namespace Go.Proofs.YtokhipjpppfkgaaGreatDoor
open Go.ChangeShapes Go.WideShapes Go.ChangeAt Go.RowKit Go.Sort
set_option linter.unusedVariables false

theorem dec1 {n : Nat} (h : n < 10) : Lib.decDigits n = [UInt8.ofNat (48 + n)] := by
  rw [Lib.decDigits]
  simp [h]
theorem it1 : Lib.itoa 1 = [49] := by unfold Lib.itoa; rw [if_neg (by decide)]; exact dec1 (by decide)
theorem it2 : Lib.itoa 2 = [50] := by unfold Lib.itoa; rw [if_neg (by decide)]; exact dec1 (by decide)
theorem it3 : Lib.itoa 3 = [51] := by unfold Lib.itoa; rw [if_neg (by decide)]; exact dec1 (by decide)
theorem it4 : Lib.itoa 4 = [52] := by unfold Lib.itoa; rw [if_neg (by decide)]; exact dec1 (by decide)
theorem itm1 : Lib.itoa (-1) = [45, 49] := by unfold Lib.itoa; rw [if_pos (by decide)]; exact congrArg (45 :: ·) (dec1 (by decide))

theorem f1 : M.text 9 1 2 0 (-1) = [97, 100, 100, 105, 32, 114, 49, 32, 114, 50, 32, 45, 49] := by
  unfold M.text M.opsT M.regT
  rw [if_neg (by decide), if_pos (by decide), it1, it2, itm1]
  decide +kernel
theorem f2 : M.text 22 0 3 0 4 = [99, 115, 114, 119, 32, 99, 52, 32, 114, 51] := by
  unfold M.text M.opsT M.regT M.csrT
  rw [if_neg (by decide), if_neg (by decide), if_neg (by decide), if_neg (by decide), if_pos (by decide), it3, it4]
  decide +kernel
theorem f3a : M.fields [97, 100, 100, 32, 114, 49, 32, 114, 50, 32, 32, 114, 51] = [[97, 100, 100], [114, 49], [114, 50], [32, 114, 51]] := by decide +kernel
theorem f3 (op rd ra rb imm : Int) (h : M.ok op rd ra rb imm = true) : M.text op rd ra rb imm ≠ [97, 100, 100, 32, 114, 49, 32, 114, 50, 32, 32, 114, 51] := fun e => by
  have e1 := congrArg M.fields e
  rw [M.fields_text, f3a] at e1
  injection e1 with e2 e3
  obtain ⟨ho, _⟩ := M.ok_rng _ _ _ _ _ h
  have hop : op = 1 := M.OpOf_uniq (.inl ⟨by omega, by omega, e2⟩) (M.OpOf_mnem 1 (by omega) (by omega))
  subst hop
  unfold M.opsT M.regT at e3
  rw [if_pos (by decide)] at e3
  simp at e3
theorem f4 : M.ok 0 0 0 0 0 = false := by decide +kernel
theorem f5 : M.ok 9 1 2 0 (-1) = true := by decide +kernel
theorem f6 : M.ok 22 0 3 0 4 = true := by decide +kernel
theorem t24 : M.text 24 0 0 0 0 = [104, 97, 108, 116] := by
  unfold M.text M.opsT
  rw [if_neg (by decide), if_neg (by decide), if_neg (by decide), if_neg (by decide), if_neg (by decide), if_neg (by decide)]
  decide +kernel
theorem lHalt : M.lineT 1610612736 = [104, 97, 108, 116] := by
  rw [lineT_yes (by decide +kernel), show M.dOp 1610612736 = 24 by decide +kernel, show M.dRd 1610612736 = 0 by decide +kernel, show M.dRa 1610612736 = 0 by decide +kernel, show M.dRb 1610612736 = 0 by decide +kernel, show M.dImm 1610612736 = 0 by decide +kernel]
  exact t24
theorem h0 : M.hex8 0 = [48, 48, 48, 48, 48, 48, 48, 48] := by
  unfold M.hex8
  rw [show (0 : Int).toNat = 0 from rfl, M.hex_small (by decide)]
  decide +kernel
theorem l0 : M.lineT 0 = [119, 111, 114, 100, 32, 48, 48, 48, 48, 48, 48, 48, 48] := by
  rw [lineT_no (by decide +kernel), h0]
  rfl
theorem hAb : M.hex8 11259375 = [48, 48, 97, 98, 99, 100, 101, 102] := by
  unfold M.hex8
  rw [show (11259375 : Int).toNat = 11259375 from rfl, M.hex_big (by decide), M.hex_big (by decide), M.hex_big (by decide), M.hex_big (by decide), M.hex_big (by decide), M.hex_small (by decide)]
  decide +kernel
theorem lAb : M.lineT 11259375 = [119, 111, 114, 100, 32, 48, 48, 97, 98, 99, 100, 101, 102] := by
  rw [lineT_no (by decide +kernel), hAb]
  rfl
theorem d1 : M.disT [1610612736, 0] = [104, 97, 108, 116, 10, 119, 111, 114, 100, 32, 48, 48, 48, 48, 48, 48, 48, 48, 10] := by
  unfold M.disT
  simp only [List.map_cons, List.map_nil, lHalt, l0]
  rfl
theorem d2 : M.disT [1610612736] ++ [104, 97, 108, 116] = [104, 97, 108, 116, 10, 104, 97, 108, 116] := by
  unfold M.disT
  simp only [List.map_cons, List.map_nil, lHalt]
  rfl
theorem d3 : M.disT [11259375] = [119, 111, 114, 100, 32, 48, 48, 97, 98, 99, 100, 101, 102, 10] := by
  unfold M.disT
  simp only [List.map_cons, List.map_nil, lAb]
  rfl
theorem rng2 : Rng [1610612736, 0] := by intro x hx; simp at hx; omega
theorem rng1 : Rng [1610612736] := by intro x hx; simp at hx; omega
theorem rng3 : Rng [11259375] := by intro x hx; simp at hx; omega

theorem c1 (W : World) (E : Env W) : Calls Tryz.prog 9 #[.agg #[.int .i64 9, .int .i64 1, .int .i64 2, .int .i64 0, .int .i32 (-1)]] W fun e W' => e = .returned (.tuple #[.string ⟨#[97, 100, 100, 105, 32, 114, 49, 32, 114, 50, 32, 45, 49]⟩, .int .i64 0]) ∧ Dn W W' := by
  have := format_ok 9 1 2 0 (-1) W E f5
  rw [f1] at this
  exact this
theorem c2 (W : World) (E : Env W) : Calls Tryz.prog 11 #[.string ⟨#[99, 115, 114, 119, 32, 99, 52, 32, 114, 51]⟩] W fun e W' => e = .returned (.tuple #[.agg #[.int .i64 22, .int .i64 0, .int .i64 3, .int .i64 0, .int .i32 4], .int .i64 0]) ∧ Dn W W' := by
  have := parse_yes 22 0 3 0 4 W E f6
  rw [f2] at this
  exact this
theorem c3 (W : World) (E : Env W) : Calls Tryz.prog 11 #[.string ⟨#[97, 100, 100, 32, 114, 49, 32, 114, 50, 32, 32, 114, 51]⟩] W fun e W' => e = .returned (.tuple #[.agg #[.int .i64 0, .int .i64 0, .int .i64 0, .int .i64 0, .int .i32 0], .int .i64 2]) ∧ Dn W W' :=
  parse_no _ W E (by decide) f3
theorem c4 (W : World) (E : Env W) : Calls Tryz.prog 9 #[.agg #[.int .i64 0, .int .i64 0, .int .i64 0, .int .i64 0, .int .i32 0]] W fun e W' => e = .returned (.tuple #[.string ⟨#[]⟩, .int .i64 1]) ∧ Dn W W' :=
  format_no 0 0 0 0 0 W E f4 (by decide) (by decide)
theorem c5 (W : World) (E : Env W) : Calls Tryz.prog 13 #[.string ⟨#[104, 97, 108, 116, 10, 119, 111, 114, 100, 32, 48, 48, 48, 48, 48, 48, 48, 48, 10]⟩] W fun e W' => ∃ A c, e = .returned (.tuple #[.slice A 2 c, .int .i64 0, .int .i64 0]) ∧ Words W' A [1610612736, 0] ∧ Dn W W' := by
  have := assemble_dis [1610612736, 0] rng2 W E (by decide)
  rw [d1] at this
  exact this
theorem c6 (W : World) (E : Env W) : Calls Tryz.prog 13 #[.string ⟨#[104, 97, 108, 116, 10, 104, 97, 108, 116]⟩] W fun e W' => e = .returned (.tuple #[.slice none 0 0, .int .i64 2, .int .i64 1]) ∧ Dn W W' :=
  assemble_half [1610612736] rng1 [104, 97, 108, 116] _ d2.symm (by decide) (by decide) W E (by decide)
theorem c7 (A : Option Addr) (c : Nat) (W : World) (E : Env W) (h : Words W A [11259375]) : Calls Tryz.prog 15 #[.slice A 1 c] W fun e W' => e = .returned (.string ⟨#[119, 111, 114, 100, 32, 48, 48, 97, 98, 99, 100, 101, 102, 10]⟩) ∧ Dn W W' := by
  have := disassemble A c [11259375] W E h (by decide)
  rw [d3] at this
  exact this

/-- a new row of words -/
theorem words_new (W : World) (xs : List Int) (hr : Rng xs) : Words (W.alloc (.cells (xs.map (Value.int .u32)).toArray 45)) (some ⟨W.heap.size, 0, none⟩) xs :=
  ⟨hr, fun _ => ⟨_, rfl, by rw [World.size_alloc]; exact Nat.lt_succ_self _, fun j x hj => by
    rw [add0, World.cell?_alloc_new]
    simp [hj]⟩⟩
theorem c8 (A : Option Addr) (c b : Nat) (W : World) (h : Words W A [1610612736, 0]) (k : Words W (some ⟨b, 0, none⟩) [1610612736, 0]) : Calls Tryz.prog 17 #[.slice A 2 c, .slice (some ⟨b, 0, none⟩) 2 2] W fun e W' => e = .returned (.bool true) ∧ Dn W W' := by
  have := words A (some ⟨b, 0, none⟩) c 2 [1610612736, 0] [1610612736, 0] W h k (by decide) (by decide)
  rw [decide_eq_true rfl] at this
  exact this

set_option maxRecDepth 100000 in
set_option maxHeartbeats 1000000 in
theorem awake (W : World) (E : Env W) : Calls Tryz.prog 8 #[] W fun e W' => e = .returned (.bool true) ∧ Dn W W' := by
  go_enter Tryz.func8, Tryz.ntmps8
  go_wp2_with fail
  refine (c1 _ E).mono ?_
  rintro e w1 ⟨rfl, dn1⟩
  go_wp2_with fail
  refine (c2 _ (E.dn ?_)).mono ?_
  · exact dn1
  rintro e w2 ⟨rfl, dn2⟩
  have k2 := dn1.trans dn2
  go_wp2_with fail
  refine (c3 _ (E.dn (k2.alloc _))).mono ?_
  rintro e w3 ⟨rfl, dn3⟩
  have k3 := (k2.alloc _).trans dn3
  have b3 := (Box.new _ _ _ _ _ _ _).dn dn3
  go_wp2_with fail
  refine (c4 _ (E.dn ?_)).mono ?_
  · first | exact k3 | exact k3.alloc _
  rintro e w4 ⟨rfl, dn4⟩
  have k4 : Dn W w4 := by first | exact k3.trans dn4 | exact (k3.alloc _).trans dn4
  have b4 := by first | exact b3.dn dn4 | exact (b3.dn ((Dn.refl _).alloc _)).dn dn4
  go_wp2_with fail
  refine (c5 _ (E.dn k4)).mono ?_
  rintro e w5 ⟨A, c, rfl, hw5, dn5⟩
  have k5 := k4.trans dn5
  have b5 := b4.dn dn5
  go_wp2_with fail
  refine (c6 _ (E.dn k5)).mono ?_
  rintro e w6 ⟨rfl, dn6⟩
  have k6 := k5.trans dn6
  have hw6 := hw5.dn dn6
  have b6 := b5.dn dn6
  clear b5 b4 b3 hw5
  obtain ⟨q0, q1, q2, q3, q4, q5⟩ := b6.open
  go_wp2_with fail
  refine (c8 A c _ _ (hw6.dn ((Dn.refl _).alloc _)) (words_new w6 [1610612736, 0] rng2)).mono ?_
  rintro e w7 ⟨rfl, dn7⟩
  have k7 := (k6.alloc _).trans dn7
  clear q0 q1 q2 q3 q4 q5 b6 hw6
  go_wp2_with fail
  refine (c7 _ _ _ (E.dn (k7.alloc _)) (words_new w7 [11259375] rng3)).mono ?_
  rintro e w8 ⟨rfl, dn8⟩
  have k8 := (k7.alloc _).trans dn8
  go_wp2
  go_ret
  exact ⟨rfl, k8⟩
end Go.Proofs.YtokhipjpppfkgaaGreatDoor
