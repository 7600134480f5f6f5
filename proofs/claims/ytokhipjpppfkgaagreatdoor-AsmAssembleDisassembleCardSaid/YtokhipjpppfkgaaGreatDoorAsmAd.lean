/-
  The law AsmAssembleDisassemble walked, case by case. Conditions: the package variables hold what the program's text lays there, the lists lie in memory, and those that part the cases.
-/
import Derived.Test.YtokhipjpppfkgaaGreatDoorAsmAwake
namespace Go.Proofs.YtokhipjpppfkgaaGreatDoor
open Go.ChangeShapes Go.WideShapes Go.ChangeAt Go.RowKit Go.Sort
set_option linter.unusedVariables false

theorem lineT_pos (x : Int) : 1 ≤ (M.lineT x).length := by
  cases hd : M.dok x
  · rw [lineT_no hd]; simp
  · rw [lineT_yes hd]
    have hk := (dok_ok hd).1
    obtain ⟨hz, _⟩ := M.ok_parts _ _ _ _ _ hk
    obtain ⟨ho, _⟩ := M.ok_rng _ _ _ _ _ hk
    have h0 : M.dOp x ≠ 0 := fun e => hz (by rw [e]; decide)
    have hm : ∀ n : Nat, n < 26 → n ≠ 0 → 1 ≤ (M.mnems.getD n []).length := by decide
    have := hm (M.dOp x).toNat (by omega) (by omega)
    unfold M.text
    rw [Lib.join_cons, List.length_append]
    unfold M.mnem
    omega
theorem dis_ge (xs : List Int) : 2 * xs.length ≤ (M.disT xs).length := by
  induction xs with
  | nil => simp
  | cons x r ih =>
    have h2 := lineT_pos x
    unfold M.disT at ih ⊢
    simp only [List.map_cons, List.flatten_cons, List.length_append, List.length_cons, List.length_nil]
    omega

set_option maxRecDepth 100000 in
set_option maxHeartbeats 2000000 in
theorem ad_long1 (W : World) (A0 : Option Addr) (c0 : Nat) (xs : List Int) (hx : Words W A0 xs) (hxl : xs.length ≤ 9223372036854775807) (A1 : Option Addr) (c1 : Nat) (ys : List Int) (hy : Words W A1 ys) (hyl : ys.length ≤ 9223372036854775807) (s : List UInt8) (hm : s.length ≤ 9223372036854775807) (E : Env W) (h : ¬ xs.length ≤ 200) :
    Calls Tryz.prog 4 #[.slice A0 xs.length c0, .slice A1 ys.length c1, .string ⟨s.toArray⟩] W fun e W' => e = .returned (.bool true) ∧ Dn W W' := by
  have h1 : (200 : Int) < xs.length := by omega
  go_enter Tryz.func4, Tryz.ntmps4
  go_wp2_with fail
  refine (awake _ E).mono ?_
  rintro e w1 ⟨rfl, dn1⟩
  go_wp2_with fail
  refine (awake _ (E.dn dn1)).mono ?_
  rintro e w2 ⟨rfl, dn2⟩
  go_wp2
  go_ret
  exact ⟨rfl, dn1.trans dn2⟩

set_option maxRecDepth 100000 in
set_option maxHeartbeats 2000000 in
theorem ad_long2 (W : World) (A0 : Option Addr) (c0 : Nat) (xs : List Int) (hx : Words W A0 xs) (hxl : xs.length ≤ 9223372036854775807) (A1 : Option Addr) (c1 : Nat) (ys : List Int) (hy : Words W A1 ys) (hyl : ys.length ≤ 9223372036854775807) (s : List UInt8) (hm : s.length ≤ 9223372036854775807) (E : Env W) (h0 : xs.length ≤ 200) (h : ¬ ys.length ≤ 200) :
    Calls Tryz.prog 4 #[.slice A0 xs.length c0, .slice A1 ys.length c1, .string ⟨s.toArray⟩] W fun e W' => e = .returned (.bool true) ∧ Dn W W' := by
  have h1 : ¬ (200 : Int) < xs.length := by omega
  have h2 : (200 : Int) < ys.length := by omega
  go_enter Tryz.func4, Tryz.ntmps4
  go_wp2_with fail
  refine (awake _ E).mono ?_
  rintro e w1 ⟨rfl, dn1⟩
  go_wp2_with fail
  refine (awake _ (E.dn dn1)).mono ?_
  rintro e w2 ⟨rfl, dn2⟩
  go_wp2
  go_ret
  exact ⟨rfl, dn1.trans dn2⟩

set_option maxRecDepth 100000 in
set_option maxHeartbeats 2000000 in
theorem ad_long3 (W : World) (A0 : Option Addr) (c0 : Nat) (xs : List Int) (hx : Words W A0 xs) (hxl : xs.length ≤ 9223372036854775807) (A1 : Option Addr) (c1 : Nat) (ys : List Int) (hy : Words W A1 ys) (hyl : ys.length ≤ 9223372036854775807) (s : List UInt8) (hm : s.length ≤ 9223372036854775807) (E : Env W) (h0 : xs.length ≤ 200) (h0b : ys.length ≤ 200) (h : ¬ s.length ≤ 2000) :
    Calls Tryz.prog 4 #[.slice A0 xs.length c0, .slice A1 ys.length c1, .string ⟨s.toArray⟩] W fun e W' => e = .returned (.bool true) ∧ Dn W W' := by
  have h1 : ¬ (200 : Int) < xs.length := by omega
  have h2 : ¬ (200 : Int) < ys.length := by omega
  have h3 : (2000 : Int) < s.length := by omega
  go_enter Tryz.func4, Tryz.ntmps4
  go_wp2_with fail
  refine (awake _ E).mono ?_
  rintro e w1 ⟨rfl, dn1⟩
  go_wp2_with fail
  refine (awake _ (E.dn dn1)).mono ?_
  rintro e w2 ⟨rfl, dn2⟩
  go_wp2
  go_ret
  exact ⟨rfl, dn1.trans dn2⟩

set_option maxRecDepth 100000 in
set_option maxHeartbeats 2000000 in
theorem ad_same (W : World) (A0 : Option Addr) (c0 : Nat) (xs : List Int) (hx : Words W A0 xs) (hxl : xs.length ≤ 9223372036854775807) (A1 : Option Addr) (c1 : Nat) (ys : List Int) (hy : Words W A1 ys) (hyl : ys.length ≤ 9223372036854775807) (s : List UInt8) (hm : s.length ≤ 9223372036854775807) (E : Env W) (h0 : xs.length ≤ 200) (h0b : ys.length ≤ 200) (h0c : s.length ≤ 2000) (hxy : xs = ys) :
    Calls Tryz.prog 4 #[.slice A0 xs.length c0, .slice A1 ys.length c1, .string ⟨s.toArray⟩] W fun e W' => e = .returned (.bool true) ∧ Dn W W' := by
  have h1 : ¬ (200 : Int) < xs.length := by omega
  have h2 : ¬ (200 : Int) < ys.length := by omega
  have h3 : ¬ (2000 : Int) < s.length := by omega
  subst hxy
  go_enter Tryz.func4, Tryz.ntmps4
  go_wp2_with fail
  refine (awake _ E).mono ?_
  rintro e w1 ⟨rfl, dn1⟩
  go_wp2_with fail
  refine (disassemble A0 c0 xs _ (E.dn dn1) (hx.dn dn1) (by omega)).mono ?_
  rintro e w2 ⟨rfl, dn2⟩
  have k2 := dn1.trans dn2
  go_wp2_with fail
  refine (assemble_dis xs hx.1 _ (E.dn k2) (by omega)).mono ?_
  rintro e w3 ⟨B, cb, rfl, hw3, dn3⟩
  have k3 := k2.trans dn3
  go_wp2_with fail
  refine (words B A0 cb c0 xs xs _ hw3 (hx.dn k3) (by omega) (by omega)).mono ?_
  rintro e w4 ⟨rfl, dn4⟩
  have k4 := k3.trans dn4
  go_wp2_with fail
  refine (disassemble A1 c1 xs _ (E.dn k4) (hy.dn k4) (by omega)).mono ?_
  rintro e w5 ⟨rfl, dn5⟩
  have k5 := k4.trans dn5
  go_wp2_with fail
  refine (words A0 A1 c0 c1 xs xs _ (hx.dn k5) (hy.dn k5) (by omega) (by omega)).mono ?_
  rintro e w6 ⟨rfl, dn6⟩
  have k6 := k5.trans dn6
  go_wp2_with fail
  refine (assemble_any s _ (E.dn k6) (by omega)).mono ?_
  rintro e w7 ⟨⟨zs, B2, cz, hz, hd, hzl, rfl, hw7⟩ | ⟨k, _, _, rfl⟩, dn7⟩
  · have k7 := k6.trans dn7
    have hg := dis_ge zs
    have hg2 : zs.length ≤ 1000 := by rw [hd] at hg; omega
    clear hg hzl
    have hd2 : (M.disT zs == s) = true := beq_iff_eq.2 hd
    go_wp2_with fail
    refine (disassemble B2 cz zs _ (E.dn k7) hw7 hg2).mono ?_
    rintro e w8 ⟨rfl, dn8⟩
    clear hd
    go_wp2
    go_ret
    exact ⟨rfl, k7.trans dn8⟩
  · go_wp2
    go_ret
    exact ⟨rfl, k6.trans dn7⟩

set_option maxRecDepth 100000 in
set_option maxHeartbeats 2000000 in
theorem ad_other (W : World) (A0 : Option Addr) (c0 : Nat) (xs : List Int) (hx : Words W A0 xs) (hxl : xs.length ≤ 9223372036854775807) (A1 : Option Addr) (c1 : Nat) (ys : List Int) (hy : Words W A1 ys) (hyl : ys.length ≤ 9223372036854775807) (s : List UInt8) (hm : s.length ≤ 9223372036854775807) (E : Env W) (h0 : xs.length ≤ 200) (h0b : ys.length ≤ 200) (h0c : s.length ≤ 2000) (hxy : xs ≠ ys) :
    Calls Tryz.prog 4 #[.slice A0 xs.length c0, .slice A1 ys.length c1, .string ⟨s.toArray⟩] W fun e W' => e = .returned (.bool true) ∧ Dn W W' := by
  have h1 : ¬ (200 : Int) < xs.length := by omega
  have h2 : ¬ (200 : Int) < ys.length := by omega
  have h3 : ¬ (2000 : Int) < s.length := by omega
  have q1 : (M.disT xs == M.disT ys) = false := by
    cases hb : (M.disT xs == M.disT ys)
    · rfl
    · exact absurd (dis_inj hx.1 hy.1 (beq_iff_eq.1 hb)) hxy
  have q2 : decide (xs = ys) = false := decide_eq_false hxy
  go_enter Tryz.func4, Tryz.ntmps4
  go_wp2_with fail
  refine (awake _ E).mono ?_
  rintro e w1 ⟨rfl, dn1⟩
  go_wp2_with fail
  refine (disassemble A0 c0 xs _ (E.dn dn1) (hx.dn dn1) (by omega)).mono ?_
  rintro e w2 ⟨rfl, dn2⟩
  have k2 := dn1.trans dn2
  go_wp2_with fail
  refine (assemble_dis xs hx.1 _ (E.dn k2) (by omega)).mono ?_
  rintro e w3 ⟨B, cb, rfl, hw3, dn3⟩
  have k3 := k2.trans dn3
  go_wp2_with fail
  refine (words B A0 cb c0 xs xs _ hw3 (hx.dn k3) (by omega) (by omega)).mono ?_
  rintro e w4 ⟨rfl, dn4⟩
  have k4 := k3.trans dn4
  go_wp2_with fail
  refine (disassemble A1 c1 ys _ (E.dn k4) (hy.dn k4) (by omega)).mono ?_
  rintro e w5 ⟨rfl, dn5⟩
  have k5 := k4.trans dn5
  go_wp2_with fail
  refine (words A0 A1 c0 c1 xs ys _ (hx.dn k5) (hy.dn k5) (by omega) (by omega)).mono ?_
  rintro e w6 ⟨rfl, dn6⟩
  have k6 := k5.trans dn6
  go_wp2_with fail
  refine (assemble_any s _ (E.dn k6) (by omega)).mono ?_
  rintro e w7 ⟨⟨zs, B2, cz, hz, hd, hzl, rfl, hw7⟩ | ⟨k, _, _, rfl⟩, dn7⟩
  · have k7 := k6.trans dn7
    have hg := dis_ge zs
    have hg2 : zs.length ≤ 1000 := by rw [hd] at hg; omega
    clear hg hzl
    have hd2 : (M.disT zs == s) = true := beq_iff_eq.2 hd
    go_wp2_with fail
    refine (disassemble B2 cz zs _ (E.dn k7) hw7 hg2).mono ?_
    rintro e w8 ⟨rfl, dn8⟩
    clear hd
    go_wp2
    go_ret
    exact ⟨rfl, k7.trans dn8⟩
  · go_wp2
    go_ret
    exact ⟨rfl, k6.trans dn7⟩

theorem ad_main (W : World) (A0 : Option Addr) (c0 : Nat) (xs : List Int) (hx : Words W A0 xs) (hxl : xs.length ≤ 9223372036854775807) (A1 : Option Addr) (c1 : Nat) (ys : List Int) (hy : Words W A1 ys) (hyl : ys.length ≤ 9223372036854775807) (s : List UInt8) (hm : s.length ≤ 9223372036854775807) (E : Env W) (h0 : xs.length ≤ 200) (h0b : ys.length ≤ 200) (h0c : s.length ≤ 2000) :
    Calls Tryz.prog 4 #[.slice A0 xs.length c0, .slice A1 ys.length c1, .string ⟨s.toArray⟩] W fun e W' => e = .returned (.bool true) ∧ Dn W W' := by
  by_cases hxy : xs = ys
  · exact ad_same W A0 c0 xs hx hxl A1 c1 ys hy hyl s hm E h0 h0b h0c hxy
  · exact ad_other W A0 c0 xs hx hxl A1 c1 ys hy hyl s hm E h0 h0b h0c hxy

theorem adWalk0 (W : World) (A0 : Option Addr) (c0 : Nat) (xs : List Int) (hx : Words W A0 xs) (hxl : xs.length ≤ 9223372036854775807) (A1 : Option Addr) (c1 : Nat) (ys : List Int) (hy : Words W A1 ys) (hyl : ys.length ≤ 9223372036854775807) (s : List UInt8) (hm : s.length ≤ 9223372036854775807) (E : Env W) :
    Calls Tryz.prog 4 #[.slice A0 xs.length c0, .slice A1 ys.length c1, .string ⟨s.toArray⟩] W fun e W' => e = .returned (.bool true) ∧ Dn W W' := by
  by_cases h1 : xs.length ≤ 200
  · by_cases h2 : ys.length ≤ 200
    · by_cases h3 : s.length ≤ 2000
      · exact ad_main W A0 c0 xs hx hxl A1 c1 ys hy hyl s hm E h1 h2 h3
      · exact ad_long3 W A0 c0 xs hx hxl A1 c1 ys hy hyl s hm E h1 h2 h3
    · exact ad_long2 W A0 c0 xs hx hxl A1 c1 ys hy hyl s hm E h1 h2
  · exact ad_long1 W A0 c0 xs hx hxl A1 c1 ys hy hyl s hm E h1

theorem adWalk {W : World} (A0 : Option Addr) (c0 : Nat) (xs : List Int) (hx : Words W A0 xs) (hxl : xs.length ≤ 9223372036854775807) (A1 : Option Addr) (c1 : Nat) (ys : List Int) (hy : Words W A1 ys) (hyl : ys.length ≤ 9223372036854775807) (s : List UInt8) (hm : s.length ≤ 9223372036854775807) (E : Env W) :
    Calls Tryz.prog 4 #[.slice A0 xs.length c0, .slice A1 ys.length c1, .string ⟨s.toArray⟩] W fun e W' => e = .returned (.bool true) ∧ Dn W W' := by
  exact adWalk0 W A0 c0 xs hx hxl A1 c1 ys hy hyl s hm E

end Go.Proofs.YtokhipjpppfkgaaGreatDoor
