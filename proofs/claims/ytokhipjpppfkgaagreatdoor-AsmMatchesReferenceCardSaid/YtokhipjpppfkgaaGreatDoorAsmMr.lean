/-
  The law AsmMatchesReference walked. Conditions: the package variables hold what the program's text lays there, the list lies in memory, and those that part the cases.
-/
import Derived.Test.YtokhipjpppfkgaaGreatDoorRefGet
import Derived.Test.YtokhipjpppfkgaaGreatDoorAsmAwake
namespace Go.Proofs.YtokhipjpppfkgaaGreatDoor
open Go.ChangeShapes Go.WideShapes Go.ChangeAt Go.RowKit Go.Sort
set_option linter.unusedVariables false

theorem refTextF (op rd ra rb imm : Int) (W : World) (i1 : -2147483648 ≤ imm) (i2 : imm < 2147483648) :
    Calls Tryz.prog 10 #[.agg #[.int .i64 op, .int .i64 rd, .int .i64 ra, .int .i64 rb, .int .i32 imm]] W fun e W' => e = .returned (.tuple #[.string ⟨(fmtT op rd ra rb imm).toArray⟩, .int .i64 (fmtE op rd ra rb imm)]) ∧ Dn W W' := by
  cases h : M.ok op rd ra rb imm
  · rw [(fmt_no h).1, (fmt_no h).2]; exact refText_no op rd ra rb imm W h i1 i2
  · rw [(fmt_ok h).1, (fmt_ok h).2]; exact refText_yes op rd ra rb imm W h

/-- the two Parse return the same -/
theorem parse_both (s : List UInt8) (hs : s.length ≤ 100000) : ∃ o d a b i e : Int,
    (∀ W, Env W → Calls Tryz.prog 11 #[.string ⟨s.toArray⟩] W fun x W' => x = .returned (.tuple #[.agg #[.int .i64 o, .int .i64 d, .int .i64 a, .int .i64 b, .int .i32 i], .int .i64 e]) ∧ Dn W W') ∧
    (∀ W, Calls Tryz.prog 12 #[.string ⟨s.toArray⟩] W fun x W' => x = .returned (.tuple #[.agg #[.int .i64 o, .int .i64 d, .int .i64 a, .int .i64 b, .int .i32 i], .int .i64 e]) ∧ Dn W W') := by
  by_cases h : ∃ op rd ra rb imm, M.ok op rd ra rb imm = true ∧ M.text op rd ra rb imm = s
  · obtain ⟨op, rd, ra, rb, imm, hk, rfl⟩ := h
    refine ⟨op, rd, ra, rb, imm, 0, fun W E => parse_yes op rd ra rb imm W E hk, fun W => (refParse_any _ W hs).mono ?_⟩
    rintro e W' ⟨h | ⟨hno, _⟩, dn⟩
    · obtain ⟨op', rd', ra', rb', imm', hk', ht, he⟩ := h
      obtain ⟨rfl, rfl, rfl, rfl, rfl⟩ := text_inj hk' hk ht
      exact ⟨he, dn⟩
    · exact absurd rfl (hno _ _ _ _ _ hk)
  · refine ⟨0, 0, 0, 0, 0, 2, fun W E => parse_no s W E hs (fun op rd ra rb imm hk e => h ⟨op, rd, ra, rb, imm, hk, e⟩), fun W => (refParse_any s W hs).mono ?_⟩
    rintro e W' ⟨h' | ⟨_, he⟩, dn⟩
    · obtain ⟨op', rd', ra', rb', imm', hk', ht, _⟩ := h'
      exact absurd ⟨_, _, _, _, _, hk', ht⟩ h
    · exact ⟨he, dn⟩

theorem gd_fine (x : Int) (h : 0 ≤ x ∧ x < 4294967296) : ¬ Bad (gd x) := fun hb => hb ⟨rfl, x, h.1, h.2, rfl⟩
/-- the lines up to the first that is none -/
theorem good_bad : ∀ l : List (List UInt8 × Bool), (∃ zs, Rng zs ∧ l = zs.map gd) ∨ (∃ zs y rest, Rng zs ∧ l = zs.map gd ++ y :: rest ∧ Bad y)
  | [] => .inl ⟨[], (fun x hx => absurd hx (by simp)), rfl⟩
  | y :: r => by
    by_cases hb : Bad y
    · exact .inr ⟨[], y, r, (fun x hx => absurd hx (by simp)), rfl, hb⟩
    · obtain ⟨h1, x, x0, x1, hx⟩ := Classical.not_not.1 hb
      have ey : y = gd x := by unfold gd; rw [hx, ← h1]
      have hr : ∀ zs, Rng zs → Rng (x :: zs) := fun zs h z hz => by
        rcases List.mem_cons.1 hz with rfl | hz
        · exact ⟨x0, x1⟩
        · exact h z hz
      rcases good_bad r with ⟨zs, hz, e⟩ | ⟨zs, y', rest, hz, e, hb'⟩
      · exact .inl ⟨x :: zs, hr zs hz, by rw [ey, e]; rfl⟩
      · exact .inr ⟨x :: zs, y', rest, hr zs hz, by rw [ey, e]; rfl, hb'⟩
theorem good_uniq : ∀ {xs zs : List Int}, Rng xs → Rng zs → xs.map gd = zs.map gd → xs = zs
  | [], [], _, _, _ => rfl
  | [], z :: zs, _, _, h => by simp at h
  | x :: xs, [], _, _, h => by simp at h
  | x :: xs, z :: zs, hx, hz, h => by
    simp only [List.map_cons, List.cons.injEq] at h
    have e : x = z := lineT_inj (hx x List.mem_cons_self) (hz z List.mem_cons_self) (congrArg Prod.fst h.1)
    rw [e, good_uniq (fun y hy => hx y (List.mem_cons_of_mem _ hy)) (fun y hy => hz y (List.mem_cons_of_mem _ hy)) h.2]
theorem good_not : ∀ {xs zs : List Int} {y : List UInt8 × Bool} {rest : List (List UInt8 × Bool)}, Rng xs → Bad y → xs.map gd = zs.map gd ++ y :: rest → False
  | [], zs, y, rest, _, _, h => by simp at h
  | x :: xs, [], y, rest, hx, hb, h => by
    simp only [List.map_cons, List.map_nil, List.nil_append, List.cons.injEq] at h
    exact gd_fine x (hx x List.mem_cons_self) (h.1 ▸ hb)
  | x :: xs, z :: zs, y, rest, hx, hb, h => by
    simp only [List.map_cons, List.cons_append, List.cons.injEq] at h
    exact good_not (fun y hy => hx y (List.mem_cons_of_mem _ hy)) hb h.2
theorem bad_len : ∀ {xs zs : List Int} {y y' : List UInt8 × Bool} {rest rest' : List (List UInt8 × Bool)}, Rng xs → Rng zs → Bad y → Bad y' → xs.map gd ++ y :: rest = zs.map gd ++ y' :: rest' → xs.length = zs.length
  | [], [], _, _, _, _, _, _, _, _, _ => rfl
  | [], z :: zs, y, y', rest, rest', _, hz, hb, _, h => by
    simp only [List.map_nil, List.nil_append, List.map_cons, List.cons_append, List.cons.injEq] at h
    exact absurd (h.1 ▸ hb) (gd_fine z (hz z List.mem_cons_self))
  | x :: xs, [], y, y', rest, rest', hx, _, _, hb, h => by
    simp only [List.map_nil, List.nil_append, List.map_cons, List.cons_append, List.cons.injEq] at h
    exact absurd (h.1 ▸ hb) (gd_fine x (hx x List.mem_cons_self))
  | x :: xs, z :: zs, y, y', rest, rest', hx, hz, hb, hb', h => by
    simp only [List.map_cons, List.cons_append, List.cons.injEq] at h
    rw [List.length_cons, List.length_cons, bad_len (fun y hy => hx y (List.mem_cons_of_mem _ hy)) (fun y hy => hz y (List.mem_cons_of_mem _ hy)) hb hb' h.2]

theorem ret_good {W W' : World} {s : List UInt8} {e : Ending} {zs : List Int} (hz : Rng zs) (hl : M.ln s = zs.map gd) (h : AsmRet W s e W') : ∃ A c, e = .returned (.tuple #[.slice A zs.length c, .int .i64 0, .int .i64 0]) ∧ Words W' A zs ∧ Dn W W' := by
  obtain ⟨⟨xs, v, hx, hln, he, hrow⟩ | ⟨xs, y, rest, hx, hln, hb, he⟩, dn⟩ := h
  · have e1 := good_uniq hx hz (hln.symm.trans hl)
    subst e1
    obtain ⟨A, c, rfl, hw⟩ := own_words hx hrow
    exact ⟨A, c, he, hw, dn⟩
  · exact (good_not hz hb (hl.symm.trans hln)).elim
theorem ret_bad {W W' : World} {s : List UInt8} {e : Ending} {zs : List Int} {y : List UInt8 × Bool} {rest : List (List UInt8 × Bool)} (hz : Rng zs) (hb : Bad y) (hl : M.ln s = zs.map gd ++ y :: rest) (h : AsmRet W s e W') : e = .returned (.tuple #[.slice none 0 0, .int .i64 2, .int .i64 (zs.length : Nat)]) ∧ Dn W W' := by
  obtain ⟨⟨xs, v, hx, hln, he, hrow⟩ | ⟨xs, y', rest', hx, hln, hb', he⟩, dn⟩ := h
  · exact (good_not hx hb (hln.symm.trans hl)).elim
  · rw [bad_len hx hz hb' hb (hln.symm.trans hl)] at he
    exact ⟨he, dn⟩

set_option maxRecDepth 100000 in
set_option maxHeartbeats 2000000 in
theorem mr_long1 (op rd ra rb im : Int) (W : World) (A0 : Option Addr) (cp : Nat) (xs : List Int) (s : List UInt8) (hm : s.length ≤ 9223372036854775807) (hxl : xs.length ≤ 9223372036854775807) (E : Env W) (h : ¬ xs.length ≤ 200) :
    Calls Tryz.prog 3 #[.agg #[.int .i64 op, .int .i64 rd, .int .i64 ra, .int .i64 rb, .int .i32 im], .slice A0 xs.length cp, .string ⟨s.toArray⟩] W fun e W' => e = .returned (.bool true) ∧ Dn W W' := by
  have h1 : (200 : Int) < xs.length := by omega
  go_enter Tryz.func3, Tryz.ntmps3
  go_wp2_with fail
  refine (awake _ (E.dn ((Dn.refl _).alloc _))).mono ?_
  rintro e w1 ⟨rfl, dn1⟩
  have k1 := ((Dn.refl W).alloc _).trans dn1
  go_wp2_with fail
  refine (awake _ (E.dn k1)).mono ?_
  rintro e w2 ⟨rfl, dn2⟩
  go_wp2
  go_ret
  exact ⟨rfl, k1.trans dn2⟩

set_option maxRecDepth 100000 in
set_option maxHeartbeats 2000000 in
theorem mr_long2 (op rd ra rb im : Int) (W : World) (A0 : Option Addr) (cp : Nat) (xs : List Int) (s : List UInt8) (hm : s.length ≤ 9223372036854775807) (hxl : xs.length ≤ 200) (E : Env W) (h : ¬ s.length ≤ 2000) :
    Calls Tryz.prog 3 #[.agg #[.int .i64 op, .int .i64 rd, .int .i64 ra, .int .i64 rb, .int .i32 im], .slice A0 xs.length cp, .string ⟨s.toArray⟩] W fun e W' => e = .returned (.bool true) ∧ Dn W W' := by
  have h0 : ¬ (200 : Int) < xs.length := by omega
  have h1 : (2000 : Int) < s.length := by omega
  go_enter Tryz.func3, Tryz.ntmps3
  go_wp2_with fail
  refine (awake _ (E.dn ((Dn.refl _).alloc _))).mono ?_
  rintro e w1 ⟨rfl, dn1⟩
  have k1 := ((Dn.refl W).alloc _).trans dn1
  go_wp2_with fail
  refine (awake _ (E.dn k1)).mono ?_
  rintro e w2 ⟨rfl, dn2⟩
  go_wp2
  go_ret
  exact ⟨rfl, k1.trans dn2⟩

set_option maxRecDepth 100000 in
set_option maxHeartbeats 4000000 in
theorem mr_main (op rd ra rb im : Int) (i1 : -2147483648 ≤ im) (i2 : im < 2147483648) (W : World) (A0 : Option Addr) (cp : Nat) (xs : List Int) (hx : Words W A0 xs) (s : List UInt8) (hxl : xs.length ≤ 200) (hs : s.length ≤ 2000) (E : Env W) :
    Calls Tryz.prog 3 #[.agg #[.int .i64 op, .int .i64 rd, .int .i64 ra, .int .i64 rb, .int .i32 im], .slice A0 xs.length cp, .string ⟨s.toArray⟩] W fun e W' => e = .returned (.bool true) ∧ Dn W W' := by
  have h0 : ¬ (200 : Int) < xs.length := by omega
  have h1 : ¬ (2000 : Int) < s.length := by omega
  obtain ⟨po, pd, pa, pb, pi_, pe, hp1, hp2⟩ := parse_both s (by omega)
  have HP1 := Lib.hid hp1
  have HP2 := Lib.hid hp2
  clear hp1 hp2
  go_enter Tryz.func3, Tryz.ntmps3
  go_wp2_with fail
  refine (awake _ (E.dn ((Dn.refl _).alloc _))).mono ?_
  rintro e w1 ⟨rfl, dn1⟩
  have k1 := ((Dn.refl W).alloc _).trans dn1
  have bi := (Box.new W (.int .i64 op) (.int .i64 rd) (.int .i64 ra) (.int .i64 rb) (.int .i32 im) 23).dn dn1
  obtain ⟨c0, c1, c2, c3, c4, c5⟩ := bi.open
  go_wp2_with fail
  refine (format op rd ra rb im _ (E.dn k1) i1 i2).mono ?_
  rintro e w2 ⟨rfl, dn2⟩
  have k2 := k1.trans dn2
  have bi2 := bi.dn dn2
  clear c0 c1 c2 c3 c4 c5 bi
  obtain ⟨c0, c1, c2, c3, c4, c5⟩ := bi2.open
  go_wp2_with fail
  refine (refTextF op rd ra rb im _ i1 i2).mono ?_
  rintro e w3 ⟨rfl, dn3⟩
  have k3 := k2.trans dn3
  clear c0 c1 c2 c3 c4 c5 bi2
  go_wp2_with fail
  refine (HP1.out _ (E.dn k3)).mono ?_
  rintro e w4 ⟨rfl, dn4⟩
  have k4 := (k3.trans dn4).alloc (.cells #[.int .i64 po, .int .i64 pd, .int .i64 pa, .int .i64 pb, .int .i32 pi_] 23)
  have bc := Box.new w4 (.int .i64 po) (.int .i64 pd) (.int .i64 pa) (.int .i64 pb) (.int .i32 pi_) 23
  go_wp2_with fail
  refine (HP2.out _).mono ?_
  rintro e w5 ⟨rfl, dn5⟩
  have k5 := (k4.trans dn5).alloc (.cells #[.int .i64 po, .int .i64 pd, .int .i64 pa, .int .i64 pb, .int .i32 pi_] 23)
  have bc5 := bc.dn (dn5.alloc (.cells #[.int .i64 po, .int .i64 pd, .int .i64 pa, .int .i64 pb, .int .i32 pi_] 23))
  have bd5 := Box.new w5 (.int .i64 po) (.int .i64 pd) (.int .i64 pa) (.int .i64 pb) (.int .i32 pi_) 23
  clear bc
  go_wp2_with fail
  refine (assemble s _ (E.dn k5) (by omega)).mono ?_
  intro e w6 h6
  rcases good_bad (M.ln s) with ⟨zs, hz, hl⟩ | ⟨zs, y, rest, hz, hl, hb⟩
  · obtain ⟨A1, cp1, rfl, hw1, dn6⟩ := ret_good hz hl h6
    have hzl : zs.length ≤ 2000 := by
      have h1 := ln_len s
      rw [hl, List.length_map] at h1
      omega
    have HZ := Lib.hid hz
    have HL := Lib.hid hl
    clear h6 hz hl
    have k6 := k5.trans dn6
    go_wp2_with fail
    refine (refGet s _ (by omega)).mono ?_
    intro e w7 h7
    obtain ⟨A2, cp2, rfl, hw2, dn7⟩ := ret_good HZ.out HL.out h7
    clear h7
    have k7 := k6.trans dn7
    have hw17 := hw1.dn dn7
    obtain ⟨c0, c1, c2, c3, c4, c5⟩ := ((bc5.dn dn6).dn dn7).open
    obtain ⟨e0, e1, e2, e3, e4, e5⟩ := ((bd5.dn dn6).dn dn7).open
    go_wp2_with fail
    refine (disassemble A0 cp xs _ (E.dn k7) (hx.dn k7) (by omega)).mono ?_
    rintro e w8 ⟨rfl, dn8⟩
    go_wp2_with fail
    refine (refPut A0 cp xs _ (hx.dn (k7.trans dn8)) (by omega)).mono ?_
    rintro e w9 ⟨rfl, dn9⟩
    have k9 := (k7.trans dn8).trans dn9
    clear c0 c1 c2 c3 c4 c5 e0 e1 e2 e3 e4 e5
    go_wp2_with fail
    refine (words A1 A2 cp1 cp2 zs zs _ ((hw17.dn dn8).dn dn9) ((hw2.dn dn8).dn dn9) (by omega) (by omega)).mono ?_
    rintro e w10 ⟨rfl, dn10⟩
    have hdz : decide (zs = zs) = true := by simp
    go_wp2
    go_ret
    exact ⟨rfl, k9.trans dn10⟩
  · obtain ⟨rfl, dn6⟩ := ret_bad hz hb hl h6
    have HZ := Lib.hid hz
    have HL := Lib.hid hl
    have HB := Lib.hid hb
    clear h6 hz hl hb
    have k6 := k5.trans dn6
    go_wp2_with fail
    refine (refGet s _ (by omega)).mono ?_
    intro e w7 h7
    obtain ⟨rfl, dn7⟩ := ret_bad HZ.out HB.out HL.out h7
    clear h7
    have k7 := k6.trans dn7
    obtain ⟨c0, c1, c2, c3, c4, c5⟩ := ((bc5.dn dn6).dn dn7).open
    obtain ⟨e0, e1, e2, e3, e4, e5⟩ := ((bd5.dn dn6).dn dn7).open
    go_wp2_with fail
    refine (disassemble A0 cp xs _ (E.dn k7) (hx.dn k7) (by omega)).mono ?_
    rintro e w8 ⟨rfl, dn8⟩
    go_wp2_with fail
    refine (refPut A0 cp xs _ (hx.dn (k7.trans dn8)) (by omega)).mono ?_
    rintro e w9 ⟨rfl, dn9⟩
    have k9 := (k7.trans dn8).trans dn9
    clear c0 c1 c2 c3 c4 c5 e0 e1 e2 e3 e4 e5
    go_wp2_with fail
    refine (words none none 0 0 [] [] _ ⟨(fun x hx => absurd hx (by simp)), fun hx => absurd rfl hx⟩ ⟨(fun x hx => absurd hx (by simp)), fun hx => absurd rfl hx⟩ (by simp) (by simp)).mono ?_
    rintro e w10 ⟨rfl, dn10⟩
    have hdz : decide (([] : List Int) = []) = true := by simp
    go_wp2
    go_ret
    exact ⟨rfl, k9.trans dn10⟩

theorem mrWalk (op rd ra rb im : Int) (i1 : -2147483648 ≤ im) (i2 : im < 2147483648) (A0 : Option Addr) (cp : Nat) (xs : List Int) {W : World} (hx : Words W A0 xs) (hm : xs.length ≤ 9223372036854775807) (s : List UInt8) (hs : s.length ≤ 9223372036854775807) (E : Env W) :
    Calls Tryz.prog 3 #[.agg #[.int .i64 op, .int .i64 rd, .int .i64 ra, .int .i64 rb, .int .i32 im], .slice A0 xs.length cp, .string ⟨s.toArray⟩] W fun e W' => e = .returned (.bool true) ∧ Dn W W' := by
  by_cases h1 : xs.length ≤ 200
  · by_cases h2 : s.length ≤ 2000
    · exact mr_main op rd ra rb im i1 i2 W A0 cp xs hx s h1 h2 E
    · exact mr_long2 op rd ra rb im W A0 cp xs s hs h1 E h2
  · exact mr_long1 op rd ra rb im W A0 cp xs s hs hm E h1
end Go.Proofs.YtokhipjpppfkgaaGreatDoor
