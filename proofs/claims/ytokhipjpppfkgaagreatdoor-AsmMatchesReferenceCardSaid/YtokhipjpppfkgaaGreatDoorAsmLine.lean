/-
  What undecodable, lineOf and wordOf of package asm return when called: contracts over the translated program. Conditions: the package variables hold what the program's text lays there; strings are not longer than a hundred thousand bytes.
-/
import Derived.Test.YtokhipjpppfkgaaGreatDoorAsmWord
namespace Go.Proofs.YtokhipjpppfkgaaGreatDoor
open Go.ChangeShapes Go.WideShapes Go.ChangeAt Go.RowKit Go.Sort
set_option linter.unusedVariables false

theorem hex8_len (x : Int) (h0 : 0 ≤ x) (h1 : x < 4294967296) : (M.hex8 x).length = 8 := by
  have hl := M.hex_le 7 x.toNat (by omega)
  unfold M.hex8
  rw [List.length_append, Lib.repeatL_length]
  simp; omega

set_option maxHeartbeats 1000000 in
theorem undecodable_yes (x : Int) (W : World) (E : Env W) (h0 : 0 ≤ x) (h1 : x < 4294967296) (hd : M.dok x = false) :
    Calls Tryz.prog 55 #[.string ⟨(M.hex8 x).toArray⟩] W fun e W' => e = .returned (.tuple #[.int .u32 x, .bool true]) ∧ Dn W W' := by
  have hl := hex8_len x h0 h1
  have hp := pu16_hex8 x h0 h1
  obtain ⟨u, rfl⟩ := Int.eq_ofNat_of_zero_le h0
  rw [Int.toNat_natCast] at hp
  have HP := Lib.hid hp
  have HN : Hid (M.hex8 u ≠ []) := Lib.hid fun e => by rw [e] at hl; cases hl
  have hl2 : (M.hex8 u).length ≤ 100000 := by omega
  clear hp hl
  go_enter Tryz.func55, Tryz.ntmps55
  go_wp2_with fail
  refine (parseUint_ok _ _ HN.out hl2 u HP.out).mono ?_
  rintro e w1 ⟨rfl, dn1⟩
  go_wp2_with fail
  refine (hexText _ _ (E.dn dn1) h0 h1).mono ?_
  rintro e w2 ⟨rfl, dn2⟩
  go_wp2_with fail
  refine (decode_no _ _ (E.dn (dn1.trans dn2)).tabs h0 h1 hd).mono ?_
  rintro e w3 ⟨rfl, up3⟩
  go_wp2
  go_ret2
  exact ⟨rfl, ((dn1.trans dn2).trans up3.dn).alloc _⟩

set_option maxHeartbeats 1000000 in
theorem undecodable_err (s : List UInt8) (W : World) (E : Env W) (C : Calls Tryz.prog 72 #[.string ⟨s.toArray⟩, .int .i64 16, .int .i64 32] W (PuErr W)) :
    Calls Tryz.prog 55 #[.string ⟨s.toArray⟩] W fun e W' => e = .returned (.tuple #[.int .u32 0, .bool false]) ∧ Dn W W' := by
  have HC := Lib.hid C
  clear C
  go_enter Tryz.func55, Tryz.ntmps55
  go_wp2_with fail
  refine HC.out.mono ?_
  rintro e w1 ⟨x, N, hx, rfl, dn1⟩
  go_wp2
  go_ret2
  exact ⟨rfl, dn1⟩

set_option maxHeartbeats 1000000 in
theorem undecodable_no (s : List UInt8) (W : World) (E : Env W) (hs : s.length ≤ 100000) (h : ∀ x : Int, 0 ≤ x → x < 4294967296 → M.dok x = false → M.hex8 x ≠ s) :
    Calls Tryz.prog 55 #[.string ⟨s.toArray⟩] W fun e W' => e = .returned (.tuple #[.int .u32 0, .bool false]) ∧ Dn W W' := by
  by_cases hne : s = []
  · subst hne
    exact undecodable_err [] W E (parseUint_em W E)
  · cases hp : M.pu16 0 s with
    | «syntax» => exact undecodable_err s W E (parseUint_sy s W E hne hs hp)
    | range => exact undecodable_err s W E (parseUint_ra s W E hne hs hp)
    | ok v =>
      have hv := pu16_le s 0 v (by omega) hp
      have HP := Lib.hid hp
      clear hp
      have v0 : (0 : Int) ≤ v := by omega
      have v1 : (v : Int) < 4294967296 := by omega
      cases he : (M.hex8 v == s)
      · have HE := Lib.hid he
        clear h
        go_enter Tryz.func55, Tryz.ntmps55
        go_wp2_with fail
        refine (parseUint_ok _ _ hne hs v HP.out).mono ?_
        rintro e w1 ⟨rfl, dn1⟩
        go_wp2_with fail
        refine (hexText _ _ (E.dn dn1) v0 v1).mono ?_
        rintro e w2 ⟨rfl, dn2⟩
        go_wp2
        go_ret2
        exact ⟨rfl, dn1.trans dn2⟩
      · have hd : M.dok v = true := by
          cases hd : M.dok v
          · exact absurd (by simpa using he) (h v v0 v1 hd)
          · rfl
        have HH := Lib.hid h
        clear h
        go_enter Tryz.func55, Tryz.ntmps55
        go_wp2_with fail
        refine (parseUint_ok _ _ hne hs v HP.out).mono ?_
        rintro e w1 ⟨rfl, dn1⟩
        go_wp2_with fail
        refine (hexText _ _ (E.dn dn1) v0 v1).mono ?_
        rintro e w2 ⟨rfl, dn2⟩
        go_wp2_with fail
        refine (decode_yes _ _ (E.dn (dn1.trans dn2)).tabs v0 v1 hd).mono ?_
        rintro e w3 ⟨rfl, up3⟩
        go_wp2
        go_ret2
        exact ⟨rfl, ((dn1.trans dn2).trans up3.dn).alloc _⟩

/-- the line of a word, without its newline -/
def M.lineT (x : Int) : List UInt8 := if M.dok x = true then M.text (M.dOp x) (M.dRd x) (M.dRa x) (M.dRb x) (M.dImm x) else [119, 111, 114, 100, 32] ++ M.hex8 x

theorem lineT_yes {x : Int} (h : M.dok x = true) : M.lineT x = M.text (M.dOp x) (M.dRd x) (M.dRa x) (M.dRb x) (M.dImm x) := if_pos h
theorem lineT_no {x : Int} (h : M.dok x = false) : M.lineT x = [119, 111, 114, 100, 32] ++ M.hex8 x := by unfold M.lineT; rw [h]; rfl
theorem dok_ok {x : Int} (h : M.dok x = true) : M.ok (M.dOp x) (M.dRd x) (M.dRa x) (M.dRb x) (M.dImm x) = true ∧ M.word (M.dOp x) (M.dRd x) (M.dRa x) (M.dRb x) (M.dImm x) = x := by
  unfold M.dok at h
  simp only [Bool.and_eq_true] at h
  exact ⟨h.1, by simpa using h.2⟩

theorem lineT_len (x : Int) (h0 : 0 ≤ x) (h1 : x < 4294967296) : (M.lineT x).length ≤ 92 := by
  cases hd : M.dok x
  · rw [lineT_no hd, List.length_append, hex8_len x h0 h1]; decide
  · rw [lineT_yes hd]; exact M.text_len _ _ _ _ _ (dok_ok hd).1

set_option maxHeartbeats 1000000 in
theorem lineOf (x : Int) (W : World) (E : Env W) (h0 : 0 ≤ x) (h1 : x < 4294967296) :
    Calls Tryz.prog 34 #[.int .u32 x] W fun e W' => e = .returned (.string ⟨(M.lineT x).toArray⟩) ∧ Dn W W' := by
  cases hd : M.dok x
  · have HE := Lib.hid (lineT_no hd)
    have hl := hex8_len x h0 h1
    have hl2 : (M.hex8 x).length ≤ 8 := by omega
    clear hl
    go_enter Tryz.func34, Tryz.ntmps34
    go_wp2_with fail
    refine (decode_no _ _ E.tabs h0 h1 hd).mono ?_
    rintro e w1 ⟨rfl, up1⟩
    go_wp2_with fail
    refine (hexText _ _ (E.dn (up1.dn.alloc _)) h0 h1).mono ?_
    rintro e w2 ⟨rfl, dn2⟩
    go_wp2
    go_ret
    exact ⟨by rw [HE.out]; exact congrArg (fun b => Ending.returned (.string b)) (bytes_append [119, 111, 114, 100, 32] _), (up1.dn.alloc _).trans dn2⟩
  · have HE := Lib.hid (lineT_yes hd)
    have hk := (dok_ok hd).1
    go_enter Tryz.func34, Tryz.ntmps34
    go_wp2_with fail
    refine (decode_yes _ _ E.tabs h0 h1 hd).mono ?_
    rintro e w1 ⟨rfl, up1⟩
    go_wp2_with fail
    refine (format_ok _ _ _ _ _ _ (E.dn (up1.dn.alloc _)) hk).mono ?_
    rintro e w2 ⟨rfl, dn2⟩
    go_wp2
    go_ret
    exact ⟨by rw [HE.out]; rfl, (up1.dn.alloc _).trans dn2⟩

end Go.Proofs.YtokhipjpppfkgaaGreatDoor
