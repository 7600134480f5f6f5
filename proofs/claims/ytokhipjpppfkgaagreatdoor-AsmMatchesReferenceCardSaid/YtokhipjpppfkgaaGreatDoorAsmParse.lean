/-
  What Parse of package asm returns when called: contracts over the translated program. Conditions: the package variables hold what the program's text lays there; the string is not longer than a hundred thousand bytes.
-/
import Derived.Test.YtokhipjpppfkgaaGreatDoorAsmReadI
import Derived.Test.YtokhipjpppfkgaaGreatDoorAsmInv
namespace Go.Proofs.YtokhipjpppfkgaaGreatDoor
open Go.ChangeShapes Go.WideShapes Go.ChangeAt Go.RowKit Go.Sort
set_option linter.unusedVariables false

theorem readInstr_text (op rd ra rb imm : Int) (W : World) (E : Env W) (h : M.ok op rd ra rb imm = true) :
    Calls Tryz.prog 27 #[.string ⟨(M.text op rd ra rb imm).toArray⟩] W (ReadRet W op rd ra rb imm) := by
  refine (readInstr _ W E (Nat.le_trans (M.text_len _ _ _ _ _ h) (by decide))).mono fun e W' ⟨f, r, op', hP, ho, hh⟩ => ?_
  rw [M.fields_text] at hP
  injection hP with h1 h2
  subst h1 h2
  obtain ⟨hop, _⟩ := M.ok_rng _ _ _ _ _ h
  obtain rfl := M.OpOf_uniq ho (M.OpOf_mnem op (by omega) (by omega))
  obtain ⟨r1, r2, r3, r4⟩ := M.read_text _ _ _ _ _ h
  rw [r1, r2, r3, r4] at hh
  exact hh

def ReadSome (W : World) (e : Ending) (W' : World) : Prop := ∃ op rd ra rb imm, -2147483648 ≤ imm ∧ imm < 2147483648 ∧ ReadRet W op rd ra rb imm e W'

theorem rImm_rng (op : Int) (l : List (List UInt8)) : -2147483648 ≤ M.rImm op l ∧ M.rImm op l < 2147483648 := by
  unfold M.rImm
  repeat' split
  all_goals first | exact M.nx_rng _ _ | omega

theorem readInstr_some (s : List UInt8) (W : World) (E : Env W) (hs : s.length ≤ 100000) :
    Calls Tryz.prog 27 #[.string ⟨s.toArray⟩] W (ReadSome W) :=
  (readInstr _ W E hs).mono fun e W' ⟨f, r, op, hP, ho, hh⟩ => ⟨_, _, _, _, _, (rImm_rng op r).1, (rImm_rng op r).2, hh⟩

set_option maxRecDepth 100000 in
set_option maxHeartbeats 1000000 in
theorem parse_yes (op rd ra rb imm : Int) (W : World) (E : Env W) (h : M.ok op rd ra rb imm = true) :
    Calls Tryz.prog 11 #[.string ⟨(M.text op rd ra rb imm).toArray⟩] W fun e W' => e = .returned (.tuple #[.agg #[.int .i64 op, .int .i64 rd, .int .i64 ra, .int .i64 rb, .int .i32 imm], .int .i64 0]) ∧ Dn W W' := by
  have HT := Lib.hid (M.text_len _ _ _ _ _ h)
  go_enter Tryz.func11, Tryz.ntmps11
  go_wp2_with fail
  refine (readInstr_text op rd ra rb imm _ (E.dn ((Dn.refl _).alloc _)) h).mono ?_
  rintro e w1 ⟨rfl, dn1⟩
  have bR1 := (Box.new W (.int .i64 0) (.int .i64 0) (.int .i64 0) (.int .i64 0) (.int .i32 0) 23).dn dn1
  have dW1 := ((Dn.refl W).alloc _).trans dn1
  go_wp2_with fail
  refine (format_ok op rd ra rb imm _ (E.dn (dW1.alloc _)) h).mono ?_
  rintro e w2 ⟨rfl, dn2⟩
  have bI := (Box.new w1 (.int .i64 op) (.int .i64 rd) (.int .i64 ra) (.int .i64 rb) (.int .i32 imm) 23).dn dn2
  have bR := (bR1.dn ((Dn.refl _).alloc _)).dn dn2
  have dW2 := (dW1.alloc _).trans dn2
  have hlt := dW1.size
  clear bR1 dn1 dn2 dW1
  obtain ⟨c0, c1, c2, c3, c4, c5⟩ := bI.open
  obtain ⟨d0, d1, d2, d3, d4, d5⟩ := bR.open
  have ff := bR.fr
  go_wp2
  refine bodyPost_ret (by simp [results, Tryz.results11, go_sem, d0, d1, d2, d3, d4]; try rfl) rfl ?_
  exact ⟨rfl, ((((dW2.setCell (Nat.le_refl _) _).setCell (Nat.le_refl _) _).setCell (Nat.le_refl _) _).setCell (Nat.le_refl _) _).setCell (Nat.le_refl _) _⟩

set_option maxRecDepth 100000 in
set_option maxHeartbeats 1000000 in
theorem parse_no (s : List UInt8) (W : World) (E : Env W) (hs : s.length ≤ 100000) (h : ∀ op rd ra rb imm, M.ok op rd ra rb imm = true → M.text op rd ra rb imm ≠ s) :
    Calls Tryz.prog 11 #[.string ⟨s.toArray⟩] W fun e W' => e = .returned (.tuple #[.agg #[.int .i64 0, .int .i64 0, .int .i64 0, .int .i64 0, .int .i32 0], .int .i64 2]) ∧ Dn W W' := by
  have H := Lib.hid h
  clear h
  go_enter Tryz.func11, Tryz.ntmps11
  go_wp2_with fail
  refine (readInstr_some s _ (E.dn ((Dn.refl _).alloc _)) hs).mono ?_
  rintro e w1 ⟨op, rd, ra, rb, imm, i1, i2, rfl, dn1⟩
  have bR1 := (Box.new W (.int .i64 0) (.int .i64 0) (.int .i64 0) (.int .i64 0) (.int .i32 0) 23).dn dn1
  have dW1 := ((Dn.refl W).alloc _).trans dn1
  go_wp2_with fail
  cases hk : M.ok op rd ra rb imm
  · refine (format_no op rd ra rb imm _ (E.dn (dW1.alloc _)) hk i1 i2).mono ?_
    rintro e w2 ⟨rfl, dn2⟩
    have bI := (Box.new w1 (.int .i64 op) (.int .i64 rd) (.int .i64 ra) (.int .i64 rb) (.int .i32 imm) 23).dn dn2
    have bR := (bR1.dn ((Dn.refl _).alloc _)).dn dn2
    have dW2 := (dW1.alloc _).trans dn2
    have hlt := dW1.size
    clear bR1 dn1 dn2 dW1
    obtain ⟨c0, c1, c2, c3, c4, c5⟩ := bI.open
    obtain ⟨d0, d1, d2, d3, d4, d5⟩ := bR.open
    have ff := bR.fr
    go_wp2
    refine bodyPost_ret (by simp [results, Tryz.results11, go_sem, d0, d1, d2, d3, d4]; try rfl) rfl ?_
    exact ⟨rfl, ((((dW2.setCell (Nat.le_refl _) _).setCell (Nat.le_refl _) _).setCell (Nat.le_refl _) _).setCell (Nat.le_refl _) _).setCell (Nat.le_refl _) _⟩
  · refine (format_ok op rd ra rb imm _ (E.dn (dW1.alloc _)) hk).mono ?_
    rintro e w2 ⟨rfl, dn2⟩
    have bI := (Box.new w1 (.int .i64 op) (.int .i64 rd) (.int .i64 ra) (.int .i64 rb) (.int .i32 imm) 23).dn dn2
    have bR := (bR1.dn ((Dn.refl _).alloc _)).dn dn2
    have dW2 := (dW1.alloc _).trans dn2
    have hlt := dW1.size
    clear bR1 dn1 dn2 dW1
    have hne : (M.text op rd ra rb imm == s) = false := by simpa using H.out _ _ _ _ _ hk
    obtain ⟨c0, c1, c2, c3, c4, c5⟩ := bI.open
    obtain ⟨d0, d1, d2, d3, d4, d5⟩ := bR.open
    have ff := bR.fr
    go_wp2
    refine bodyPost_ret (by simp [results, Tryz.results11, go_sem, d0, d1, d2, d3, d4]; try rfl) rfl ?_
    exact ⟨rfl, ((((dW2.setCell (Nat.le_refl _) _).setCell (Nat.le_refl _) _).setCell (Nat.le_refl _) _).setCell (Nat.le_refl _) _).setCell (Nat.le_refl _) _⟩

end Go.Proofs.YtokhipjpppfkgaaGreatDoor
