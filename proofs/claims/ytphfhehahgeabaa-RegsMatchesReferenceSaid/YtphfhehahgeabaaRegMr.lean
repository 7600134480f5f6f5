/-
  'gaolerlaw07.RegsMatchesReference' returns true when called, and writes nothing that was there: contract over the translated program. No conditions beyond what the kinds of its parameters say.
-/
import Derived.Test.YtphfhehahgeabaaRegAwake
namespace Go.Proofs.Ytphfhehahgeabaa
open Go.ChangeShapes Go.WideShapes Go.ChangeAt Go.RowKit Go.Sort
set_option linter.unusedVariables false

set_option maxRecDepth 100000 in
set_option maxHeartbeats 1000000 in
theorem regMrWalk (c : List Int) (hc : M.Regs c) (i : Int) (i0 : -9223372036854775808 ≤ i) (i1 : i < 9223372036854775808) (v : Int) (v0 : 0 ≤ v) (v1 : v < 4294967296) (W : World) :
    Calls Try.prog 3 #[.agg (ints .u32 c), .int .i64 i, .int .u32 v] W fun e W' => e = .returned (.bool true) ∧ Dn W W' := by
  have hl := hc.len
  have ls : (M.setreg c i v).length = 16 := (M.setreg_len c i v).trans hl
  have lz : (M.clr0 c).length = 16 := (M.clr0_len c).trans hl
  have C1 := Lib.hid fun w => regGet c i w hl
  have C2 := Lib.hid fun w => refGet c i w hl
  have C3 := Lib.hid fun w => regSet c i v w hl
  have C4 := Lib.hid fun w => refPut c i v w hl
  have C5 := Lib.hid fun w => regClear c w hl
  have C6 := Lib.hid fun w => refClean c w hl
  generalize M.reg c i = x at C1 C2
  generalize M.setreg c i v = d at C3 C4 ls
  generalize M.clr0 c = z at C5 C6 lz
  have q1 := fun w => eq16 ls ls w
  have q2 := fun w => eq16 lz lz w
  simp only [beq_self_eq_true] at q1 q2
  go_enter Try.func3, Try.ntmps3
  go_wp2_with fail
  have D := Lib.hid ((Dn.refl W).alloc (.cells (ints .u32 c) 23))
  have r := Row.new W 23 .u32 c
  refine (awake _).mono ?_
  rintro e w1 ⟨rfl, d1⟩
  have r := r.dn d1
  have D := Lib.hid (D.out.trans d1)
  clear d1
  generalize W.heap.size = b0 at r ⊢
  go_wp2_with fail
  have QC1 := Lib.hid (later_of w1 C1.out)
  have QC2 := Lib.hid (later_of w1 C2.out)
  have QC3 := Lib.hid (later_of w1 C3.out)
  have QC4 := Lib.hid (later_of w1 C4.out)
  have QC5 := Lib.hid (later_of w1 C5.out)
  have QC6 := Lib.hid (later_of w1 C6.out)
  refine wp_region_quiet_below (by kernel_rfl) (by kernel_rfl) ?_
  repeat (first | go_big_quiet_skip | (go_big_quiet_want; first | ((with_reducible refine qop16 r hl ?_ ?_); rfl; simp only [Act.put, List.setIfInBounds_toArray, List.set_cons_succ, List.set_cons_zero]; go_big_quiet_on) | (go_big_quiet_op; first | go_big_quiet_on | go_big_quiet_call (first | (with_reducible exact QC1.out _ _) | (with_reducible exact QC2.out _ _) | (with_reducible exact QC3.out _ _) | (with_reducible exact QC4.out _ _) | (with_reducible exact QC5.out _ _) | (with_reducible exact QC6.out _ _)))))
  refine wpQuiet_nil ?_
  intro _ hw'
  obtain ⟨⟨dq, osq⟩, hw''⟩ := hw'
  subst hw''
  have dd := below_regrown w1 dq osq
  clear QC1
  clear QC2
  clear QC3
  clear QC4
  clear QC5
  clear QC6
  go_wp2
  go_ret
  exact ⟨rfl, D.out.trans dd⟩
end Go.Proofs.Ytphfhehahgeabaa
