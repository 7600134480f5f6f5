/-
  'gaolerlaw09.TrapMatchesReference' returns true when called, and writes nothing that was there: contract over the translated program. No conditions beyond what the kinds of its parameters say.
-/
import Derived.Test.YtnbedmjchgfknaaTrapAwake
import Derived.Test.YtnbedmjchgfknaaTrapLaws
import Derived.Test.YtnbedmjchgfknaaCoreCalm
namespace Go.Proofs.Ytnbedmjchgfknaa
open Go.ChangeShapes Go.WideShapes Go.ChangeAt Go.RowKit Go.Sort
set_option linter.unusedVariables false

/-- two blocks and three -/
theorem box2 (W : World) (c : List Int) (t t' : TypeId) (cs : Array Value) : ∃ w b0 b1, w = (W.alloc (.cells (ints .u32 c) t)).alloc (.cells cs t') ∧ b0 = W.heap.size ∧ b1 = W.heap.size + 1 ∧ Row w b0 t .u32 c ∧ Blk w b1 t' cs ∧ b0 ≠ b1 ∧ Dn W w := by
  have h1 := Blk.new (W.alloc (.cells (ints .u32 c) t)) t' cs
  simp only [size_alloc] at h1
  exact ⟨_, _, _, rfl, rfl, rfl, (Row.new W t .u32 c).old _, h1, by omega, ((Dn.refl W).alloc _).alloc _⟩
theorem box3 (W : World) (c : List Int) (t t' t'' : TypeId) (cs es : Array Value) : ∃ w b0 b1 b2, w = ((W.alloc (.cells (ints .u32 c) t)).alloc (.cells cs t')).alloc (.cells es t'') ∧ b0 = W.heap.size ∧ b1 = W.heap.size + 1 ∧ b2 = W.heap.size + 1 + 1 ∧ Row w b0 t .u32 c ∧ Blk w b1 t' cs ∧ Blk w b2 t'' es ∧ b0 ≠ b1 ∧ b0 ≠ b2 ∧ b1 ≠ b2 ∧ Dn W w := by
  have h1 := Blk.new (W.alloc (.cells (ints .u32 c) t)) t' cs
  have h2 := Blk.new ((W.alloc (.cells (ints .u32 c) t)).alloc (.cells cs t')) t'' es
  simp only [size_alloc] at h1 h2
  exact ⟨_, _, _, _, rfl, rfl, rfl, rfl, ((Row.new W t .u32 c).old _).old _, h1.old _, h2, by omega, by omega, by omega, (((Dn.refl W).alloc _).alloc _).alloc _⟩
section
variable {dst : Option Tmp} {x y : Operand} {ty : TypeId} {pos : String} {aft : Array Edge} {gd : Option (Nat × Bool)} {a : Act} {w : World} {b : Nat} {c g : List Int} {K : Act → Prop}
theorem qop_regs_is (r : Row w b 26 .u32 c) (hl : c.length = 29) (hg : Hid (c.take 16 = g)) (hx : a.eval x = .pointer (some ⟨b, 0, none⟩)) (h : K (a.put dst (.agg (ints .u32 g)))) : Oper.quiet Try.prog ⟨dst, .load 23 x, ty, pos, aft, gd⟩ a (Later w) K := by
  rw [← hg.out] at h
  exact qop_regs r hl hx h
end

set_option maxRecDepth 100000 in
set_option maxHeartbeats 2000000 in
theorem trapMrWalk (c : List Int) (hc : M.Core c) (k : Int) (k0 : -9223372036854775808 ≤ k) (k1 : k < 9223372036854775808) (v : Int) (v0 : 0 ≤ v) (v1 : v < 4294967296) (W : World) :
    Calls Try.prog 3 #[.agg (ints .u32 c), .agg #[.int .i64 k, .int .u32 v]] W fun e W' => e = .returned (.bool true) ∧ Dn W W' := by
  obtain ⟨w, b0, b1, hw, hb0, hb1, rc, gt, n01, D⟩ := box2 W c 26 28 #[.int .i64 k, .int .u32 v]
  have C1 := Lib.hid fun w => trapEnter c k v w hc k0 k1 v0 v1
  have C2 := Lib.hid fun w => refEnter c k v w hc k0 k1 v0 v1
  have C3 := Lib.hid fun w => trapReturn c w hc
  have C4 := Lib.hid fun w => refReturn c w hc
  have C5 := Lib.hid fun w => trapSup c w hc
  have C6 := Lib.hid fun w => refSuper c w hc
  have C7 := Lib.hid fun w => trapIe c w hc
  have C8 := Lib.hid fun w => refEnabled c w hc
  have hE := hc.enter (k := k) v0 v1
  have hL := hc.leave
  generalize M.enter c k v = x at *
  generalize M.leave c = y at *
  generalize M.sup c = p at *
  generalize M.ien c = q at *
  have q1 := fun w => eq29_self hE.len w
  have q2 := fun w => eq29_self hL.len w
  have HD := Lib.hid D
  clear D
  have A := Lib.hid awake
  go_enter Try.func3, Try.ntmps3
  go_wp2_with fail
  rw [← hw, ← hb1, ← hb0]
  clear hw hb0 hb1
  refine (A.out _).mono ?_
  rintro e w' ⟨rfl, d'⟩
  replace rc := rc.dn d'; replace gt := gt.dn d'; replace HD := Lib.hid (HD.out.trans d'); clear d'
  go_wp2_with fail
  have QC1 := Lib.hid (later_of w' C1.out)
  have QC2 := Lib.hid (later_of w' C2.out)
  have QC3 := Lib.hid (later_of w' C3.out)
  have QC4 := Lib.hid (later_of w' C4.out)
  have QC5 := Lib.hid (later_of w' C5.out)
  have QC6 := Lib.hid (later_of w' C6.out)
  have QC7 := Lib.hid (later_of w' C7.out)
  have QC8 := Lib.hid (later_of w' C8.out)
  refine wp_region_quiet_below (by kernel_rfl) (by kernel_rfl) ?_
  repeat (first | go_big_quiet_skip | (go_big_quiet_want; first | ((with_reducible refine qop29 rc hc.len ?_ ?_); rfl; simp only [Act.put, List.setIfInBounds_toArray, List.set_cons_succ, List.set_cons_zero]; go_big_quiet_on) | ((with_reducible refine qopTrap gt ?_ ?_); rfl; simp only [Act.put, List.setIfInBounds_toArray, List.set_cons_succ, List.set_cons_zero]; go_big_quiet_on) | (go_big_quiet_op; first | go_big_quiet_on | go_big_quiet_call (first | (with_reducible exact QC1.out _ _) | (with_reducible exact QC2.out _ _) | (with_reducible exact QC3.out _ _) | (with_reducible exact QC4.out _ _) | (with_reducible exact QC5.out _ _) | (with_reducible exact QC6.out _ _) | (with_reducible exact QC7.out _ _) | (with_reducible exact QC8.out _ _)))))
  refine wpQuiet_nil ?_
  intro _ hw'
  obtain ⟨⟨dq, osq⟩, hw''⟩ := hw'
  subst hw''
  have dd := below_regrown w' dq osq
  clear QC1 QC2 QC3 QC4 QC5 QC6 QC7 QC8
  go_wp2
  go_ret
  exact ⟨rfl, HD.out.trans dd⟩
end Go.Proofs.Ytnbedmjchgfknaa
