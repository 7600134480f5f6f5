/-
  'gaolerlaw07.RegsSetThenGet' returns true when called, and writes nothing that was there: contract over the translated program. No conditions beyond what the kinds of its parameters say.
-/
import Derived.Test.YtphfhehahgeabaaRegAwake
namespace Go.Proofs.Ytphfhehahgeabaa
open Go.ChangeShapes Go.WideShapes Go.ChangeAt Go.RowKit Go.Sort
set_option linter.unusedVariables false

set_option maxRecDepth 100000 in
set_option maxHeartbeats 1000000 in
theorem sg00 (c : List Int) (hc : M.Regs c) (a : Int) (a0 : 0 ≤ a) (a1 : a < 256) (b : Int) (b0 : 0 ≤ b) (b1 : b < 256) (v : Int) (v0 : 0 ≤ v) (v1 : v < 4294967296) (u : Int) (u0 : 0 ≤ u) (u1 : u < 4294967296) (hi : a % 16 = 0) (hk : b % 16 = 0) (W : World) :
    Calls Try.prog 4 #[.agg (ints .u32 c), .int .u8 a, .int .u8 b, .int .u32 v, .int .u32 u] W fun e W' => e = .returned (.bool true) ∧ Dn W W' := by
  have hl := hc.len
  have ld : (M.setreg c 0 v).length = 16 := (M.setreg_len c 0 v).trans hl
  have le : (M.setreg c 0 u).length = 16 := (M.setreg_len c 0 u).trans hl
  have C1 := Lib.hid fun w => regSet c 0 v w hl
  have C2 := Lib.hid fun w => regGet (M.setreg c 0 v) 0 w ld
  rw [show M.reg (M.setreg c 0 v) 0 = 0 by rw [M.reg_setreg_same hl]; rfl] at C2
  have C3 := Lib.hid fun w => regSet (M.setreg c 0 v) 0 u w ld
  rw [M.setreg_twice hl] at C3
  have C4 := Lib.hid fun w => regSet c 0 u w hl
  have C5 := Lib.hid fun w => regGet c 0 w hl
  have C6 := Lib.hid fun w => regSet (M.setreg c 0 v) 0 (M.reg c 0) w ld
  rw [M.setreg_back hl] at C6
  generalize M.reg c 0 = x at C5 C6
  generalize M.setreg c 0 u = e1 at C3 C4 le
  generalize M.setreg c 0 v = d at C1 C2 C3 C6 ld
  have q1 := fun w => eq16 le le w
  have q2 := fun w => eq16 hl hl w
  simp only [beq_self_eq_true] at q1 q2
  go_enter Try.func4, Try.ntmps4
  go_wp2_with fail
  have D := Lib.hid ((Dn.refl W).alloc (.cells (ints .u32 c) 23))
  have r := Row.new W 23 .u32 c
  refine (awake _).mono ?_
  rintro e w1 ⟨rfl, d1⟩
  have r := r.dn d1
  have D := Lib.hid (D.out.trans d1)
  clear d1
  generalize W.heap.size = b0 at r ⊢
  go_wp2_with (first | ((with_reducible refine load16 r hl ?_ ?_ ?_); rfl; rfl))
  refine (C1.out _).mono ?_
  rintro e w2 ⟨rfl, d1⟩
  have r := (r.dn d1).dn ((Dn.refl w2).alloc (.cells (ints .u32 d) 23))
  have D := Lib.hid (Dn.alloc (D.out.trans d1) (.cells (ints .u32 d) 23))
  clear d1
  have p := Row.new w2 23 .u32 d
  go_wp2_with (first | ((with_reducible refine alloc16 (b := w2.heap.size) rfl ?_ ?_); rfl) | ((with_reducible refine store16 (b := w2.heap.size) d ld zsize16 ?_ ?_ ?_ rfl ?_); rfl; rfl; rfl))
  generalize w2.alloc (.cells (ints .u32 d) 23) = w3 at r p D ⊢
  generalize w2.heap.size = b1 at p ⊢
  have QC2 := Lib.hid (later_of w3 C2.out)
  have QC3 := Lib.hid (later_of w3 C3.out)
  have QC4 := Lib.hid (later_of w3 C4.out)
  have QC5 := Lib.hid (later_of w3 C5.out)
  have QC6 := Lib.hid (later_of w3 C6.out)
  refine wp_region_quiet_below (by kernel_rfl) (by kernel_rfl) ?_
  repeat (first | go_big_quiet_skip | (go_big_quiet_want; first | ((with_reducible refine qop16 r hl ?_ ?_); rfl; simp only [Act.put, List.setIfInBounds_toArray, List.set_cons_succ, List.set_cons_zero]; go_big_quiet_on) | ((with_reducible refine qop16 p ld ?_ ?_); rfl; simp only [Act.put, List.setIfInBounds_toArray, List.set_cons_succ, List.set_cons_zero]; go_big_quiet_on) | (go_big_quiet_op; first | go_big_quiet_on | go_big_quiet_call (first | (with_reducible exact QC2.out _ _) | (with_reducible exact QC3.out _ _) | (with_reducible exact QC4.out _ _) | (with_reducible exact QC5.out _ _) | (with_reducible exact QC6.out _ _)))))
  refine wpQuiet_nil ?_
  intro _ hw'
  obtain ⟨⟨dq, osq⟩, hw''⟩ := hw'
  subst hw''
  have dd := below_regrown w3 dq osq
  clear QC2
  clear QC3
  clear QC4
  clear QC5
  clear QC6
  have r := r.dn dd
  have p := p.dn dd
  have D := Lib.hid (D.out.trans dd)
  clear dd
  generalize grow (redrawn w3 dq) osq = w4 at r p D ⊢
  go_wp2_with fail
  have QC1 := Lib.hid (later_of w4 C1.out)
  refine wp_region_quiet_below (by kernel_rfl) (by kernel_rfl) ?_
  repeat (first | go_big_quiet_skip | (go_big_quiet_want; first | ((with_reducible refine qop16 r hl ?_ ?_); rfl; simp only [Act.put, List.setIfInBounds_toArray, List.set_cons_succ, List.set_cons_zero]; go_big_quiet_on) | (go_big_quiet_op; first | go_big_quiet_on | go_big_quiet_call (first | (with_reducible exact QC1.out _ _)))))
  refine wpQuiet_nil ?_
  intro _ hw'
  obtain ⟨⟨dq, osq⟩, hw''⟩ := hw'
  subst hw''
  have dd := below_regrown w4 dq osq
  clear QC1
  go_wp2
  go_ret
  exact ⟨rfl, D.out.trans dd⟩

set_option maxRecDepth 100000 in
set_option maxHeartbeats 1000000 in
theorem sg0k (c : List Int) (hc : M.Regs c) (a : Int) (a0 : 0 ≤ a) (a1 : a < 256) (b : Int) (b0 : 0 ≤ b) (b1 : b < 256) (v : Int) (v0 : 0 ≤ v) (v1 : v < 4294967296) (u : Int) (u0 : 0 ≤ u) (u1 : u < 4294967296) (k : Int) (hi : a % 16 = 0) (hk : b % 16 = k) (k0 : 0 < k) (k1 : k < 16) (hik : (0 : Int) ≠ k) (hb : ((0 : Int) == k) = false) (hb2 : ((0 : Int) != k) = true) (W : World) :
    Calls Try.prog 4 #[.agg (ints .u32 c), .int .u8 a, .int .u8 b, .int .u32 v, .int .u32 u] W fun e W' => e = .returned (.bool true) ∧ Dn W W' := by
  have hl := hc.len
  have ld : (M.setreg c 0 v).length = 16 := (M.setreg_len c 0 v).trans hl
  have le : (M.setreg c 0 u).length = 16 := (M.setreg_len c 0 u).trans hl
  have C1 := Lib.hid fun w => regSet c 0 v w hl
  have C2 := Lib.hid fun w => regGet (M.setreg c 0 v) 0 w ld
  rw [show M.reg (M.setreg c 0 v) 0 = 0 by rw [M.reg_setreg_same hl]; rfl] at C2
  have C3 := Lib.hid fun w => regSet (M.setreg c 0 v) 0 u w ld
  rw [M.setreg_twice hl] at C3
  have C4 := Lib.hid fun w => regSet c 0 u w hl
  have C5 := Lib.hid fun w => regGet c 0 w hl
  have C6 := Lib.hid fun w => regSet (M.setreg c 0 v) 0 (M.reg c 0) w ld
  rw [M.setreg_back hl] at C6
  have lg : (M.setreg c k u).length = 16 := (M.setreg_len c k u).trans hl
  have lf : (M.setreg (M.setreg c 0 v) k u).length = 16 := (M.setreg_len _ k u).trans ld
  have C7 := Lib.hid fun w => regGet (M.setreg c 0 v) k w ld
  rw [M.reg_setreg_other hl v hik] at C7
  have C8 := Lib.hid fun w => regGet c k w hl
  have C9 := Lib.hid fun w => regSet (M.setreg c 0 v) k u w ld
  have C10 := Lib.hid fun w => regSet c k u w hl
  have C11 := Lib.hid fun w => regSet (M.setreg c k u) 0 v w lg
  rw [← M.setreg_swap hl u v hik] at C11
  generalize M.setreg (M.setreg c 0 v) k u = f at C9 C11 lf
  generalize M.setreg c k u = g at C10 C11 lg
  generalize M.reg c k = y at C7 C8
  have q3 := fun w => eq16 lf lf w
  generalize M.reg c 0 = x at C5 C6
  generalize M.setreg c 0 u = e1 at C3 C4 le
  generalize M.setreg c 0 v = d at C1 C2 C3 C6 ld C7 C9
  have q1 := fun w => eq16 le le w
  have q2 := fun w => eq16 hl hl w
  simp only [beq_self_eq_true] at q1 q2 q3
  go_enter Try.func4, Try.ntmps4
  go_wp2_with fail
  have D := Lib.hid ((Dn.refl W).alloc (.cells (ints .u32 c) 23))
  have r := Row.new W 23 .u32 c
  refine (awake _).mono ?_
  rintro e w1 ⟨rfl, d1⟩
  have r := r.dn d1
  have D := Lib.hid (D.out.trans d1)
  clear d1
  generalize W.heap.size = b0 at r ⊢
  go_wp2_with (first | ((with_reducible refine load16 r hl ?_ ?_ ?_); rfl; rfl))
  refine (C1.out _).mono ?_
  rintro e w2 ⟨rfl, d1⟩
  have r := (r.dn d1).dn ((Dn.refl w2).alloc (.cells (ints .u32 d) 23))
  have D := Lib.hid (Dn.alloc (D.out.trans d1) (.cells (ints .u32 d) 23))
  clear d1
  have p := Row.new w2 23 .u32 d
  go_wp2_with (first | ((with_reducible refine alloc16 (b := w2.heap.size) rfl ?_ ?_); rfl) | ((with_reducible refine store16 (b := w2.heap.size) d ld zsize16 ?_ ?_ ?_ rfl ?_); rfl; rfl; rfl))
  generalize w2.alloc (.cells (ints .u32 d) 23) = w3 at r p D ⊢
  generalize w2.heap.size = b1 at p ⊢
  have QC2 := Lib.hid (later_of w3 C2.out)
  have QC3 := Lib.hid (later_of w3 C3.out)
  have QC4 := Lib.hid (later_of w3 C4.out)
  have QC5 := Lib.hid (later_of w3 C5.out)
  have QC6 := Lib.hid (later_of w3 C6.out)
  have QC7 := Lib.hid (later_of w3 C7.out)
  have QC8 := Lib.hid (later_of w3 C8.out)
  refine wp_region_quiet_below (by kernel_rfl) (by kernel_rfl) ?_
  repeat (first | go_big_quiet_skip | (go_big_quiet_want; first | ((with_reducible refine qop16 r hl ?_ ?_); rfl; simp only [Act.put, List.setIfInBounds_toArray, List.set_cons_succ, List.set_cons_zero]; go_big_quiet_on) | ((with_reducible refine qop16 p ld ?_ ?_); rfl; simp only [Act.put, List.setIfInBounds_toArray, List.set_cons_succ, List.set_cons_zero]; go_big_quiet_on) | (go_big_quiet_op; first | go_big_quiet_on | go_big_quiet_call (first | (with_reducible exact QC2.out _ _) | (with_reducible exact QC3.out _ _) | (with_reducible exact QC4.out _ _) | (with_reducible exact QC5.out _ _) | (with_reducible exact QC6.out _ _) | (with_reducible exact QC7.out _ _) | (with_reducible exact QC8.out _ _)))))
  refine wpQuiet_nil ?_
  intro _ hw'
  obtain ⟨⟨dq, osq⟩, hw''⟩ := hw'
  subst hw''
  have dd := below_regrown w3 dq osq
  clear QC2
  clear QC3
  clear QC4
  clear QC5
  clear QC6
  clear QC7
  clear QC8
  have r := r.dn dd
  have p := p.dn dd
  have D := Lib.hid (D.out.trans dd)
  clear dd
  generalize grow (redrawn w3 dq) osq = w4 at r p D ⊢
  go_wp2_with fail
  have QC1 := Lib.hid (later_of w4 C1.out)
  have QC9 := Lib.hid (later_of w4 C9.out)
  have QC10 := Lib.hid (later_of w4 C10.out)
  have QC11 := Lib.hid (later_of w4 C11.out)
  refine wp_region_quiet_below (by kernel_rfl) (by kernel_rfl) ?_
  repeat (first | go_big_quiet_skip | (go_big_quiet_want; first | ((with_reducible refine qop16 r hl ?_ ?_); rfl; simp only [Act.put, List.setIfInBounds_toArray, List.set_cons_succ, List.set_cons_zero]; go_big_quiet_on) | (go_big_quiet_op; first | go_big_quiet_on | go_big_quiet_call (first | (with_reducible exact QC1.out _ _) | (with_reducible exact QC9.out _ _) | (with_reducible exact QC10.out _ _) | (with_reducible exact QC11.out _ _)))))
  refine wpQuiet_nil ?_
  intro _ hw'
  obtain ⟨⟨dq, osq⟩, hw''⟩ := hw'
  subst hw''
  have dd := below_regrown w4 dq osq
  clear QC1
  clear QC9
  clear QC10
  clear QC11
  go_wp2
  go_ret
  exact ⟨rfl, D.out.trans dd⟩

set_option maxRecDepth 100000 in
set_option maxHeartbeats 1000000 in
theorem sgii (c : List Int) (hc : M.Regs c) (a : Int) (a0 : 0 ≤ a) (a1 : a < 256) (b : Int) (b0 : 0 ≤ b) (b1 : b < 256) (v : Int) (v0 : 0 ≤ v) (v1 : v < 4294967296) (u : Int) (u0 : 0 ≤ u) (u1 : u < 4294967296) (i : Int) (hi : a % 16 = i) (hk : b % 16 = i) (i0 : 0 < i) (i1 : i < 16) (W : World) :
    Calls Try.prog 4 #[.agg (ints .u32 c), .int .u8 a, .int .u8 b, .int .u32 v, .int .u32 u] W fun e W' => e = .returned (.bool true) ∧ Dn W W' := by
  have hl := hc.len
  have ld : (M.setreg c i v).length = 16 := (M.setreg_len c i v).trans hl
  have le : (M.setreg c i u).length = 16 := (M.setreg_len c i u).trans hl
  have C1 := Lib.hid fun w => regSet c i v w hl
  have C2 := Lib.hid fun w => regGet (M.setreg c i v) i w ld
  rw [show M.reg (M.setreg c i v) i = v by rw [M.reg_setreg_same hl]; rw [if_pos ((M.stored_iff _).2 (by omega))]] at C2
  have C3 := Lib.hid fun w => regSet (M.setreg c i v) i u w ld
  rw [M.setreg_twice hl] at C3
  have C4 := Lib.hid fun w => regSet c i u w hl
  have C5 := Lib.hid fun w => regGet c i w hl
  have C6 := Lib.hid fun w => regSet (M.setreg c i v) i (M.reg c i) w ld
  rw [M.setreg_back hl] at C6
  generalize M.reg c i = x at C5 C6
  generalize M.setreg c i u = e1 at C3 C4 le
  generalize M.setreg c i v = d at C1 C2 C3 C6 ld
  have q1 := fun w => eq16 le le w
  have q2 := fun w => eq16 hl hl w
  simp only [beq_self_eq_true] at q1 q2
  go_enter Try.func4, Try.ntmps4
  go_wp2_with fail
  have D := Lib.hid ((Dn.refl W).alloc (.cells (ints .u32 c) 23))
  have r := Row.new W 23 .u32 c
  refine (awake _).mono ?_
  rintro e w1 ⟨rfl, d1⟩
  have r := r.dn d1
  have D := Lib.hid (D.out.trans d1)
  clear d1
  generalize W.heap.size = b0 at r ⊢
  go_wp2_with (first | ((with_reducible refine load16 r hl ?_ ?_ ?_); rfl; rfl))
  refine (C1.out _).mono ?_
  rintro e w2 ⟨rfl, d1⟩
  have r := (r.dn d1).dn ((Dn.refl w2).alloc (.cells (ints .u32 d) 23))
  have D := Lib.hid (Dn.alloc (D.out.trans d1) (.cells (ints .u32 d) 23))
  clear d1
  have p := Row.new w2 23 .u32 d
  go_wp2_with (first | ((with_reducible refine alloc16 (b := w2.heap.size) rfl ?_ ?_); rfl) | ((with_reducible refine store16 (b := w2.heap.size) d ld zsize16 ?_ ?_ ?_ rfl ?_); rfl; rfl; rfl))
  generalize w2.alloc (.cells (ints .u32 d) 23) = w3 at r p D ⊢
  generalize w2.heap.size = b1 at p ⊢
  have QC2 := Lib.hid (later_of w3 C2.out)
  have QC3 := Lib.hid (later_of w3 C3.out)
  have QC4 := Lib.hid (later_of w3 C4.out)
  have QC5 := Lib.hid (later_of w3 C5.out)
  have QC6 := Lib.hid (later_of w3 C6.out)
  refine wp_region_quiet_below (by kernel_rfl) (by kernel_rfl) ?_
  repeat (first | go_big_quiet_skip | (go_big_quiet_want; first | ((with_reducible refine qop16 r hl ?_ ?_); rfl; simp only [Act.put, List.setIfInBounds_toArray, List.set_cons_succ, List.set_cons_zero]; go_big_quiet_on) | ((with_reducible refine qop16 p ld ?_ ?_); rfl; simp only [Act.put, List.setIfInBounds_toArray, List.set_cons_succ, List.set_cons_zero]; go_big_quiet_on) | (go_big_quiet_op; first | go_big_quiet_on | go_big_quiet_call (first | (with_reducible exact QC2.out _ _) | (with_reducible exact QC3.out _ _) | (with_reducible exact QC4.out _ _) | (with_reducible exact QC5.out _ _) | (with_reducible exact QC6.out _ _)))))
  refine wpQuiet_nil ?_
  intro _ hw'
  obtain ⟨⟨dq, osq⟩, hw''⟩ := hw'
  subst hw''
  have dd := below_regrown w3 dq osq
  clear QC2
  clear QC3
  clear QC4
  clear QC5
  clear QC6
  have r := r.dn dd
  have p := p.dn dd
  have D := Lib.hid (D.out.trans dd)
  clear dd
  generalize grow (redrawn w3 dq) osq = w4 at r p D ⊢
  go_wp2_with fail
  have QC1 := Lib.hid (later_of w4 C1.out)
  refine wp_region_quiet_below (by kernel_rfl) (by kernel_rfl) ?_
  repeat (first | go_big_quiet_skip | (go_big_quiet_want; first | ((with_reducible refine qop16 r hl ?_ ?_); rfl; simp only [Act.put, List.setIfInBounds_toArray, List.set_cons_succ, List.set_cons_zero]; go_big_quiet_on) | (go_big_quiet_op; first | go_big_quiet_on | go_big_quiet_call (first | (with_reducible exact QC1.out _ _)))))
  refine wpQuiet_nil ?_
  intro _ hw'
  obtain ⟨⟨dq, osq⟩, hw''⟩ := hw'
  subst hw''
  have dd := below_regrown w4 dq osq
  clear QC1
  go_wp2
  go_ret
  exact ⟨rfl, D.out.trans dd⟩

set_option maxRecDepth 100000 in
set_option maxHeartbeats 1000000 in
theorem sgik (c : List Int) (hc : M.Regs c) (a : Int) (a0 : 0 ≤ a) (a1 : a < 256) (b : Int) (b0 : 0 ≤ b) (b1 : b < 256) (v : Int) (v0 : 0 ≤ v) (v1 : v < 4294967296) (u : Int) (u0 : 0 ≤ u) (u1 : u < 4294967296) (i k : Int) (hi : a % 16 = i) (hk : b % 16 = k) (i0 : 0 < i) (i1 : i < 16) (k0 : 0 ≤ k) (k1 : k < 16) (hik : i ≠ k) (hb : (i == k) = false) (hb2 : (i != k) = true) (W : World) :
    Calls Try.prog 4 #[.agg (ints .u32 c), .int .u8 a, .int .u8 b, .int .u32 v, .int .u32 u] W fun e W' => e = .returned (.bool true) ∧ Dn W W' := by
  have hl := hc.len
  have ld : (M.setreg c i v).length = 16 := (M.setreg_len c i v).trans hl
  have le : (M.setreg c i u).length = 16 := (M.setreg_len c i u).trans hl
  have C1 := Lib.hid fun w => regSet c i v w hl
  have C2 := Lib.hid fun w => regGet (M.setreg c i v) i w ld
  rw [show M.reg (M.setreg c i v) i = v by rw [M.reg_setreg_same hl]; rw [if_pos ((M.stored_iff _).2 (by omega))]] at C2
  have C3 := Lib.hid fun w => regSet (M.setreg c i v) i u w ld
  rw [M.setreg_twice hl] at C3
  have C4 := Lib.hid fun w => regSet c i u w hl
  have C5 := Lib.hid fun w => regGet c i w hl
  have C6 := Lib.hid fun w => regSet (M.setreg c i v) i (M.reg c i) w ld
  rw [M.setreg_back hl] at C6
  have lg : (M.setreg c k u).length = 16 := (M.setreg_len c k u).trans hl
  have lf : (M.setreg (M.setreg c i v) k u).length = 16 := (M.setreg_len _ k u).trans ld
  have C7 := Lib.hid fun w => regGet (M.setreg c i v) k w ld
  rw [M.reg_setreg_other hl v hik] at C7
  have C8 := Lib.hid fun w => regGet c k w hl
  have C9 := Lib.hid fun w => regSet (M.setreg c i v) k u w ld
  have C10 := Lib.hid fun w => regSet c k u w hl
  have C11 := Lib.hid fun w => regSet (M.setreg c k u) i v w lg
  rw [← M.setreg_swap hl u v hik] at C11
  generalize M.setreg (M.setreg c i v) k u = f at C9 C11 lf
  generalize M.setreg c k u = g at C10 C11 lg
  generalize M.reg c k = y at C7 C8
  have q3 := fun w => eq16 lf lf w
  generalize M.reg c i = x at C5 C6
  generalize M.setreg c i u = e1 at C3 C4 le
  generalize M.setreg c i v = d at C1 C2 C3 C6 ld C7 C9
  have q1 := fun w => eq16 le le w
  have q2 := fun w => eq16 hl hl w
  simp only [beq_self_eq_true] at q1 q2 q3
  go_enter Try.func4, Try.ntmps4
  go_wp2_with fail
  have D := Lib.hid ((Dn.refl W).alloc (.cells (ints .u32 c) 23))
  have r := Row.new W 23 .u32 c
  refine (awake _).mono ?_
  rintro e w1 ⟨rfl, d1⟩
  have r := r.dn d1
  have D := Lib.hid (D.out.trans d1)
  clear d1
  generalize W.heap.size = b0 at r ⊢
  go_wp2_with (first | ((with_reducible refine load16 r hl ?_ ?_ ?_); rfl; rfl))
  refine (C1.out _).mono ?_
  rintro e w2 ⟨rfl, d1⟩
  have r := (r.dn d1).dn ((Dn.refl w2).alloc (.cells (ints .u32 d) 23))
  have D := Lib.hid (Dn.alloc (D.out.trans d1) (.cells (ints .u32 d) 23))
  clear d1
  have p := Row.new w2 23 .u32 d
  go_wp2_with (first | ((with_reducible refine alloc16 (b := w2.heap.size) rfl ?_ ?_); rfl) | ((with_reducible refine store16 (b := w2.heap.size) d ld zsize16 ?_ ?_ ?_ rfl ?_); rfl; rfl; rfl))
  generalize w2.alloc (.cells (ints .u32 d) 23) = w3 at r p D ⊢
  generalize w2.heap.size = b1 at p ⊢
  have QC2 := Lib.hid (later_of w3 C2.out)
  have QC3 := Lib.hid (later_of w3 C3.out)
  have QC4 := Lib.hid (later_of w3 C4.out)
  have QC5 := Lib.hid (later_of w3 C5.out)
  have QC6 := Lib.hid (later_of w3 C6.out)
  have QC7 := Lib.hid (later_of w3 C7.out)
  have QC8 := Lib.hid (later_of w3 C8.out)
  refine wp_region_quiet_below (by kernel_rfl) (by kernel_rfl) ?_
  repeat (first | go_big_quiet_skip | (go_big_quiet_want; first | ((with_reducible refine qop16 r hl ?_ ?_); rfl; simp only [Act.put, List.setIfInBounds_toArray, List.set_cons_succ, List.set_cons_zero]; go_big_quiet_on) | ((with_reducible refine qop16 p ld ?_ ?_); rfl; simp only [Act.put, List.setIfInBounds_toArray, List.set_cons_succ, List.set_cons_zero]; go_big_quiet_on) | (go_big_quiet_op; first | go_big_quiet_on | go_big_quiet_call (first | (with_reducible exact QC2.out _ _) | (with_reducible exact QC3.out _ _) | (with_reducible exact QC4.out _ _) | (with_reducible exact QC5.out _ _) | (with_reducible exact QC6.out _ _) | (with_reducible exact QC7.out _ _) | (with_reducible exact QC8.out _ _)))))
  refine wpQuiet_nil ?_
  intro _ hw'
  obtain ⟨⟨dq, osq⟩, hw''⟩ := hw'
  subst hw''
  have dd := below_regrown w3 dq osq
  clear QC2
  clear QC3
  clear QC4
  clear QC5
  clear QC6
  clear QC7
  clear QC8
  have r := r.dn dd
  have p := p.dn dd
  have D := Lib.hid (D.out.trans dd)
  clear dd
  generalize grow (redrawn w3 dq) osq = w4 at r p D ⊢
  go_wp2_with fail
  have QC1 := Lib.hid (later_of w4 C1.out)
  have QC9 := Lib.hid (later_of w4 C9.out)
  have QC10 := Lib.hid (later_of w4 C10.out)
  have QC11 := Lib.hid (later_of w4 C11.out)
  refine wp_region_quiet_below (by kernel_rfl) (by kernel_rfl) ?_
  repeat (first | go_big_quiet_skip | (go_big_quiet_want; first | ((with_reducible refine qop16 r hl ?_ ?_); rfl; simp only [Act.put, List.setIfInBounds_toArray, List.set_cons_succ, List.set_cons_zero]; go_big_quiet_on) | (go_big_quiet_op; first | go_big_quiet_on | go_big_quiet_call (first | (with_reducible exact QC1.out _ _) | (with_reducible exact QC9.out _ _) | (with_reducible exact QC10.out _ _) | (with_reducible exact QC11.out _ _)))))
  refine wpQuiet_nil ?_
  intro _ hw'
  obtain ⟨⟨dq, osq⟩, hw''⟩ := hw'
  subst hw''
  have dd := below_regrown w4 dq osq
  clear QC1
  clear QC9
  clear QC10
  clear QC11
  go_wp2
  go_ret
  exact ⟨rfl, D.out.trans dd⟩

theorem regSgWalk (c : List Int) (hc : M.Regs c) (a : Int) (a0 : 0 ≤ a) (a1 : a < 256) (b : Int) (b0 : 0 ≤ b) (b1 : b < 256) (v : Int) (v0 : 0 ≤ v) (v1 : v < 4294967296) (u : Int) (u0 : 0 ≤ u) (u1 : u < 4294967296) (W : World) :
    Calls Try.prog 4 #[.agg (ints .u32 c), .int .u8 a, .int .u8 b, .int .u32 v, .int .u32 u] W fun e W' => e = .returned (.bool true) ∧ Dn W W' := by
  by_cases h0 : a % 16 = 0
  · by_cases h1 : b % 16 = 0
    · exact sg00 c hc a a0 a1 b b0 b1 v v0 v1 u u0 u1 h0 h1 W
    · exact sg0k c hc a a0 a1 b b0 b1 v v0 v1 u u0 u1 (b % 16) h0 rfl (by omega) (by omega) (by omega) (by simp; omega) (by simp; omega) W
  · by_cases h1 : a % 16 = b % 16
    · exact sgii c hc a a0 a1 b b0 b1 v v0 v1 u u0 u1 (a % 16) rfl h1.symm (by omega) (by omega) W
    · exact sgik c hc a a0 a1 b b0 b1 v v0 v1 u u0 u1 (a % 16) (b % 16) rfl rfl (by omega) (by omega) (by omega) (by omega) h1 (by simpa using h1) (by simpa using h1) W
end Go.Proofs.Ytphfhehahgeabaa
