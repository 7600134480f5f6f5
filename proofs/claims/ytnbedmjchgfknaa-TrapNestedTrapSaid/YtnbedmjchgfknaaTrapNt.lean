/-
  'gaolerlaw09.TrapNestedTrap' returns true when called, and writes nothing that was there: contract over the translated program. No conditions beyond what the kinds of its parameters say.
-/
import Derived.Test.YtnbedmjchgfknaaTrapMr
namespace Go.Proofs.Ytnbedmjchgfknaa
open Go.ChangeShapes Go.WideShapes Go.ChangeAt Go.RowKit Go.Sort
set_option linter.unusedVariables false

set_option maxRecDepth 100000 in
set_option maxHeartbeats 2000000 in
theorem nt_a (c : List Int) (hc : M.Core c) (k : Int) (k0 : -9223372036854775808 ≤ k) (k1 : k < 9223372036854775808) (v : Int) (v0 : 0 ≤ v) (v1 : v < 4294967296) (j : Int) (j0 : -9223372036854775808 ≤ j) (j1 : j < 9223372036854775808) (u : Int) (u0 : 0 ≤ u) (u1 : u < 4294967296) (h : k = 0) (W : World) :
    Calls Try.prog 5 #[.agg (ints .u32 c), .agg #[.int .i64 k, .int .u32 v], .agg #[.int .i64 j, .int .u32 u]] W fun e W' => e = .returned (.bool true) ∧ Dn W W' := by
  subst h
  obtain ⟨w, b0, b1, b2, hw, hb0, hb1, hb2, rc, gt, gu, n01, n02, n12, D⟩ := box3 W c 26 28 28 #[.int .i64 0, .int .u32 v] #[.int .i64 j, .int .u32 u]
  have C1 := Lib.hid fun w => trapEnter c 0 u w hc (by decide) (by decide) u0 u1
  rw [show M.enter c 0 u = c from rfl] at C1
  have q1 := fun w => eq29_self hc.len w
  have HD := Lib.hid D
  clear D
  have A := Lib.hid awake
  go_enter Try.func5, Try.ntmps5
  go_wp2_with fail
  rw [← hw, ← hb2, ← hb1, ← hb0]
  clear hw hb0 hb1 hb2
  refine (A.out _).mono ?_
  rintro e w' ⟨rfl, d'⟩
  replace rc := rc.dn d'; replace gt := gt.dn d'; replace gu := gu.dn d'; replace HD := Lib.hid (HD.out.trans d'); clear d'
  have c1 : w'.cell? ⟨b1, 0, none⟩ = some (.int .i64 0) := gt.cell rfl
  have c2 : w'.cell? ⟨b2, 0, none⟩ = some (.int .i64 j) := gu.cell rfl
  have c3 : w'.cell? ⟨b2, 1, none⟩ = some (.int .u32 u) := gu.cell rfl
  have lc3 := fun d os => cell_regrown c3 d os
  go_wp2_with fail
  have QC1 := Lib.hid (later_of w' C1.out)
  refine wp_region_quiet_below (by kernel_rfl) (by kernel_rfl) ?_
  repeat (first | go_big_quiet_skip | (go_big_quiet_want; first | ((with_reducible refine qop29 rc hc.len ?_ ?_); rfl; simp only [Act.put, List.setIfInBounds_toArray, List.set_cons_succ, List.set_cons_zero]; go_big_quiet_on) | ((with_reducible refine qopTrap gt ?_ ?_); rfl; simp only [Act.put, List.setIfInBounds_toArray, List.set_cons_succ, List.set_cons_zero]; go_big_quiet_on) | ((with_reducible refine qopTrap gu ?_ ?_); rfl; simp only [Act.put, List.setIfInBounds_toArray, List.set_cons_succ, List.set_cons_zero]; go_big_quiet_on) | (go_big_quiet_op; first | go_big_quiet_on | go_big_quiet_call (first | (with_reducible exact QC1.out _ _)))))
  refine wpQuiet_nil ?_
  intro _ hw'
  obtain ⟨⟨dq, osq⟩, hw''⟩ := hw'
  subst hw''
  have dd := below_regrown w' dq osq
  clear QC1
  go_wp2
  go_ret
  exact ⟨rfl, HD.out.trans dd⟩
set_option maxRecDepth 100000 in
set_option maxHeartbeats 2000000 in
theorem nt_b (c : List Int) (hc : M.Core c) (k : Int) (k0 : -9223372036854775808 ≤ k) (k1 : k < 9223372036854775808) (v : Int) (v0 : 0 ≤ v) (v1 : v < 4294967296) (j : Int) (j0 : -9223372036854775808 ≤ j) (j1 : j < 9223372036854775808) (u : Int) (u0 : 0 ≤ u) (u1 : u < 4294967296) (h : k ≠ 0) (h2 : j = 0) (W : World) :
    Calls Try.prog 5 #[.agg (ints .u32 c), .agg #[.int .i64 k, .int .u32 v], .agg #[.int .i64 j, .int .u32 u]] W fun e W' => e = .returned (.bool true) ∧ Dn W W' := by
  have t1 : (k == 0) = false := by simpa using h
  subst h2
  clear h
  obtain ⟨w, b0, b1, b2, hw, hb0, hb1, hb2, rc, gt, gu, n01, n02, n12, D⟩ := box3 W c 26 28 28 #[.int .i64 k, .int .u32 v] #[.int .i64 0, .int .u32 u]
  have C1 := Lib.hid fun w => trapEnter c 0 u w hc (by decide) (by decide) u0 u1
  rw [show M.enter c 0 u = c from rfl] at C1
  have q1 := fun w => eq29_self hc.len w
  have HD := Lib.hid D
  clear D
  have A := Lib.hid awake
  go_enter Try.func5, Try.ntmps5
  go_wp2_with fail
  rw [← hw, ← hb2, ← hb1, ← hb0]
  clear hw hb0 hb1 hb2
  refine (A.out _).mono ?_
  rintro e w' ⟨rfl, d'⟩
  replace rc := rc.dn d'; replace gt := gt.dn d'; replace gu := gu.dn d'; replace HD := Lib.hid (HD.out.trans d'); clear d'
  have c1 : w'.cell? ⟨b1, 0, none⟩ = some (.int .i64 k) := gt.cell rfl
  have c2 : w'.cell? ⟨b2, 0, none⟩ = some (.int .i64 0) := gu.cell rfl
  have c3 : w'.cell? ⟨b2, 1, none⟩ = some (.int .u32 u) := gu.cell rfl
  have lc3 := fun d os => cell_regrown c3 d os
  go_wp2_with fail
  have QC1 := Lib.hid (later_of w' C1.out)
  refine wp_region_quiet_below (by kernel_rfl) (by kernel_rfl) ?_
  repeat (first | go_big_quiet_skip | (go_big_quiet_want; first | ((with_reducible refine qop29 rc hc.len ?_ ?_); rfl; simp only [Act.put, List.setIfInBounds_toArray, List.set_cons_succ, List.set_cons_zero]; go_big_quiet_on) | ((with_reducible refine qopTrap gt ?_ ?_); rfl; simp only [Act.put, List.setIfInBounds_toArray, List.set_cons_succ, List.set_cons_zero]; go_big_quiet_on) | ((with_reducible refine qopTrap gu ?_ ?_); rfl; simp only [Act.put, List.setIfInBounds_toArray, List.set_cons_succ, List.set_cons_zero]; go_big_quiet_on) | (go_big_quiet_op; first | go_big_quiet_on | go_big_quiet_call (first | (with_reducible exact QC1.out _ _)))))
  refine wpQuiet_nil ?_
  intro _ hw'
  obtain ⟨⟨dq, osq⟩, hw''⟩ := hw'
  subst hw''
  have dd := below_regrown w' dq osq
  clear QC1
  go_wp2
  go_ret
  exact ⟨rfl, HD.out.trans dd⟩
set_option maxRecDepth 100000 in
set_option maxHeartbeats 2000000 in
theorem nt_c (c : List Int) (hc : M.Core c) (k : Int) (k0 : -9223372036854775808 ≤ k) (k1 : k < 9223372036854775808) (v : Int) (v0 : 0 ≤ v) (v1 : v < 4294967296) (j : Int) (j0 : -9223372036854775808 ≤ j) (j1 : j < 9223372036854775808) (u : Int) (u0 : 0 ≤ u) (u1 : u < 4294967296) (h : k ≠ 0) (h2 : j ≠ 0) (W : World) :
    Calls Try.prog 5 #[.agg (ints .u32 c), .agg #[.int .i64 k, .int .u32 v], .agg #[.int .i64 j, .int .u32 u]] W fun e W' => e = .returned (.bool true) ∧ Dn W W' := by
  obtain ⟨w, b0, b1, b2, hw, hb0, hb1, hb2, rc, gt, gu, n01, n02, n12, D⟩ := box3 W c 26 28 28 #[.int .i64 k, .int .u32 v] #[.int .i64 j, .int .u32 u]
  have hA := hc.enter (k := k) v0 v1
  have hB := hA.enter (k := j) u0 u1
  have hF := hB.leave
  have C1 := Lib.hid fun w => trapEnter c k v w hc k0 k1 v0 v1
  have C2 := Lib.hid fun w => trapEnter _ j u w hA j0 j1 u0 u1
  have C3 := Lib.hid fun w => trapReturn _ w hB
  have C4 := Lib.hid fun w => trapReturn _ w hF
  have C5 := Lib.hid fun w => trapSup _ w hF
  have C6 := Lib.hid fun w => trapIe _ w hF
  have N := Lib.hid (M.nested hc h v0 v1 h2 u0 u1)
  rw [N.out.2.2.2.1] at C4
  rw [N.out.1] at C5
  rw [N.out.2.1] at C6
  have t1 : (k == 0) = false := by simpa using h
  have t2 : (j == 0) = false := by simpa using h2
  generalize M.leave (M.enter (M.enter c k v) j u) = f at *
  generalize M.enter (M.enter c k v) j u = x2 at *
  generalize M.enter c k v = x1 at *
  have q1 := fun w => eq29_self hF.len w
  clear h h2
  have HD := Lib.hid D
  clear D
  have A := Lib.hid awake
  go_enter Try.func5, Try.ntmps5
  go_wp2_with fail
  rw [← hw, ← hb2, ← hb1, ← hb0]
  clear hw hb0 hb1 hb2
  refine (A.out _).mono ?_
  rintro e w' ⟨rfl, d'⟩
  replace rc := rc.dn d'; replace gt := gt.dn d'; replace gu := gu.dn d'; replace HD := Lib.hid (HD.out.trans d'); clear d'
  have c1 : w'.cell? ⟨b1, 0, none⟩ = some (.int .i64 k) := gt.cell rfl
  have c2 : w'.cell? ⟨b2, 0, none⟩ = some (.int .i64 j) := gu.cell rfl
  go_wp2_with fail
  refine wp_region_newvar 6 rfl rfl (by kernel_rfl) (by kernel_rfl) rfl (by kernel_rfl) (by kernel_rfl) (by kernel_rfl) (by kernel_rfl) zero29 ?_
  refine ⟨_, calm29 rc hc.len (by rfl) rfl, ?_⟩
  simp only [Act.put, List.setIfInBounds_toArray, List.set_cons_succ, List.set_cons_zero]
  refine ⟨_, calmTrap gt (by rfl) rfl, ?_⟩
  simp only [Act.put, List.setIfInBounds_toArray, List.set_cons_succ, List.set_cons_zero]
  refine ⟨_, calm_call C1.out (by rfl) (fun u => by go_simp), ?_⟩
  simp only [Act.put, List.setIfInBounds_toArray, List.set_cons_succ, List.set_cons_zero]
  refine ⟨_, calmTrap gu (by rfl) rfl, ?_⟩
  simp only [Act.put, List.setIfInBounds_toArray, List.set_cons_succ, List.set_cons_zero]
  refine ⟨_, calm_call C2.out (by rfl) (fun u => by go_simp), ?_⟩
  simp only [Act.put, List.setIfInBounds_toArray, List.set_cons_succ, List.set_cons_zero]
  refine ⟨_, calm_call C3.out (by rfl) (fun u => by go_simp), ?_⟩
  simp only [Act.put, List.setIfInBounds_toArray, List.set_cons_succ, List.set_cons_zero]
  refine ⟨fun _ => rfl, _, size29 hF.len, ints_one _ _, fun _ => rfl, ?_⟩
  intro b3 x' d' hb g'
  have HL_rb : Hid (W.heap.size ≤ b3) := Lib.hid (by have := HD.out.size; omega)
  replace rc := rc.dn d'; replace gt := gt.dn d'; replace gu := gu.dn d'; replace HD := Lib.hid (HD.out.trans d'); clear d'
  have rb := g'.row
  clear g' hb
  simp only [List.setIfInBounds_toArray, List.set_cons_succ, List.set_cons_zero]
  clear c1 c2
  go_wp2_with (first | ((with_reducible refine load29 rc hc.len ?_ ?_ ?_); rfl; rfl) | ((with_reducible refine load29 rb hF.len ?_ ?_ ?_); rfl; rfl) | ((with_reducible refine loadTrap gt ?_ ?_ ?_); rfl; rfl) | ((with_reducible refine loadTrap gu ?_ ?_ ?_); rfl; rfl) | ((with_reducible refine load_regs rc hc.len ?_ ?_ ?_); rfl; rfl) | ((with_reducible refine load_regs rb hF.len ?_ ?_ ?_); rfl; rfl) | (go_at_call 10; (first | (with_reducible refine (C4.out _).mono ?_)); rintro e w' ⟨rfl, d'⟩; replace rc := rc.dn d'; replace rb := rb.dn d'; replace gt := gt.dn d'; replace gu := gu.dn d'; replace HD := Lib.hid (HD.out.trans d'); clear d') | ((with_reducible refine alloc29 (b := w'.heap.size) rfl ?_ ?_); rfl; refine Hid.out ?_))
  refine Lib.hid ?_
  obtain ⟨xrd, b4, hw, hb, rd, dd, nn⟩ := new_core w' 26
  have n_rc_rd := nn _ rc.lt
  have n_rb_rd := nn _ rb.lt
  have n_gt_rd := nn _ gt.lt
  have n_gu_rd := nn _ gu.lt
  have HL_rd : Hid (W.heap.size ≤ b4) := Lib.hid (by have := HD.out.size; omega)
  rw [← hw, ← hb]
  replace rc := rc.dn dd; replace rb := rb.dn dd; replace gt := gt.dn dd; replace gu := gu.dn dd; replace HD := Lib.hid (HD.out.trans dd)
  clear hw hb dd nn
  go_wp2_with ((with_reducible refine restore29 f hF.len rd core_zeros.len ?_ ?_ ?_ ?_); rfl; rfl; rfl; intro w' r' t'; refine Hid.out ?_)
  refine Lib.hid ?_
  replace rc := rc.trn t' n_rc_rd
  replace rb := rb.trn t' n_rb_rd
  replace gt := gt.trn t' n_gt_rd
  replace gu := gu.trn t' n_gu_rd
  replace HD := Lib.hid (HD.out.trn HL_rd.out t')
  clear t' rd
  have rd := r'
  clear r' n_rc_rd n_rb_rd n_gt_rd n_gu_rd
  go_wp2_with (first | ((with_reducible refine load29 rc hc.len ?_ ?_ ?_); rfl; rfl) | ((with_reducible refine load29 rb hF.len ?_ ?_ ?_); rfl; rfl) | ((with_reducible refine load29 rd hF.len ?_ ?_ ?_); rfl; rfl) | ((with_reducible refine loadTrap gt ?_ ?_ ?_); rfl; rfl) | ((with_reducible refine loadTrap gu ?_ ?_ ?_); rfl; rfl) | ((with_reducible refine load_regs rc hc.len ?_ ?_ ?_); rfl; rfl) | ((with_reducible refine load_regs rb hF.len ?_ ?_ ?_); rfl; rfl) | ((with_reducible refine load_regs rd hF.len ?_ ?_ ?_); rfl; rfl) | (go_at_call 12; (with_reducible refine (C5.out _).mono ?_); rintro e w' ⟨rfl, d'⟩; replace rc := rc.dn d'; replace rb := rb.dn d'; replace rd := rd.dn d'; replace gt := gt.dn d'; replace gu := gu.dn d'; replace HD := Lib.hid (HD.out.trans d'); clear d') | (go_at_call 14; (with_reducible refine (C6.out _).mono ?_); rintro e w' ⟨rfl, d'⟩; replace rc := rc.dn d'; replace rb := rb.dn d'; replace rd := rd.dn d'; replace gt := gt.dn d'; replace gu := gu.dn d'; replace HD := Lib.hid (HD.out.trans d'); clear d'; have m1 : w'.cell? ⟨b3, 16, none⟩ = some (.int .u32 (M.csr c 4)) := (by have h := rb.cell 16 (by rw [hF.len]; decide); rw [← N.out.2.2.1]; exact h); have m2 : w'.cell? ⟨b0, 21, none⟩ = some (.int .u32 (M.csr c 4)) := (rc.cell 21 (by rw [hc.len]; decide)); have m3 : w'.cell? ⟨b3, 19, none⟩ = some (.int .u32 (j % 4294967296)) := (by have h := rb.cell 19 (by rw [hF.len]; decide); rw [← N.out.2.2.2.2.1]; exact h); have m4 : w'.cell? ⟨b3, 20, none⟩ = some (.int .u32 u) := (by have h := rb.cell 20 (by rw [hF.len]; decide); rw [← N.out.2.2.2.2.2]; exact h); have m5 : w'.cell? ⟨b2, 0, none⟩ = some (.int .i64 j) := (gu.cell rfl); have m6 : w'.cell? ⟨b2, 1, none⟩ = some (.int .u32 u) := (gu.cell rfl)))
  go_ret
  exact ⟨rfl, HD.out⟩
theorem trapNtWalk (c : List Int) (hc : M.Core c) (k : Int) (k0 : -9223372036854775808 ≤ k) (k1 : k < 9223372036854775808) (v : Int) (v0 : 0 ≤ v) (v1 : v < 4294967296) (j : Int) (j0 : -9223372036854775808 ≤ j) (j1 : j < 9223372036854775808) (u : Int) (u0 : 0 ≤ u) (u1 : u < 4294967296) (W : World) :
    Calls Try.prog 5 #[.agg (ints .u32 c), .agg #[.int .i64 k, .int .u32 v], .agg #[.int .i64 j, .int .u32 u]] W fun e W' => e = .returned (.bool true) ∧ Dn W W' := by
  by_cases h : k = 0
  · exact nt_a c hc k k0 k1 v v0 v1 j j0 j1 u u0 u1 h W
  · by_cases h2 : j = 0
    · exact nt_b c hc k k0 k1 v v0 v1 j j0 j1 u u0 u1 h h2 W
    · exact nt_c c hc k k0 k1 v v0 v1 j j0 j1 u u0 u1 h h2 W
end Go.Proofs.Ytnbedmjchgfknaa
