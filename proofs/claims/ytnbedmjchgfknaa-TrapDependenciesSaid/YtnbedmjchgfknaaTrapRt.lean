/-
  'gaolerlaw09.TrapReturnAfterTrap' returns true when called, and writes nothing that was there: contract over the translated program. No conditions beyond what the kinds of its parameters say.
-/
import Derived.Test.YtnbedmjchgfknaaTrapNt
namespace Go.Proofs.Ytnbedmjchgfknaa
open Go.ChangeShapes Go.WideShapes Go.ChangeAt Go.RowKit Go.Sort
set_option linter.unusedVariables false

set_option maxRecDepth 100000 in
set_option maxHeartbeats 2000000 in
theorem rt_a (c : List Int) (hc : M.Core c) (k : Int) (k0 : -9223372036854775808 ≤ k) (k1 : k < 9223372036854775808) (v : Int) (v0 : 0 ≤ v) (v1 : v < 4294967296) (h : k = 0) (W : World) :
    Calls Try.prog 4 #[.agg (ints .u32 c), .agg #[.int .i64 k, .int .u32 v]] W fun e W' => e = .returned (.bool true) ∧ Dn W W' := by
  subst h
  obtain ⟨w, b0, b1, hw, hb0, hb1, rc, gt, n01, D⟩ := box2 W c 26 28 #[.int .i64 0, .int .u32 v]
  have HD := Lib.hid D
  clear D
  have A := Lib.hid awake
  go_enter Try.func4, Try.ntmps4
  go_wp2_with fail
  rw [← hw, ← hb1, ← hb0]
  clear hw hb0 hb1
  refine (A.out _).mono ?_
  rintro e w' ⟨rfl, d'⟩
  replace rc := rc.dn d'; replace gt := gt.dn d'; replace HD := Lib.hid (HD.out.trans d'); clear d'
  have c1 : w'.cell? ⟨b1, 0, none⟩ = some (.int .i64 0) := gt.cell rfl
  go_wp2_with (go_at_call 7; (with_reducible refine (A.out _).mono ?_); rintro e w' ⟨rfl, d'⟩; replace rc := rc.dn d'; replace gt := gt.dn d'; replace HD := Lib.hid (HD.out.trans d'); clear d')
  go_ret
  exact ⟨rfl, HD.out⟩
def RtRel (W : World) (n : Value) (w : World) : Prop := ∃ i : Nat, i ≤ 12 ∧ n = .int .i64 i ∧ Dn W w

set_option maxRecDepth 100000 in
set_option maxHeartbeats 2000000 in
theorem rt_b (c : List Int) (hc : M.Core c) (k : Int) (k0 : -9223372036854775808 ≤ k) (k1 : k < 9223372036854775808) (v : Int) (v0 : 0 ≤ v) (v1 : v < 4294967296) (h : k ≠ 0) (W : World) :
    Calls Try.prog 4 #[.agg (ints .u32 c), .agg #[.int .i64 k, .int .u32 v]] W fun e W' => e = .returned (.bool true) ∧ Dn W W' := by
  obtain ⟨w, b0, b1, hw, hb0, hb1, rc, gt, n01, D⟩ := box2 W c 26 28 #[.int .i64 k, .int .u32 v]
  have hA := hc.enter (k := k) v0 v1
  have hB := hA.leave
  have N := Lib.hid (M.back hc h v0 v1)
  have N1 := Lib.hid (M.en_pc hc h v0 v1)
  have C1 := Lib.hid fun w => trapEnter c k v w hc k0 k1 v0 v1
  have C2 := Lib.hid fun w => trapReturn _ w hA
  have C3 := Lib.hid fun w => trapSup _ w hA
  have C4 := Lib.hid fun w => trapIe _ w hA
  have C5 := Lib.hid fun w => trapSup _ w hB
  have C6 := Lib.hid fun w => trapSup c w hc
  have C7 := Lib.hid fun w => trapIe _ w hB
  have C8 := Lib.hid fun w => trapIe c w hc
  rw [M.en_sup hc h v0 v1] at C3
  rw [M.en_ien hc h v0 v1] at C4
  rw [N.out.2.1] at C5
  rw [N.out.2.2.1] at C7
  have ga := Lib.hid (M.en_regs hc h v0 v1)
  have gb := Lib.hid N.out.2.2.2.1
  have gl : (c.take 16).length = 16 := by simp [hc.len]
  obtain ⟨g, gc⟩ : ∃ g, c.take 16 = g := ⟨_, rfl⟩
  rw [gc] at ga gb gl
  replace gc := Lib.hid gc
  have t1 : (k == 0) = false := by simpa using h
  generalize M.leave (M.enter c k v) = f at *
  generalize M.enter c k v = x1 at *
  generalize M.sup c = p at *
  generalize M.ien c = q at *
  have q1 := fun w => eq16 gl gl w
  simp only [beq_self_eq_true] at q1
  clear h
  have HD := Lib.hid D
  clear D
  have A := Lib.hid awake
  go_enter Try.func4, Try.ntmps4
  go_wp2_with fail
  rw [← hw, ← hb1, ← hb0]
  clear hw hb0 hb1
  refine (A.out _).mono ?_
  rintro e w' ⟨rfl, d'⟩
  replace rc := rc.dn d'; replace gt := gt.dn d'; replace HD := Lib.hid (HD.out.trans d'); clear d'
  have c1 : w'.cell? ⟨b1, 0, none⟩ = some (.int .i64 k) := gt.cell rfl
  go_wp2_with (first | ((with_reducible refine load29 rc hc.len ?_ ?_ ?_); rfl; rfl) | ((with_reducible refine loadTrap gt ?_ ?_ ?_); rfl; rfl) | ((with_reducible refine load_regs rc hc.len ?_ ?_ ?_); rfl; rfl) | (go_at_call 8; (first | (with_reducible refine (C1.out _).mono ?_)); rintro e w' ⟨rfl, d'⟩; replace rc := rc.dn d'; replace gt := gt.dn d'; replace HD := Lib.hid (HD.out.trans d'); clear d') | ((with_reducible refine alloc29 (b := w'.heap.size) rfl ?_ ?_); rfl; refine Hid.out ?_))
  refine Lib.hid ?_
  obtain ⟨xra, b2, hw, hb, ra, dd, nn⟩ := new_core w' 26
  have n_rc_ra := nn _ rc.lt
  have n_gt_ra := nn _ gt.lt
  have HL_ra : Hid (W.heap.size ≤ b2) := Lib.hid (by have := HD.out.size; omega)
  rw [← hw, ← hb]
  replace rc := rc.dn dd; replace gt := gt.dn dd; replace HD := Lib.hid (HD.out.trans dd)
  clear hw hb dd nn
  go_wp2_with ((with_reducible refine restore29 x1 hA.len ra core_zeros.len ?_ ?_ ?_ ?_); rfl; rfl; rfl; intro w' r' t'; refine Hid.out ?_)
  refine Lib.hid ?_
  replace rc := rc.trn t' n_rc_ra
  replace gt := gt.trn t' n_gt_ra
  replace HD := Lib.hid (HD.out.trn HL_ra.out t')
  clear t' ra
  have ra := r'
  clear r' n_rc_ra n_gt_ra
  clear c1 C1
  go_wp2_with (first | ((with_reducible refine load29 rc hc.len ?_ ?_ ?_); rfl; rfl) | ((with_reducible refine load29 ra hA.len ?_ ?_ ?_); rfl; rfl) | ((with_reducible refine loadTrap gt ?_ ?_ ?_); rfl; rfl) | ((with_reducible refine load_regs rc hc.len ?_ ?_ ?_); rfl; rfl) | ((with_reducible refine load_regs ra hA.len ?_ ?_ ?_); rfl; rfl) | (go_at_call 10; (first | (with_reducible refine (C2.out _).mono ?_)); rintro e w' ⟨rfl, d'⟩; replace rc := rc.dn d'; replace ra := ra.dn d'; replace gt := gt.dn d'; replace HD := Lib.hid (HD.out.trans d'); clear d') | ((with_reducible refine alloc29 (b := w'.heap.size) rfl ?_ ?_); rfl; refine Hid.out ?_))
  refine Lib.hid ?_
  obtain ⟨xrb, b3, hw, hb, rb, dd, nn⟩ := new_core w' 26
  have n_rc_rb := nn _ rc.lt
  have n_ra_rb := nn _ ra.lt
  have n_gt_rb := nn _ gt.lt
  have HL_rb : Hid (W.heap.size ≤ b3) := Lib.hid (by have := HD.out.size; omega)
  rw [← hw, ← hb]
  replace rc := rc.dn dd; replace ra := ra.dn dd; replace gt := gt.dn dd; replace HD := Lib.hid (HD.out.trans dd)
  clear hw hb dd nn
  go_wp2_with ((with_reducible refine restore29 f hB.len rb core_zeros.len ?_ ?_ ?_ ?_); rfl; rfl; rfl; intro w' r' t'; refine Hid.out ?_)
  refine Lib.hid ?_
  replace rc := rc.trn t' n_rc_rb
  replace ra := ra.trn t' n_ra_rb
  replace gt := gt.trn t' n_gt_rb
  replace HD := Lib.hid (HD.out.trn HL_rb.out t')
  clear t' rb
  have rb := r'
  clear r' n_rc_rb n_ra_rb n_gt_rb
  have m1 : w'.cell? ⟨b2, 16, none⟩ = some (.int .u32 (M.csr c 4)) := by have h := ra.cell 16 (by rw [hA.len]; decide); rw [← N1.out]; exact h
  have lm1 := fun d os => cell_regrown m1 d os
  have m2 : w'.cell? ⟨b0, 21, none⟩ = some (.int .u32 (M.csr c 4)) := rc.cell 21 (by rw [hc.len]; decide)
  have lm2 := fun d os => cell_regrown m2 d os
  have m3 : w'.cell? ⟨b3, 16, none⟩ = some (.int .u32 (M.pc c)) := by have h := rb.cell 16 (by rw [hB.len]; decide); rw [← N.out.1]; exact h
  have lm3 := fun d os => cell_regrown m3 d os
  have m4 : w'.cell? ⟨b0, 16, none⟩ = some (.int .u32 (M.pc c)) := rc.cell 16 (by rw [hc.len]; decide)
  have lm4 := fun d os => cell_regrown m4 d os
  generalize M.csr c 4 = y4 at m1 m2 lm1 lm2
  generalize M.pc c = y5 at m3 m4 lm3 lm4
  go_wp2_with fail
  have QC3 := Lib.hid (later_of w' C3.out)
  have QC4 := Lib.hid (later_of w' C4.out)
  have QC5 := Lib.hid (later_of w' C5.out)
  have QC6 := Lib.hid (later_of w' C6.out)
  have QC7 := Lib.hid (later_of w' C7.out)
  have QC8 := Lib.hid (later_of w' C8.out)
  refine wp_region_quiet_below (by kernel_rfl) (by kernel_rfl) ?_
  simp only [Act.put, List.setIfInBounds_toArray, List.set_cons_succ, List.set_cons_zero]
  repeat (first | go_big_quiet_skip | (go_big_quiet_want; first | ((with_reducible refine qop29 rc hc.len ?_ ?_); rfl; simp only [Act.put, List.setIfInBounds_toArray, List.set_cons_succ, List.set_cons_zero]; go_big_quiet_on) | ((with_reducible refine qop29 ra hA.len ?_ ?_); rfl; simp only [Act.put, List.setIfInBounds_toArray, List.set_cons_succ, List.set_cons_zero]; go_big_quiet_on) | ((with_reducible refine qop29 rb hB.len ?_ ?_); rfl; simp only [Act.put, List.setIfInBounds_toArray, List.set_cons_succ, List.set_cons_zero]; go_big_quiet_on) | ((with_reducible refine qopTrap gt ?_ ?_); rfl; simp only [Act.put, List.setIfInBounds_toArray, List.set_cons_succ, List.set_cons_zero]; go_big_quiet_on) | ((with_reducible refine qop_regs_is ra hA.len ga ?_ ?_); rfl; simp only [Act.put, List.setIfInBounds_toArray, List.set_cons_succ, List.set_cons_zero]; go_big_quiet_on) | ((with_reducible refine qop_regs_is rb hB.len gb ?_ ?_); rfl; simp only [Act.put, List.setIfInBounds_toArray, List.set_cons_succ, List.set_cons_zero]; go_big_quiet_on) | ((with_reducible refine qop_regs_is rc hc.len gc ?_ ?_); rfl; simp only [Act.put, List.setIfInBounds_toArray, List.set_cons_succ, List.set_cons_zero]; go_big_quiet_on) | (go_big_quiet_op; first | go_big_quiet_on | go_big_quiet_call (first | (with_reducible exact QC3.out _ _) | (with_reducible exact QC4.out _ _) | (with_reducible exact QC5.out _ _) | (with_reducible exact QC6.out _ _) | (with_reducible exact QC7.out _ _) | (with_reducible exact QC8.out _ _)))))
  refine wpQuiet_nil ?_
  intro _ hw'
  obtain ⟨⟨dq, osq⟩, hw''⟩ := hw'
  subst hw''
  have dd := below_regrown w' dq osq
  clear QC3 QC4 QC5 QC6 QC7 QC8
  generalize grow (redrawn w' dq) osq = x0 at dd ⊢
  replace rc := rc.dn dd; replace ra := ra.dn dd; replace rb := rb.dn dd; replace gt := gt.dn dd; replace HD := Lib.hid (HD.out.trans dd); clear dd
  clear m1 m2 m3 m4 lm1 lm2 lm3 lm4 C2 C3 C4 C5 C6 C7 C8 A gt
  go_wp2
  go_loopw [7] (fun n x => RtRel x0 n x) (fun n _ => 12 - (intOf n).toNat)
  case atStart => exact ⟨0, by omega, rfl, Dn.refl _⟩
  case round =>
    obtain ⟨i, hi, rfl, D'⟩ := hrel
    have HX := Lib.hid D'
    replace rc := rc.dn D'
    replace ra := ra.dn D'
    replace rb := rb.dn D'
    replace HD := Lib.hid (HD.out.trans D')
    clear D'
    have i0 : (0 : Int) ≤ (i : Int) := by omega
    by_cases hlt : i < 12
    · have hlt2 : (i : Int) < 12 := by omega
      by_cases h3 : 3 < i
      · have h3 : (3 : Int) < (i : Int) := by omega
        obtain ⟨e1, e2⟩ := N.out.2.2.2.2.2.2.2 i (by omega)
        have m1 : wr.cell? ⟨b2, 17 + i, none⟩ = some (.int .u32 (M.csr c i)) := by have h := ra.cell (17 + i) (by rw [hA.len]; omega); rw [← e1]; exact h
        have lm1 := fun d os => cell_regrown m1 d os
        have m2 : wr.cell? ⟨b3, 17 + i, none⟩ = some (.int .u32 (M.csr c i)) := by have h := rb.cell (17 + i) (by rw [hB.len]; omega); rw [← e2]; exact h
        have lm2 := fun d os => cell_regrown m2 d os
        have m3 : wr.cell? ⟨b0, 17 + i, none⟩ = some (.int .u32 (M.csr c i)) := by have h := rc.cell (17 + i) (by rw [hc.len]; omega); exact h
        have lm3 := fun d os => cell_regrown m3 d os
        generalize M.csr c i = y at *
        clear e1 e2
        go_wp2_with fail
        refine wp_region_quiet_below (by kernel_rfl) (by kernel_rfl) ?_
        repeat (first | go_big_quiet_skip | (go_big_quiet_want; first | ((with_reducible refine qop29 rc hc.len ?_ ?_); rfl; simp only [Act.put, List.setIfInBounds_toArray, List.set_cons_succ, List.set_cons_zero]; go_big_quiet_on) | ((with_reducible refine qop29 ra hA.len ?_ ?_); rfl; simp only [Act.put, List.setIfInBounds_toArray, List.set_cons_succ, List.set_cons_zero]; go_big_quiet_on) | ((with_reducible refine qop29 rb hB.len ?_ ?_); rfl; simp only [Act.put, List.setIfInBounds_toArray, List.set_cons_succ, List.set_cons_zero]; go_big_quiet_on) | (go_big_quiet_op; first | go_big_quiet_on)))
        refine wpQuiet_nil ?_
        intro _ hw'
        obtain ⟨⟨dq, osq⟩, hw''⟩ := hw'
        subst hw''
        have dd := below_regrown wr dq osq
        go_wp2
        exact ⟨⟨i + 1, by omega, by go_num, HX.out.trans dd⟩, by simp [intOf]; omega⟩
      · have h3 : ¬ (3 : Int) < (i : Int) := by omega
        have h3b : decide ((3 : Int) < (i : Int)) = false := decide_eq_false h3
        go_wp2_with fail
        refine wp_region_quiet_below (by kernel_rfl) (by kernel_rfl) ?_
        repeat (first | go_big_quiet_skip | (go_big_quiet_want; first | ((with_reducible refine qop29 rc hc.len ?_ ?_); rfl; simp only [Act.put, List.setIfInBounds_toArray, List.set_cons_succ, List.set_cons_zero]; go_big_quiet_on) | ((with_reducible refine qop29 ra hA.len ?_ ?_); rfl; simp only [Act.put, List.setIfInBounds_toArray, List.set_cons_succ, List.set_cons_zero]; go_big_quiet_on) | ((with_reducible refine qop29 rb hB.len ?_ ?_); rfl; simp only [Act.put, List.setIfInBounds_toArray, List.set_cons_succ, List.set_cons_zero]; go_big_quiet_on) | (go_big_quiet_op; first | go_big_quiet_on)))
        refine wpQuiet_nil ?_
        intro _ hw'
        obtain ⟨⟨dq, osq⟩, hw''⟩ := hw'
        subst hw''
        have dd := below_regrown wr dq osq
        go_wp2
        exact ⟨⟨i + 1, by omega, by go_num, HX.out.trans dd⟩, by simp [intOf]; omega⟩
    · obtain rfl : i = 12 := by omega
      have m1 : wr.cell? ⟨b2, 17, none⟩ = some (.int .u32 (M.csr x1 0)) := ra.cell 17 (by rw [hA.len]; decide)
      have m2 : wr.cell? ⟨b3, 17, none⟩ = some (.int .u32 (M.csr f 0)) := rb.cell 17 (by rw [hB.len]; decide)
      have m3 : wr.cell? ⟨b0, 17, none⟩ = some (.int .u32 (M.csr c 0)) := rc.cell 17 (by rw [hc.len]; decide)
      have m4 : wr.cell? ⟨b3, 18, none⟩ = some (.int .u32 (M.csr f 1)) := rb.cell 18 (by rw [hB.len]; decide)
      have m5 : wr.cell? ⟨b2, 18, none⟩ = some (.int .u32 (M.csr x1 1)) := ra.cell 18 (by rw [hA.len]; decide)
      have z1 := hA.csr 0
      have z2 := hB.csr 0
      have z3 := hc.csr 0
      obtain ⟨-, -, -, -, y1, y2, y3, -⟩ := N.out
      rw [y3] at m4
      have y1 : (M.csr f 0 / 16 == M.csr c 0 / 16) = true := by simpa using y1
      have y2 : (M.csr x1 0 / 16 == M.csr c 0 / 16) = true := by simpa using y2
      generalize M.csr x1 0 = o1 at *
      generalize M.csr f 0 = o2 at *
      generalize M.csr c 0 = o3 at *
      generalize M.csr x1 1 = o4 at *
      clear N N1 y3
      go_wp2
      go_ret
      exact ⟨rfl, HD.out⟩
theorem trapRtWalk (c : List Int) (hc : M.Core c) (k : Int) (k0 : -9223372036854775808 ≤ k) (k1 : k < 9223372036854775808) (v : Int) (v0 : 0 ≤ v) (v1 : v < 4294967296) (W : World) :
    Calls Try.prog 4 #[.agg (ints .u32 c), .agg #[.int .i64 k, .int .u32 v]] W fun e W' => e = .returned (.bool true) ∧ Dn W W' := by
  by_cases h : k = 0
  · exact rt_a c hc k k0 k1 v v0 v1 h W
  · exact rt_b c hc k k0 k1 v v0 v1 h W
end Go.Proofs.Ytnbedmjchgfknaa
