/-
  The law package's awake returns true. No conditions.
-/
import Derived.Test.YtnbedmjchgfknaaTrapRefs
import Derived.Test.YtnbedmjchgfknaaCoreEq
namespace Go.Proofs.Ytnbedmjchgfknaa
open Go.ChangeShapes Go.WideShapes Go.ChangeAt Go.RowKit Go.Sort
set_option linter.unusedVariables false

/-- a new variable of a processor -/
theorem new_core (w : World) (t : TypeId) : ∃ w' b, w' = w.alloc (.cells (ints .u32 (zeros 29)) t) ∧ b = w.heap.size ∧ Row w' b t .u32 (zeros 29) ∧ Dn w w' ∧ ∀ g, g < w.heap.size → g ≠ b :=
  ⟨_, _, rfl, rfl, Row.new w t .u32 _, (Dn.refl w).alloc _, fun g hg => Nat.ne_of_lt hg⟩

/-- the processors of awake -/
def coreP : List Int := (zeros 29).set 16 8
def coreQ : List Int := coreP.set 17 2
def coreC : List Int := coreQ.set 21 64
theorem core_lit {c : List Int} (h : (decide (c.length = 29) && c.all fun x => decide (0 ≤ x ∧ x < 4294967296)) = true) : M.Core c := by
  simp only [Bool.and_eq_true, decide_eq_true_eq, List.all_eq_true] at h
  exact M.core_of h.1 h.2
theorem okP : M.Core coreP := core_lit (by decide)
theorem okQ : M.Core coreQ := core_lit (by decide)
theorem okC : M.Core coreC := core_lit (by decide)

set_option maxRecDepth 100000 in
set_option maxHeartbeats 2000000 in
theorem awake (W : World) : Calls Try.prog 7 #[] W fun e W' => e = .returned (.bool true) ∧ Dn W W' := by
  have okA : M.Core (M.enter coreC 3 7) := okC.enter (by decide) (by decide)
  have okB := okA.leave
  have C1 := Lib.hid fun w => trapEnter coreC 3 7 w okC (by decide) (by decide) (by decide) (by decide)
  have C2 := Lib.hid fun w => trapReturn _ w okA
  have C3 := Lib.hid fun w => trapEnter coreC 0 9 w okC (by decide) (by decide) (by decide) (by decide)
  have C4 := Lib.hid fun w => trapSup _ w okA
  have C5 := Lib.hid fun w => trapSup _ w okC
  have C6 := Lib.hid fun w => trapIe _ w okC
  have C7 := Lib.hid fun w => trapIe _ w okA
  rw [show M.enter coreC 0 9 = coreC from rfl] at C3
  rw [show M.sup (M.enter coreC 3 7) = true by decide] at C4
  rw [show M.sup coreC = false by decide] at C5
  rw [show M.ien coreC = true by decide] at C6
  rw [show M.ien (M.enter coreC 3 7) = false by decide] at C7
  have q1 := fun w => eq29_self okC.len w
  have e1 : Hid ((M.enter coreC 3 7).getD 16 0 = 64 ∧ (M.enter coreC 3 7).getD 17 0 = 9 ∧ (M.enter coreC 3 7).getD 18 0 = 8 ∧ (M.enter coreC 3 7).getD 19 0 = 3 ∧ (M.enter coreC 3 7).getD 20 0 = 7) := Lib.hid (by decide)
  have e2 : Hid ((M.leave (M.enter coreC 3 7)).getD 16 0 = 8 ∧ (M.leave (M.enter coreC 3 7)).getD 17 0 = 10) := Lib.hid (by decide)
  generalize M.leave (M.enter coreC 3 7) = d at *
  generalize M.enter coreC 3 7 = a at *
  obtain ⟨w, b0, hw, hb0, r0, D, n0⟩ := new_core W 26
  have HD := Lib.hid D
  have HL : Hid (W.heap.size ≤ b0) := Lib.hid (by omega)
  clear D n0
  go_enter Try.func7, Try.ntmps7
  go_wp2_with ((with_reducible refine alloc29 (b := W.heap.size) rfl ?_ ?_); rfl; refine Hid.out ?_)
  refine Lib.hid ?_
  rw [← hw, ← hb0]
  clear hw hb0
  go_wp2_with ((with_reducible refine restore29 coreP okP.len r0 core_zeros.len ?_ ?_ ?_ ?_); rfl; rfl; rfl; intro w1 r1 t1; refine Hid.out ?_)
  refine Lib.hid ?_
  replace HD := Lib.hid (HD.out.trn HL.out t1)
  clear t1 r0
  go_wp2_with ((with_reducible refine store1 (i := 17) (u := 2) r1 okP ?_ ?_ ?_ ?_ ?_); rfl; rfl; rfl; rfl; intro w2 r2 t2; refine Hid.out ?_)
  refine Lib.hid ?_
  replace HD := Lib.hid (HD.out.trn HL.out t2)
  clear t2 r1
  replace r2 : Row w2 b0 26 .u32 coreQ := r2
  go_wp2_with ((with_reducible refine store1 (i := 21) (u := 64) r2 okQ ?_ ?_ ?_ ?_ ?_); rfl; rfl; rfl; rfl; intro w3 r0 t2; refine Hid.out ?_)
  refine Lib.hid ?_
  replace HD := Lib.hid (HD.out.trn HL.out t2)
  clear t2 r2
  replace r0 : Row w3 b0 26 .u32 coreC := r0
  go_wp2_with (first
    | ((with_reducible refine load29 r0 okC.len ?_ ?_ ?_); rfl; rfl)
    | (go_at_call 8; (with_reducible refine (C1.out _).mono ?_); rintro e w4 ⟨rfl, d1⟩; replace r0 := r0.dn d1; replace HD := Lib.hid (HD.out.trans d1); clear d1)
    | ((with_reducible refine alloc29 (b := w4.heap.size) rfl ?_ ?_); rfl; refine Hid.out ?_))
  refine Lib.hid ?_
  obtain ⟨w5, b1, hw, hb, r1, dd, nn⟩ := new_core w4 26
  have n01 := nn b0 r0.lt
  have HL1 : Hid (W.heap.size ≤ b1) := Lib.hid (by have := HD.out.size; omega)
  rw [← hw, ← hb]
  replace r0 := r0.dn dd
  replace HD := Lib.hid (HD.out.trans dd)
  clear hw hb dd nn
  go_wp2_with ((with_reducible refine restore29 a okA.len r1 core_zeros.len ?_ ?_ ?_ ?_); rfl; rfl; rfl; intro w6 r1' t1; refine Hid.out ?_)
  refine Lib.hid ?_
  replace r0 := r0.trn t1 n01
  replace HD := Lib.hid (HD.out.trn HL1.out t1)
  clear t1 r1
  have r1 := r1'
  clear r1'
  go_wp2_with (first
    | ((with_reducible refine load29 r1 okA.len ?_ ?_ ?_); rfl; rfl)
    | (go_at_call 10; (with_reducible refine (C2.out _).mono ?_); rintro e w7 ⟨rfl, d1⟩; replace r0 := r0.dn d1; replace r1 := r1.dn d1; replace HD := Lib.hid (HD.out.trans d1); clear d1)
    | ((with_reducible refine alloc29 (b := w7.heap.size) rfl ?_ ?_); rfl; refine Hid.out ?_))
  refine Lib.hid ?_
  obtain ⟨w8, b2, hw, hb, r2, dd, nn⟩ := new_core w7 26
  have n02 := nn b0 r0.lt
  have n12 := nn b1 r1.lt
  have HL2 : Hid (W.heap.size ≤ b2) := Lib.hid (by have := HD.out.size; omega)
  rw [← hw, ← hb]
  replace r0 := r0.dn dd
  replace r1 := r1.dn dd
  replace HD := Lib.hid (HD.out.trans dd)
  clear hw hb dd nn
  go_wp2_with ((with_reducible refine restore29 d okB.len r2 core_zeros.len ?_ ?_ ?_ ?_); rfl; rfl; rfl; intro w9 r2' t1; refine Hid.out ?_)
  refine Lib.hid ?_
  replace r0 := r0.trn t1 n02
  replace r1 := r1.trn t1 n12
  replace HD := Lib.hid (HD.out.trn HL2.out t1)
  clear t1 r2
  have r2 := r2'
  clear r2' n01 n02 n12
  have ca0 : w9.cell? ⟨b1, 16, none⟩ = some (.int .u32 64) := by have h := r1.cell 16 (by rw [okA.len]; decide); rwa [e1.out.1] at h
  have lca0 := fun d os => cell_regrown ca0 d os
  have ca1 : w9.cell? ⟨b1, 17, none⟩ = some (.int .u32 9) := by have h := r1.cell 17 (by rw [okA.len]; decide); rwa [e1.out.2.1] at h
  have lca1 := fun d os => cell_regrown ca1 d os
  have ca2 : w9.cell? ⟨b1, 18, none⟩ = some (.int .u32 8) := by have h := r1.cell 18 (by rw [okA.len]; decide); rwa [e1.out.2.2.1] at h
  have lca2 := fun d os => cell_regrown ca2 d os
  have ca3 : w9.cell? ⟨b1, 19, none⟩ = some (.int .u32 3) := by have h := r1.cell 19 (by rw [okA.len]; decide); rwa [e1.out.2.2.2.1] at h
  have lca3 := fun d os => cell_regrown ca3 d os
  have ca4 : w9.cell? ⟨b1, 20, none⟩ = some (.int .u32 7) := by have h := r1.cell 20 (by rw [okA.len]; decide); rwa [e1.out.2.2.2.2] at h
  have lca4 := fun d os => cell_regrown ca4 d os
  have cb0 : w9.cell? ⟨b2, 16, none⟩ = some (.int .u32 8) := by have h := r2.cell 16 (by rw [okB.len]; decide); rwa [e2.out.1] at h
  have lcb0 := fun d os => cell_regrown cb0 d os
  have cb1 : w9.cell? ⟨b2, 17, none⟩ = some (.int .u32 10) := by have h := r2.cell 17 (by rw [okB.len]; decide); rwa [e2.out.2] at h
  have lcb1 := fun d os => cell_regrown cb1 d os
  have QC3 := Lib.hid (later_of w9 C3.out)
  have QC4 := Lib.hid (later_of w9 C4.out)
  have QC5 := Lib.hid (later_of w9 C5.out)
  have QC6 := Lib.hid (later_of w9 C6.out)
  have QC7 := Lib.hid (later_of w9 C7.out)
  go_wp2_with fail
  refine wp_region_quiet_below (by kernel_rfl) (by kernel_rfl) ?_
  simp only [List.append, Act.put, List.setIfInBounds_toArray, List.set_cons_succ, List.set_cons_zero]
  repeat (first | go_big_quiet_skip | (go_big_quiet_want; first | ((with_reducible refine qop29 r0 okC.len ?_ ?_); rfl; simp only [Act.put, List.setIfInBounds_toArray, List.set_cons_succ, List.set_cons_zero]; go_big_quiet_on) | ((with_reducible refine qop29 r1 okA.len ?_ ?_); rfl; simp only [Act.put, List.setIfInBounds_toArray, List.set_cons_succ, List.set_cons_zero]; go_big_quiet_on) | ((with_reducible refine qop29 r2 okB.len ?_ ?_); rfl; simp only [Act.put, List.setIfInBounds_toArray, List.set_cons_succ, List.set_cons_zero]; go_big_quiet_on) | (go_big_quiet_op; first | go_big_quiet_on | go_big_quiet_call (first | (with_reducible exact QC3.out _ _) | (with_reducible exact QC4.out _ _) | (with_reducible exact QC5.out _ _) | (with_reducible exact QC6.out _ _) | (with_reducible exact QC7.out _ _)))))
  refine wpQuiet_nil ?_
  intro _ hw'
  obtain ⟨⟨dq, osq⟩, hw''⟩ := hw'
  subst hw''
  have dd := below_regrown w9 dq osq
  clear QC3 QC4 QC5 QC6 QC7
  go_wp2
  go_ret
  exact ⟨rfl, HD.out.trans dd⟩
end Go.Proofs.Ytnbedmjchgfknaa
