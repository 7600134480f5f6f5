/-
  The law package's awake returns true. No conditions.
-/
import Derived.Test.YtdklififnofedaaRelRefs
namespace Go.Proofs.Ytdklififnofedaa
open Go.ChangeShapes Go.WideShapes Go.ChangeAt Go.RowKit Go.Sort
set_option linter.unusedVariables false

/-- the processors of awake -/
def coreA : List Int := (zeros 29).set 22 4
def coreU : List Int := coreA.set 23 100
def coreS : List Int := coreU.set 17 1
def coreV : List Int := coreU.set 22 16
theorem core_lit {c : List Int} (h : (decide (c.length = 29) && c.all fun x => decide (0 ≤ x ∧ x < 4294967296)) = true) : M.Core c := by
  simp only [Bool.and_eq_true, decide_eq_true_eq, List.all_eq_true] at h
  exact M.core_of h.1 h.2
theorem okU : M.Core coreU := core_lit (by decide)
theorem okS : M.Core coreS := core_lit (by decide)
theorem okV : M.Core coreV := core_lit (by decide)

theorem tc1 (W : World) : Calls Try.prog 12 #[.agg (ints .u32 coreU), .int .u32 16, .int .u32 8, .int .i64 4] W fun e W' => e = .returned (.tuple #[.int .u32 12, .bool true]) ∧ Dn W W' := by
    have h := translateCore coreU 16 8 4 W okU (by decide) (by decide) (by decide) (by decide) (by decide) (by decide)
    rw [show M.phys (M.ub coreU) (M.un coreU 16) 16 8 4 = 12 by decide, show M.hit (M.ub coreU) (M.un coreU 16) 16 8 4 = true by decide] at h
    exact h
theorem tc2 (W : World) : Calls Try.prog 12 #[.agg (ints .u32 coreS), .int .u32 16, .int .u32 12, .int .i64 4] W fun e W' => e = .returned (.tuple #[.int .u32 12, .bool true]) ∧ Dn W W' := by
    have h := translateCore coreS 16 12 4 W okS (by decide) (by decide) (by decide) (by decide) (by decide) (by decide)
    rw [show M.phys (M.ub coreS) (M.un coreS 16) 16 12 4 = 12 by decide, show M.hit (M.ub coreS) (M.un coreS 16) 16 12 4 = true by decide] at h
    exact h
theorem cp1 (W : World) : Calls Try.prog 15 #[.agg #[.int .u32 32, .int .u32 16], .agg (ints .u32 coreU)] W fun e W' => e = .returned (.tuple #[.int .u32 36, .int .u32 12]) ∧ Dn W W' := by
    have h := compose 32 16 coreU W okU (by decide) (by decide) (by decide) (by decide)
    rw [show M.cb 32 16 coreU = 36 by decide, show M.cn 16 coreU = 12 by decide] at h
    exact h
theorem cp2 (W : World) : Calls Try.prog 15 #[.agg #[.int .u32 32, .int .u32 16], .agg (ints .u32 coreS)] W fun e W' => e = .returned (.tuple #[.int .u32 32, .int .u32 16]) ∧ Dn W W' := by
    have h := compose 32 16 coreS W okS (by decide) (by decide) (by decide) (by decide)
    rw [show M.cb 32 16 coreS = 32 by decide, show M.cn 16 coreS = 16 by decide] at h
    exact h
theorem cp3 (W : World) : Calls Try.prog 15 #[.agg #[.int .u32 32, .int .u32 16], .agg (ints .u32 coreV)] W fun e W' => e = .returned (.tuple #[.int .u32 0, .int .u32 0]) ∧ Dn W W' := by
    have h := compose 32 16 coreV W okV (by decide) (by decide) (by decide) (by decide)
    rw [show M.cb 32 16 coreV = 0 by decide, show M.cn 16 coreV = 0 by decide] at h
    exact h

set_option maxRecDepth 100000 in
set_option maxHeartbeats 1000000 in
theorem awake (W : World) : Calls Try.prog 8 #[] W fun e W' => e = .returned (.bool true) ∧ Dn W W' := by
  have t1 := fun W => translate 8 16 20 8 4 W (by decide) (by decide) (by decide) (by decide) (by decide) (by decide) (by decide) (by decide) (by decide) (by decide)
  have t2 := fun W => translate 8 16 20 12 4 W (by decide) (by decide) (by decide) (by decide) (by decide) (by decide) (by decide) (by decide) (by decide) (by decide)
  have t3 := fun W => translate 0 4294967295 4294967295 4294967295 4 W (by decide) (by decide) (by decide) (by decide) (by decide) (by decide) (by decide) (by decide) (by decide) (by decide)
  rw [show M.phys 8 16 20 8 4 = 16 by decide, show M.hit 8 16 20 8 4 = true by decide] at t1
  rw [show M.phys 8 16 20 12 4 = 0 by decide, show M.hit 8 16 20 12 4 = false by decide] at t2
  rw [show M.phys 0 4294967295 4294967295 4294967295 4 = 0 by decide, show M.hit 0 4294967295 4294967295 4294967295 4 = false by decide] at t3
  have T1 := Lib.hid t1
  have T2 := Lib.hid t2
  have T3 := Lib.hid t3
  clear t1 t2 t3
  go_enter Try.func8, Try.ntmps8
  go_wp2_with fail
  refine (T1.out _).mono ?_
  rintro e w ⟨rfl, rfl⟩
  go_wp2_with fail
  refine (T2.out _).mono ?_
  rintro e w ⟨rfl, rfl⟩
  go_wp2_with fail
  refine (T3.out _).mono ?_
  rintro e w ⟨rfl, rfl⟩
  clear T1 T2 T3
  have e1 : (ints .u32 (zeros 29)).setIfInBounds 22 (.int .u32 4) = ints .u32 coreA := ints_set _ _ _ _
  have e2 : (ints .u32 coreA).setIfInBounds 23 (.int .u32 100) = ints .u32 coreU := ints_set _ _ _ _
  have e3 : (ints .u32 coreU).setIfInBounds 17 (.int .u32 1) = ints .u32 coreS := ints_set _ _ _ _
  have g1 : (ints .u32 (zeros 29))[22]? = some (.int .u32 0) := ints_get _ _ _ (by decide)
  have g2 : (ints .u32 coreA)[23]? = some (.int .u32 0) := ints_get _ _ _ (by decide)
  have g3 : (ints .u32 coreU)[17]? = some (.int .u32 0) := ints_get _ _ _ (by decide)
  have r1 := Row.new W 26 .u32 coreU
  have R1 := Lib.hid (r1.dn ((Dn.refl _).alloc (.cells (ints .u32 coreS) 26)))
  have r2 := R1.out
  have R2 : Hid (Row ((W.alloc (.cells (ints .u32 coreU) 26)).alloc (.cells (ints .u32 coreS) 26)) (W.heap.size + 1) 26 .u32 coreS) := Lib.hid (by
    have := Row.new (W.alloc (.cells (ints .u32 coreU) 26)) 26 .u32 coreS
    rwa [size_alloc] at this)
  have D := Lib.hid (((Dn.refl W).alloc (.cells (ints .u32 coreU) 26)).alloc (.cells (ints .u32 coreS) 26))
  go_wp2_with (first
    | ((with_reducible refine alloc29 (b := W.heap.size) rfl ?_ ?_); rfl)
    | ((with_reducible refine alloc29 (b := W.heap.size + 1) (size_alloc _ _) ?_ ?_); rfl)
    | ((with_reducible refine load29 r1 okU.len ?_ ?_ ?_); rfl; rfl)
    | ((with_reducible refine load29 r2 okU.len ?_ ?_ ?_); rfl; rfl)
    | ((with_reducible refine store29 (b := W.heap.size + 1) coreU okU.len zsize ?_ ?_ ?_ (size_alloc _ _).symm ?_); rfl; rfl; rfl))
  refine (tc1 _).mono ?_
  rintro e w1 ⟨rfl, d1⟩
  have r1 := R1.out.dn d1
  have r2 := R2.out.dn d1
  have D1 := Lib.hid (D.out.trans d1)
  clear R1 R2 D e1 e2 e3 g1 g2 g3 d1
  go_wp2_with (first | ((with_reducible refine load29 r2 okS.len ?_ ?_ ?_); rfl; rfl))
  refine (tc2 _).mono ?_
  rintro e w2 ⟨rfl, d1⟩
  have r1 := r1.dn d1
  have r2 := r2.dn d1
  have D1 := Lib.hid (D1.out.trans d1)
  clear d1
  go_wp2_with (first | ((with_reducible refine load29 r1 okU.len ?_ ?_ ?_); rfl; rfl))
  refine (cp1 _).mono ?_
  rintro e w3 ⟨rfl, d1⟩
  have r1 := r1.dn d1
  have r2 := r2.dn d1
  have D1 := Lib.hid (D1.out.trans d1)
  clear d1
  go_wp2_with (first | ((with_reducible refine load29 r2 okS.len ?_ ?_ ?_); rfl; rfl))
  refine (cp2 _).mono ?_
  rintro e w4 ⟨rfl, d1⟩
  have r1 := r1.dn d1
  have D1 := Lib.hid (D1.out.trans d1)
  have R3 : Hid (Row (w4.setCell ⟨W.heap.size, 22, none⟩ (.int .u32 16)) W.heap.size 26 .u32 coreV) := Lib.hid (r1.put 22 16)
  have r3 := R3.out
  have D3 : Hid (Dn W (w4.setCell ⟨W.heap.size, 22, none⟩ (.int .u32 16))) := Lib.hid (D1.out.setCell (Nat.le_refl _) _)
  have c1 : w4.cell? ⟨W.heap.size, 22, none⟩ = some (.int .u32 4) := r1.cell 22 (by decide)
  have f1 : w4.frozen? ⟨W.heap.size, 22, none⟩ = false := r1.fr 22
  clear d1 r1 r2
  go_wp2_with (first | ((with_reducible refine load29 r3 okV.len ?_ ?_ ?_); rfl; rfl))
  refine (cp3 _).mono ?_
  rintro e w5 ⟨rfl, d1⟩
  have D4 := Lib.hid (D3.out.trans d1)
  clear d1 r3 c1 f1 R3
  go_wp2
  go_ret
  exact ⟨rfl, D4.out⟩
end Go.Proofs.Ytdklififnofedaa
