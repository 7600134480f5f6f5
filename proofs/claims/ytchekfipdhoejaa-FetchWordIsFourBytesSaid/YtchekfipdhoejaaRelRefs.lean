/-
  What each function of the reference of reloc returns when called: contracts over the translated program. Conditions: those that stand in each theorem.
-/
import Derived.Test.YtchekfipdhoejaaRelCalls
namespace Go.Proofs.Ytchekfipdhoejaa
open Go.ChangeShapes Go.WideShapes Go.ChangeAt Go.RowKit Go.Sort
set_option linter.unusedVariables false

theorem by_ (base bound size a n : Int) (W : World) (b0 : 0 ≤ base) (b1 : base < 4294967296) (k0 : 0 ≤ bound) (k1 : bound < 4294967296) (s0 : 0 ≤ size) (s1 : size < 4294967296) (a0 : 0 ≤ a) (a1 : a < 4294967296) (n0 : 1 ≤ n) (n1 : n ≤ 4) :
    Calls Try.prog 38 #[.int .u32 base, .int .u32 bound, .int .u32 size, .int .u32 a, .int .i64 n] W fun e W' => e = .returned (.tuple #[.int .u32 (M.phys base bound size a n), .bool (M.hit base bound size a n)]) ∧ W = W' := by
  by_cases h1 : bound < a + n
  · have hh : M.hit base bound size a n = false := by rw [Bool.eq_false_iff, ne_eq, M.hit_iff]; omega
    have E1 := Lib.hid (M.phys_miss hh)
    have E2 := Lib.hid hh
    clear hh
    go_enter Try.func38, Try.ntmps38
    go_wp2
    go_ret2
    exact ⟨ret_ib E1.out.symm E2.out.symm, rfl⟩
  by_cases h2 : size < base + (a + n)
  · have hh : M.hit base bound size a n = false := by rw [Bool.eq_false_iff, ne_eq, M.hit_iff]; omega
    have E1 := Lib.hid (M.phys_miss hh)
    have E2 := Lib.hid hh
    clear hh
    go_enter Try.func38, Try.ntmps38
    go_wp2
    go_ret2
    exact ⟨ret_ib E1.out.symm E2.out.symm, rfl⟩
  · have hh : M.hit base bound size a n = true := by rw [M.hit_iff]; omega
    have E1 := Lib.hid (M.phys_hit hh)
    have E2 := Lib.hid hh
    have hw : IntKind.u32.wrap (base + a) = base + a := by rw [IntKind.wrap_u32]; omega
    clear hh
    go_enter Try.func38, Try.ntmps38
    go_wp2
    go_ret2
    exact ⟨ret_ib E1.out.symm E2.out.symm, rfl⟩

theorem super_ (c : List Int) (W : World) (hc : M.Core c) :
    Calls Try.prog 23 #[.agg (ints .u32 c)] W fun e W' => e = .returned (.bool (M.sup c)) ∧ Dn W W' := by
  have k : (W.alloc (.cells (ints .u32 c) 26)).cell? ⟨W.heap.size, 17, none⟩ = some (.int .u32 (M.csr c 0)) := (Row.new W 26 .u32 c).csr hc 0 (by decide)
  have r := hc.csr 0
  have HE : Hid ((M.csr c 0 % 2 == 1) = M.sup c) := Lib.hid rfl
  go_enter Try.func23, Try.ntmps23
  go_wp2
  go_ret
  exact ⟨ret_bool HE.out, (Dn.refl W).alloc _⟩

theorem at_ (c : List Int) (size a n : Int) (W : World) (hc : M.Core c) (s0 : 0 ≤ size) (s1 : size < 4294967296) (a0 : 0 ≤ a) (a1 : a < 4294967296) (n0 : 1 ≤ n) (n1 : n ≤ 4) :
    Calls Try.prog 26 #[.agg (ints .u32 c), .int .u32 size, .int .u32 a, .int .i64 n] W fun e W' => e = .returned (.tuple #[.int .u32 (M.phys (M.ub c) (M.un c size) size a n), .bool (M.hit (M.ub c) (M.un c size) size a n)]) ∧ Dn W W' := by
  have hl := hc.len
  have r := Row.new W 26 .u32 c
  have R := Lib.hid r
  have D := Lib.hid ((Dn.refl W).alloc (.cells (ints .u32 c) 26))
  cases hs : M.sup c
  · have e1 : M.ub c = M.csr c 5 := by unfold M.ub; rw [hs]; rfl
    have e2 : M.un c size = M.csr c 6 := by unfold M.un; rw [hs]; rfl
    rw [e1, e2]
    have u1 := hc.csr 5
    have u2 := hc.csr 6
    clear e1 e2
    go_enter Try.func26, Try.ntmps26
    go_wp2_with (first | ((with_reducible refine load29 r hl ?_ ?_ ?_); rfl; rfl))
    refine (super_ c _ hc).mono ?_
    rintro e w1 ⟨rfl, d1⟩
    rw [hs]
    have r5 : w1.cell? ⟨W.heap.size, 22, none⟩ = some (.int .u32 (M.csr c 5)) := (R.out.dn d1).csr hc 5 (by decide)
    have r6 : w1.cell? ⟨W.heap.size, 23, none⟩ = some (.int .u32 (M.csr c 6)) := (R.out.dn d1).csr hc 6 (by decide)
    have D1 := Lib.hid (D.out.trans d1)
    clear r d1
    go_wp2_with fail
    refine (by_ (M.csr c 5) (M.csr c 6) size a n _ u1.1 u1.2 u2.1 u2.2 s0 s1 a0 a1 n0 n1).mono ?_
    rintro e w2 ⟨rfl, rfl⟩
    go_wp2
    go_ret2
    exact ⟨rfl, D1.out⟩
  · have e1 : M.ub c = 0 := by unfold M.ub; rw [hs]; rfl
    have e2 : M.un c size = size := by unfold M.un; rw [hs]; rfl
    rw [e1, e2]
    clear e1 e2
    go_enter Try.func26, Try.ntmps26
    go_wp2_with (first | ((with_reducible refine load29 r hl ?_ ?_ ?_); rfl; rfl))
    refine (super_ c _ hc).mono ?_
    rintro e w1 ⟨rfl, d1⟩
    rw [hs]
    have D1 := Lib.hid (D.out.trans d1)
    clear r d1
    go_wp2_with fail
    refine (by_ 0 size size a n _ (by decide) (by decide) s0 s1 s0 s1 a0 a1 n0 n1).mono ?_
    rintro e w2 ⟨rfl, rfl⟩
    go_wp2
    go_ret2
    exact ⟨rfl, D1.out⟩

end Go.Proofs.Ytchekfipdhoejaa
