/-
  What each function of package reloc returns when called: contracts over the translated program. Conditions: those that stand in each theorem.
-/
import Derived.Test.YtchekfipdhoejaaCore
import Derived.Deep.RegionHeld3
namespace Go.Proofs.Ytchekfipdhoejaa
open Go.ChangeShapes Go.WideShapes Go.ChangeAt Go.RowKit Go.Sort
set_option linter.unusedVariables false

theorem ret_ib {k : IntKind} {a b : Int} {p q : Bool} (h : a = b) (h2 : p = q) : Ending.returned (.tuple #[.int k a, .bool p]) = .returned (.tuple #[.int k b, .bool q]) := by rw [h, h2]
theorem ret_ii {k l : IntKind} {a b p q : Int} (h : a = b) (h2 : p = q) : Ending.returned (.tuple #[.int k a, .int l p]) = .returned (.tuple #[.int k b, .int l q]) := by rw [h, h2]
theorem and_one (x : Int) (h0 : 0 ≤ x) (h : x < 4294967296) : bits .and .u32 x 1 = x % 2 := by
  obtain ⟨v, rfl⟩ := Int.eq_ofNat_of_zero_le h0
  rw [show (1 : Int) = ((1 : Nat) : Int) from rfl, u32_and_nat _ _ (by omega) (by omega), Nat.and_one_is_mod]
  omega
/-- a control register of a processor in memory -/
theorem Row.csr {w : World} {b : Nat} {t : TypeId} {c : List Int} (r : Row w b t .u32 c) (hc : M.Core c) (i : Nat) (hi : i < 12) : w.cell? ⟨b, 17 + i, none⟩ = some (.int .u32 (M.csr c i)) := r.cell (17 + i) (by have := hc.len; omega)

theorem isSup (c : List Int) (W : World) (hc : M.Core c) :
    Calls Try.prog 44 #[.agg (ints .u32 c)] W fun e W' => e = .returned (.bool (M.sup c)) ∧ Dn W W' := by
  have k : (W.alloc (.cells (ints .u32 c) 26)).cell? ⟨W.heap.size, 17, none⟩ = some (.int .u32 (M.csr c 0)) := (Row.new W 26 .u32 c).csr hc 0 (by decide)
  have r := hc.csr 0
  have HE : Hid ((bits .and .u32 (M.csr c 0) 1 != 0) = M.sup c) := Lib.hid (by
    rw [and_one _ r.1 r.2]
    unfold M.sup
    generalize M.csr c 0 = x
    by_cases h : x % 2 = 1
    · simp [h]
    · have h2 : x % 2 = 0 := by omega
      simp [h2])
  go_enter Try.func44, Try.ntmps44
  go_wp2
  go_ret
  exact ⟨ret_bool HE.out, (Dn.refl W).alloc _⟩

theorem translate (base bound size a n : Int) (W : World) (b0 : 0 ≤ base) (b1 : base < 4294967296) (k0 : 0 ≤ bound) (k1 : bound < 4294967296) (s0 : 0 ≤ size) (s1 : size < 4294967296) (a0 : 0 ≤ a) (a1 : a < 4294967296) (n0 : 1 ≤ n) (n1 : n ≤ 4) :
    Calls Try.prog 37 #[.int .u32 base, .int .u32 bound, .int .u32 size, .int .u32 a, .int .i64 n] W fun e W' => e = .returned (.tuple #[.int .u32 (M.phys base bound size a n), .bool (M.hit base bound size a n)]) ∧ W = W' := by
  by_cases h1 : bound < a + n
  · have hh : M.hit base bound size a n = false := by rw [Bool.eq_false_iff, ne_eq, M.hit_iff]; omega
    have E1 := Lib.hid (M.phys_miss hh)
    have E2 := Lib.hid hh
    clear hh
    go_enter Try.func37, Try.ntmps37
    go_wp2
    go_ret2
    exact ⟨ret_ib E1.out.symm E2.out.symm, rfl⟩
  by_cases h2 : size < base + (a + n)
  · have hh : M.hit base bound size a n = false := by rw [Bool.eq_false_iff, ne_eq, M.hit_iff]; omega
    have E1 := Lib.hid (M.phys_miss hh)
    have E2 := Lib.hid hh
    clear hh
    go_enter Try.func37, Try.ntmps37
    go_wp2
    go_ret2
    exact ⟨ret_ib E1.out.symm E2.out.symm, rfl⟩
  · have hh : M.hit base bound size a n = true := by rw [M.hit_iff]; omega
    have E1 := Lib.hid (M.phys_hit hh)
    have E2 := Lib.hid hh
    have hw : IntKind.u32.wrap (base + a) = base + a := by rw [IntKind.wrap_u32]; omega
    clear hh
    go_enter Try.func37, Try.ntmps37
    go_wp2
    go_ret2
    exact ⟨ret_ib E1.out.symm E2.out.symm, rfl⟩

def LeastRel (W : World) (x y : Int) (lo i : Value) (w : World) : Prop := ((i = .int .i64 0 ∧ lo = .int .u32 x) ∨ (i = .int .i64 1 ∧ lo = .int .u32 (min x y))) ∧ w = W
theorem inUse (c : List Int) (size : Int) (W : World) (hc : M.Core c) (s0 : 0 ≤ size) (s1 : size < 4294967296) :
    Calls Try.prog 36 #[.agg (ints .u32 c), .int .u32 size] W fun e W' => e = .returned (.tuple #[.int .u32 (M.ub c), .int .u32 (M.un c size)]) ∧ Dn W W' := by
  have hl := hc.len
  have r := Row.new W 26 .u32 c
  have d0 := (Dn.refl W).alloc (.cells (ints .u32 c) 26)
  cases hs : M.sup c
  · have E1 : Hid (M.ub c = M.csr c 5) := Lib.hid (by unfold M.ub; rw [hs]; rfl)
    have E2 : Hid (M.un c size = M.csr c 6) := Lib.hid (by unfold M.un; rw [hs]; rfl)
    have D := Lib.hid d0
    have R := Lib.hid r
    clear d0
    go_enter Try.func36, Try.ntmps36
    go_wp2_with (first | ((with_reducible refine load29 r hl ?_ ?_ ?_); rfl; rfl))
    refine (isSup c _ hc).mono ?_
    rintro e w1 ⟨rfl, d1⟩
    rw [hs]
    have r5 : w1.cell? ⟨W.heap.size, 22, none⟩ = some (.int .u32 (M.csr c 5)) := (R.out.dn d1).csr hc 5 (by decide)
    have r6 : w1.cell? ⟨W.heap.size, 23, none⟩ = some (.int .u32 (M.csr c 6)) := (R.out.dn d1).csr hc 6 (by decide)
    have D1 := Lib.hid (D.out.trans d1)
    clear r d1
    go_wp2_with fail
    go_quiet (fail)
    go_wp2
    go_ret2
    exact ⟨ret_ii E1.out.symm E2.out.symm, D1.out.drewN _⟩
  · have E1 : Hid (M.ub c = 0) := Lib.hid (by unfold M.ub; rw [hs]; rfl)
    have E2 : Hid (M.un c size = size) := Lib.hid (by unfold M.un; rw [hs]; rfl)
    have D := Lib.hid d0
    clear d0
    go_enter Try.func36, Try.ntmps36
    go_wp2_with (first | ((with_reducible refine load29 r hl ?_ ?_ ?_); rfl; rfl))
    refine (isSup c _ hc).mono ?_
    rintro e w1 ⟨rfl, d1⟩
    rw [hs]
    have D1 := Lib.hid (D.out.trans d1)
    clear r d1
    go_wp2
    go_ret2
    exact ⟨ret_ii E1.out.symm E2.out.symm, D1.out⟩

theorem translateCore (c : List Int) (size a n : Int) (W : World) (hc : M.Core c) (s0 : 0 ≤ size) (s1 : size < 4294967296) (a0 : 0 ≤ a) (a1 : a < 4294967296) (n0 : 1 ≤ n) (n1 : n ≤ 4) :
    Calls Try.prog 25 #[.agg (ints .u32 c), .int .u32 size, .int .u32 a, .int .i64 n] W fun e W' => e = .returned (.tuple #[.int .u32 (M.phys (M.ub c) (M.un c size) size a n), .bool (M.hit (M.ub c) (M.un c size) size a n)]) ∧ Dn W W' := by
  have hl := hc.len
  have r := Row.new W 26 .u32 c
  have D := Lib.hid ((Dn.refl W).alloc (.cells (ints .u32 c) 26))
  have u1 := M.ub_rng hc
  have u2 := M.un_rng hc s0 s1
  go_enter Try.func25, Try.ntmps25
  go_wp2_with (first | ((with_reducible refine load29 r hl ?_ ?_ ?_); rfl; rfl))
  refine (inUse c size _ hc s0 s1).mono ?_
  rintro e w1 ⟨rfl, d1⟩
  have D1 := Lib.hid (D.out.trans d1)
  clear r d1
  go_wp2_with fail
  refine (translate (M.ub c) (M.un c size) size a n _ u1.1 u1.2 u2.1 u2.2 s0 s1 a0 a1 n0 n1).mono ?_
  rintro e w2 ⟨rfl, rfl⟩
  go_wp2
  go_ret2
  exact ⟨rfl, D1.out⟩

theorem new_cell0 (w : World) (v : Value) (t : TypeId) : (w.alloc (.cells #[v] t)).cell? ⟨w.heap.size, 0, none⟩ = some v := by rw [World.cell?_alloc_new]; rfl
end Go.Proofs.Ytchekfipdhoejaa
