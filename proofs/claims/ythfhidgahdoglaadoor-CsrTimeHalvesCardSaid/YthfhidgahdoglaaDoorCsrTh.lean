/-
  The law CsrTimeHalves walked. Condition: the two tables of package csr.
-/
import Derived.Test.YthfhidgahdoglaaDoorCsrAwake
import Derived.Test.YthfhidgahdoglaaDoorCsrLaws
namespace Go.Proofs.YthfhidgahdoglaaDoor
open Go.ChangeShapes Go.WideShapes Go.ChangeAt Go.RowKit Go.Sort
set_option linter.unusedVariables false

set_option maxHeartbeats 1000000 in
theorem thWalk (c : List Int) (hc : M.Ok c) (time : Int) (t0 : 0 ≤ time) (t1 : time < 18446744073709551616) (at_ : Int) (a0 : 0 ≤ at_) (a1 : at_ < 18446744073709551616) (n : Int) (n0 : 0 ≤ n) (n1 : n < 256) (W : World) (E : CsrTabs W) :
    Calls Tryd.prog 5 #[.agg (ints .u32 c), .int .u64 time, .int .u64 at_, .int .u8 n] W fun e W' => e = .returned (.bool true) ∧ Dn W W' := by
  have hl := hc.len
  have q7 : M.rd c time 7 = time % 4294967296 := rfl
  have q8 : M.rd c time 8 = time / 4294967296 := rfl
  have hsum : time / 4294967296 * 4294967296 + time % 4294967296 = time := by omega
  have x0 : 0 ≤ at_ % 4294967296 := by omega
  have x1 : at_ % 4294967296 < 4294967296 := by omega
  have y0 : 0 ≤ at_ / 4294967296 := by omega
  have y1 : at_ / 4294967296 < 4294967296 := by omega
  have o1 := M.wr_ok hc 9 (at_ % 4294967296)
  have o2 := M.wr_ok o1 10 (at_ / 4294967296)
  have l2 := o2.len
  have hcmp : M.cmp (M.wr (M.wr c 9 (at_ % 4294967296)) 10 (at_ / 4294967296)) = at_ := by rw [M.cmp_wr hc _ _ x0 x1 y0 y1]; omega
  have he : M.ex (n % 12) = true := (M.ex_iff _).2 (by omega)
  have hn := M.num_name he
  have hn1 := hn.1
  have hn2 := hn.2
  have hn3 := M.has_nil
  clear hn
  have i0 : 0 ≤ n % 12 := by omega
  have i1 : n % 12 < 12 := by omega
  obtain ⟨i, hi⟩ : ∃ i, n % 12 = i := ⟨_, rfl⟩
  rw [hi] at he hn1 hn2 i0 i1
  go_enter Tryd.func5, Tryd.ntmps5
  go_wp2_with fail
  have k0 := (Dn.refl W).alloc (.cells (ints .u32 c) 23)
  have r := Row.new W 23 .u32 c
  refine (awake _ (E.dn k0)).mono ?_
  rintro e w1 ⟨rfl, d1⟩
  have k1 := k0.trans d1
  have r := r.dn d1
  go_wp2_with (first | ((with_reducible refine load12 r hl ?_ ?_ ?_); rfl; rfl))
  refine (read c time 7 _ hl t0 t1).mono ?_
  rintro e w2 ⟨rfl, d2⟩
  have k2 := k1.trans d2
  have r := r.dn d2
  go_wp2_with (first | ((with_reducible refine load12 r hl ?_ ?_ ?_); rfl; rfl))
  refine (read c time 8 _ hl t0 t1).mono ?_
  rintro e w3 ⟨rfl, d3⟩
  have k3 := k2.trans d3
  have r := r.dn d3
  go_wp2_with (first | ((with_reducible refine load12 r hl ?_ ?_ ?_); rfl; rfl))
  refine (write c 9 (at_ % 4294967296) _ (E.dn k3) hc x0 x1).mono ?_
  rintro e w4 ⟨rfl, d4⟩
  have k4 := k3.trans d4
  go_wp2_with fail
  refine (write _ 10 (at_ / 4294967296) _ (E.dn k4) o1 y0 y1).mono ?_
  rintro e w5 ⟨rfl, d5⟩
  have k5 := (k4.trans d5).alloc (.cells (ints .u32 (M.wr (M.wr c 9 (at_ % 4294967296)) 10 (at_ / 4294967296))) 23)
  have rd := Row.new w5 23 .u32 (M.wr (M.wr c 9 (at_ % 4294967296)) 10 (at_ / 4294967296))
  go_wp2_with (first | ((with_reducible refine store12 (b := w5.heap.size) _ l2 ?_ ?_ ?_ rfl ?_); rfl; rfl; rfl))
  refine (name i _ (E.dn k5)).mono ?_
  rintro e w ⟨rfl, rfl⟩
  go_wp2_with fail
  refine (number _ _ (E.dn k5)).mono ?_
  rintro e w ⟨rfl, rfl⟩
  go_wp2_with fail
  refine (number [] _ (E.dn k5)).mono ?_
  rintro e w ⟨rfl, rfl⟩
  go_wp2_with (first | ((with_reducible refine load12 rd l2 ?_ ?_ ?_); rfl; rfl))
  refine (compare _ _ o2).mono ?_
  rintro e w6 ⟨rfl, d6⟩
  go_wp2
  go_ret
  exact ⟨rfl, k5.trans d6⟩
end Go.Proofs.YthfhidgahdoglaaDoor
