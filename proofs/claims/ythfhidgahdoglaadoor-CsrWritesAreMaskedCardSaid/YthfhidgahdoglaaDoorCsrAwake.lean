/-
  The law package's awake returns true. Condition: the two tables of package csr hold what the program's text lays there.
-/
import Derived.Test.YthfhidgahdoglaaDoorCsrCalls
namespace Go.Proofs.YthfhidgahdoglaaDoor
open Go.ChangeShapes Go.WideShapes Go.ChangeAt Go.RowKit Go.Sort
set_option linter.unusedVariables false

theorem awake_facts : M.num [116, 118, 101, 99] = 4 ∧ M.has [116, 118, 101, 99] = true ∧ M.has [102, 111, 111] = false ∧ M.cmp M.reset = 18446744073709551615 ∧ M.name 11 = [115, 99, 114, 97, 116, 99, 104] ∧ M.name 12 = [] ∧
    M.at_ M.reset 0 = 1 ∧ M.at_ (M.wr M.reset 0 15) 0 = 15 ∧ M.at_ (M.wr (M.wr M.reset 0 15) 0 0) 0 = 1 ∧ M.at_ (M.wr M.reset 1 7) 1 = 4 ∧ M.mask 7 = 0 ∧ M.mask (-1) = 0 ∧ M.rd M.reset 4294967301 7 = 5 ∧ M.rd M.reset 4294967301 8 = 1 ∧ M.rd (M.wr M.reset 1 7) 0 1 = 4 ∧ M.rd (M.wr M.reset 1 7) 0 12 = 0 := by decide +kernel

set_option maxHeartbeats 1000000 in
theorem awake (W : World) (T : CsrTabs W) : Calls Tryd.prog 8 #[] W fun e W' => e = .returned (.bool true) ∧ Dn W W' := by
  obtain ⟨f1, f2, f3, f4, f5, f6, f7, f8, f9, f10, f11, f12, f13, f14, f15, f16⟩ := awake_facts
  have o0 := M.reset_ok
  have oa := M.wr_ok o0 0 15
  have ob := M.wr_ok oa 0 0
  have od := M.wr_ok o0 1 7
  go_enter Tryd.func8, Tryd.ntmps8
  go_wp2_with fail
  refine (reset _).mono ?_
  rintro e w1 ⟨rfl, d1⟩
  go_wp2_with (first | ((with_reducible refine store12 (b := w1.heap.size) M.reset rfl ?_ ?_ ?_ rfl ?_); rfl; rfl; rfl))
  have k1 : Dn W _ := d1.alloc (.cells (ints .u32 M.reset) 23)
  refine (number [116, 118, 101, 99] _ (T.dn k1)).mono ?_
  rintro e w ⟨rfl, rfl⟩
  go_wp2_with fail
  refine (number [102, 111, 111] _ (T.dn k1)).mono ?_
  rintro e w ⟨rfl, rfl⟩
  have r1 := Row.new w1 23 .u32 M.reset
  go_wp2_with (first | ((with_reducible refine load12 r1 rfl ?_ ?_ ?_); rfl; rfl))
  refine (write M.reset 0 15 _ (T.dn k1) o0 (by decide) (by decide)).mono ?_
  rintro e w2 ⟨rfl, d2⟩
  have k2 := k1.trans d2
  have k2b := k2.alloc (.cells (ints .u32 (M.wr M.reset 0 15)) 23)
  have r1 := r1.dn (d2.alloc (.cells (ints .u32 (M.wr M.reset 0 15)) 23))
  have ra := Row.new w2 23 .u32 (M.wr M.reset 0 15)
  go_wp2_with (first | ((with_reducible refine store12 (b := w2.heap.size) (M.wr M.reset 0 15) oa.len ?_ ?_ ?_ rfl ?_); rfl; rfl; rfl) | ((with_reducible refine load12 ra oa.len ?_ ?_ ?_); rfl; rfl))
  refine (write (M.wr M.reset 0 15) 0 0 _ (T.dn k2b) oa (by decide) (by decide)).mono ?_
  rintro e w3 ⟨rfl, d3⟩
  have k3b := (k2b.trans d3).alloc (.cells (ints .u32 (M.wr (M.wr M.reset 0 15) 0 0)) 23)
  have r1 := r1.dn (d3.alloc (.cells (ints .u32 (M.wr (M.wr M.reset 0 15) 0 0)) 23))
  have ra := ra.dn (d3.alloc (.cells (ints .u32 (M.wr (M.wr M.reset 0 15) 0 0)) 23))
  have rb := Row.new w3 23 .u32 (M.wr (M.wr M.reset 0 15) 0 0)
  go_wp2_with (first | ((with_reducible refine store12 (b := w3.heap.size) (M.wr (M.wr M.reset 0 15) 0 0) ob.len ?_ ?_ ?_ rfl ?_); rfl; rfl; rfl) | ((with_reducible refine load12 r1 rfl ?_ ?_ ?_); rfl; rfl))
  refine (write M.reset 1 7 _ (T.dn k3b) o0 (by decide) (by decide)).mono ?_
  rintro e w4 ⟨rfl, d4⟩
  have k4 := (k3b.trans d4).alloc (.cells (ints .u32 (M.wr M.reset 1 7)) 23)
  have r1 := r1.dn (d4.alloc (.cells (ints .u32 (M.wr M.reset 1 7)) 23))
  have ra := ra.dn (d4.alloc (.cells (ints .u32 (M.wr M.reset 1 7)) 23))
  have rb := rb.dn (d4.alloc (.cells (ints .u32 (M.wr M.reset 1 7)) 23))
  have rd := Row.new w4 23 .u32 (M.wr M.reset 1 7)
  have c1 : (w4.alloc (.cells (ints .u32 (M.wr M.reset 1 7)) 23)).cell? ⟨w1.heap.size, 0, none⟩ = some (.int .u32 (M.at_ M.reset 0)) := r1.cell 0 (by decide)
  rw [f7] at c1
  go_wp2_with (first | ((with_reducible refine store12 (b := w4.heap.size) (M.wr M.reset 1 7) od.len ?_ ?_ ?_ rfl ?_); rfl; rfl; rfl; refine Hid.out ?_))
  refine Lib.hid ?_
  go_step
  go_step
  go_step
  simp only [List.append]
  go_wp2_with (first | ((with_reducible refine load12 r1 rfl ?_ ?_ ?_); rfl; rfl))
  refine (compare M.reset _ o0).mono ?_
  rintro e w5 ⟨rfl, d5⟩
  have k5 := k4.trans d5
  clear c1
  have r1 := r1.dn d5
  have ra := ra.dn d5
  have rb := rb.dn d5
  have rd := rd.dn d5
  go_wp2_with fail
  refine (name 11 _ (T.dn k5)).mono ?_
  rintro e w ⟨rfl, rfl⟩
  go_wp2_with fail
  refine (name 12 _ (T.dn k5)).mono ?_
  rintro e w ⟨rfl, rfl⟩
  have ca : w5.cell? ⟨w2.heap.size, 0, none⟩ = some (.int .u32 (M.at_ (M.wr M.reset 0 15) 0)) := ra.cell 0 (by decide)
  have cb : w5.cell? ⟨w3.heap.size, 0, none⟩ = some (.int .u32 (M.at_ (M.wr (M.wr M.reset 0 15) 0 0) 0)) := rb.cell 0 (by decide)
  have cd : w5.cell? ⟨w4.heap.size, 1, none⟩ = some (.int .u32 (M.at_ (M.wr M.reset 1 7) 1)) := rd.cell 1 (by decide)
  rw [f8] at ca
  rw [f9] at cb
  rw [f10] at cd
  go_wp2_with fail
  refine (writeMask 7 _ (T.dn k5)).mono ?_
  rintro e w ⟨rfl, rfl⟩
  go_wp2_with fail
  refine (writeMask (-1) _ (T.dn k5)).mono ?_
  rintro e w ⟨rfl, rfl⟩
  go_wp2_with (first | ((with_reducible refine load12 r1 rfl ?_ ?_ ?_); rfl; rfl))
  refine (read M.reset 4294967301 7 _ rfl (by decide) (by decide)).mono ?_
  rintro e w6 ⟨rfl, d6⟩
  have r1 := r1.dn d6
  have rd := rd.dn d6
  clear ca cb cd
  go_wp2_with (first | ((with_reducible refine load12 r1 rfl ?_ ?_ ?_); rfl; rfl))
  refine (read M.reset 4294967301 8 _ rfl (by decide) (by decide)).mono ?_
  rintro e w7 ⟨rfl, d7⟩
  have rd := rd.dn d7
  go_wp2_with (first | ((with_reducible refine load12 rd od.len ?_ ?_ ?_); rfl; rfl))
  refine (read (M.wr M.reset 1 7) 0 1 _ od.len (by decide) (by decide)).mono ?_
  rintro e w8 ⟨rfl, d8⟩
  have rd := rd.dn d8
  go_wp2_with (first | ((with_reducible refine load12 rd od.len ?_ ?_ ?_); rfl; rfl))
  refine (read (M.wr M.reset 1 7) 0 12 _ od.len (by decide) (by decide)).mono ?_
  rintro e w9 ⟨rfl, d9⟩
  go_wp2
  go_ret
  exact ⟨rfl, (((k5.trans d6).trans d7).trans d8).trans d9⟩

end Go.Proofs.YthfhidgahdoglaaDoor
