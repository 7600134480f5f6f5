/-
  The law PrivilegedMatchesReference of the law package returns true at every input, and each argument reads as it did; conditions: the listed package variables hold what the program's text lays there (the card ties them to it).
-/
import Derived.Test.YthkhahfhbhgfhaaDoorCards
import Derived.Test.YthkhahfhbhgfhaaDoorTie
import Derived.Test.YthkhahfhbhgfhaaDoorPkW
import Derived.Test.YthkhahfhbhgfhaaDoorPkG
namespace Go.Proofs.YthkhahfhbhgfhaaDoor
open Go.ChangeShapes Go.WideShapes Go.ChangeAt Go.RowKit Go.Sort
set_option linter.unusedVariables false

set_option maxRecDepth 100000 in
set_option maxHeartbeats 2000000 in
theorem pm_few1 (m : Mc) (op rd ra rb imm : Int) (W : World) (hm : m.Ok W) (T : Cs.CsrTabs W) (i0 : -2147483648 ≤ imm) (i1 : imm < 2147483648) (hx : m.xs.length ≤ 9223372036854775807) (hy : m.ys.length ≤ 9223372036854775807) (hf : decide (m.xs.length ≤ 600 ∧ m.ys.length ≤ 600) = false) (hr : M.reads op imm = true) :
    Calls Tryd.prog 4 #[.agg (mach m), .agg (ins op rd ra rb imm)] W fun e W' => e = .returned (.bool true) ∧ Dn W W' := by
  have C0 := Lib.hid fun w => fun (t : Cs.CsrTabs w) => awakeP w t
  have CF := Lib.hid fun w => fun (ow : m.Ok w) => rfew m false w ow hx hy hf
  have R1 := Lib.hid (pvReads op rd ra rb imm true i0 i1 hr)
  have R2 := Lib.hid (rReads op rd ra rb imm true i0 i1 hr)
  clear hr
  clear hf
  have HD := Lib.hid (Dn.refl W)
  go_enter Tryd.func4, Tryd.ntmps4
  go_wp2_with (first | ((with_reducible refine wpList_box (vs := (mach m)) ?_ ?_ ?_); rfl; rfl; intro b_v2 w' nn; refine Hid.out ?_))
  refine Lib.hid ?_
  have HL_v2 : Hid (W.heap.size ≤ b_v2) := Lib.hid (Blk.hi nn HD.out.size)
  have d' := nn.dn
  replace HD := Lib.hid (HD.out.trans d')
  have v2 := nn.blk
  clear d' nn
  go_wp2_with (first | ((with_reducible refine wpList_box (vs := (ins op rd ra rb imm)) ?_ ?_ ?_); rfl; rfl; intro b_v3 w' nn; refine Hid.out ?_))
  refine Lib.hid ?_
  have n_v2_v3 := Lib.hid (nn.ne _ v2.lt)
  have HL_v3 : Hid (W.heap.size ≤ b_v3) := Lib.hid (Blk.hi nn HD.out.size)
  have d' := nn.dn
  replace v2 := v2.dn d'
  replace HD := Lib.hid (HD.out.trans d')
  have v3 := nn.blk
  clear d' nn
  go_wp2_with fail
  have nx_v2 : b_v2 ∉ [] := (by simp)
  have nx_v3 : b_v3 ∉ [] := (by simp)
  have hbs : ∀ b ∈ ([] : List Nat), ∃ t cs, Blk w' b t cs ∧ NoU8 cs := fun b hb => absurd hb (by simp)
  have hbl : ∀ b ∈ ([] : List Nat), W.heap.size ≤ b := fun b hb => absurd hb (by simp)
  refine wp_region_picks [] [0, 1, 2, 3, 4, 5, 6, 7, 8, 9, 10, 11, 12, 13, 14, 15, 16, 17, 18] 0 (by kernel_rfl) (by kernel_rfl) rfl (by kernel_rfl) ?_
  simp only [pickL, List.drop_succ_cons, List.drop_zero, List.take_succ_cons, List.take_zero, List.cons_append, List.nil_append]
  refine ⟨?_, ?_, ?_⟩
  rotate_left 1
  refine ⟨_, calx_call (fun u du => C0.out u (T.dn (HD.out.of_dx du hbl))) (by rfl) (fun u => by go_simp), ?_⟩
  simp only [Act.put, List.setIfInBounds_toArray, List.set_cons_succ, List.set_cons_zero]
  refine ⟨_, calx_pure (by rfl) (fun u => by go_simp; rfl), ?_⟩
  simp only [Act.put, List.setIfInBounds_toArray, List.set_cons_succ, List.set_cons_zero]
  refine ⟨_, calx_pure (by rfl) (fun u => by go_simp; rfl), ?_⟩
  simp only [Act.put, List.setIfInBounds_toArray, List.set_cons_succ, List.set_cons_zero]
  refine ⟨_, calxI v3 nx_v3 (by rfl) rfl, ?_⟩
  simp only [Act.put, List.setIfInBounds_toArray, List.set_cons_succ, List.set_cons_zero]
  refine ⟨_, calx_call (fun u du => R1.out u) (by rfl) (fun u => by go_simp), ?_⟩
  simp only [Act.put, List.setIfInBounds_toArray, List.set_cons_succ, List.set_cons_zero]
  refine ⟨_, calxI v3 nx_v3 (by rfl) rfl, ?_⟩
  simp only [Act.put, List.setIfInBounds_toArray, List.set_cons_succ, List.set_cons_zero]
  refine ⟨_, calx_call (fun u du => R2.out u) (by rfl) (fun u => by go_simp), ?_⟩
  simp only [Act.put, List.setIfInBounds_toArray, List.set_cons_succ, List.set_cons_zero]
  refine ⟨_, calx_pure (by rfl) (fun u => by go_simp; rfl), ?_⟩
  simp only [Act.put, List.setIfInBounds_toArray, List.set_cons_succ, List.set_cons_zero]
  refine ⟨_, calx_pure (by rfl) (fun u => by go_simp; rfl), ?_⟩
  simp only [Act.put, List.setIfInBounds_toArray, List.set_cons_succ, List.set_cons_zero]
  refine ⟨_, calx_pure (by rfl) (fun u => by go_simp; rfl), ?_⟩
  simp only [Act.put, List.setIfInBounds_toArray, List.set_cons_succ, List.set_cons_zero]
  refine ⟨_, calx33 v2 hm.len nx_v2 (by rfl) rfl, ?_⟩
  simp only [Act.put, List.setIfInBounds_toArray, List.set_cons_succ, List.set_cons_zero]
  refine ⟨_, calx_call (fun u du => CF.out u (hm.dn (HD.out.of_dx du hbl))) (by rfl) (fun u => by go_simp), ?_⟩
  simp only [Act.put, List.setIfInBounds_toArray, List.set_cons_succ, List.set_cons_zero]
  refine ⟨_, calx_pure (by rfl) (fun u => by go_simp; rfl), ?_⟩
  simp only [Act.put, List.setIfInBounds_toArray, List.set_cons_succ, List.set_cons_zero]
  refine ⟨_, calx_pure (by rfl) (fun u => by go_simp; rfl), ?_⟩
  simp only [Act.put, List.setIfInBounds_toArray, List.set_cons_succ, List.set_cons_zero]
  refine ⟨_, calx_pure (by rfl) (fun u => by go_simp; rfl), ?_⟩
  simp only [Act.put, List.setIfInBounds_toArray, List.set_cons_succ, List.set_cons_zero]
  refine ⟨_, .inr ⟨by rfl, rfl⟩, ?_⟩
  simp only [Act.put, List.setIfInBounds_toArray, List.set_cons_succ, List.set_cons_zero]
  refine ⟨_, .inr ⟨by rfl, rfl⟩, ?_⟩
  simp only [Act.put, List.setIfInBounds_toArray, List.set_cons_succ, List.set_cons_zero]
  refine ⟨_, .inr ⟨by rfl, rfl⟩, ?_⟩
  simp only [Act.put, List.setIfInBounds_toArray, List.set_cons_succ, List.set_cons_zero]
  refine ⟨_, calx_pure (by rfl) (fun u => by go_simp; rfl), ?_⟩
  simp only [Act.put, List.setIfInBounds_toArray, List.set_cons_succ, List.set_cons_zero]
  exact rfl
  have e0 : Dx [] w' w'.drew := Dn.dx (Dn.drawn _)
  refine wpX_end (by kernel_rfl) fun w' dx => NoPanic.normal ?_
  have D := e0.trans (Dn.dx dx)
  clear e0 dx
  replace v2 := v2.dx D nx_v2
  replace v3 := v3.dx D nx_v3
  replace HD := Lib.hid (HD.out.of_dx D hbl)
  clear D hbs hbl nx_v2 nx_v3
  go_wp2_with fail
  have nx_v2 : b_v2 ∉ [] := (by simp)
  have nx_v3 : b_v3 ∉ [] := (by simp)
  have hbs : ∀ b ∈ ([] : List Nat), ∃ t cs, Blk w' b t cs ∧ NoU8 cs := fun b hb => absurd hb (by simp)
  have hbl : ∀ b ∈ ([] : List Nat), W.heap.size ≤ b := fun b hb => absurd hb (by simp)
  refine wp_region_picks [] [0, 1, 2, 3, 4, 5, 6, 7, 8] 0 (by kernel_rfl) (by kernel_rfl) rfl (by kernel_rfl) ?_
  simp only [pickL, List.drop_succ_cons, List.drop_zero, List.take_succ_cons, List.take_zero, List.cons_append, List.nil_append]
  refine ⟨?_, ?_, ?_⟩
  rotate_left 1
  refine ⟨_, calx_call (fun u du => C0.out u (T.dn (HD.out.of_dx du hbl))) (by rfl) (fun u => by go_simp), ?_⟩
  simp only [Act.put, List.setIfInBounds_toArray, List.set_cons_succ, List.set_cons_zero]
  refine ⟨_, calx_pure (by rfl) (fun u => by go_simp; rfl), ?_⟩
  simp only [Act.put, List.setIfInBounds_toArray, List.set_cons_succ, List.set_cons_zero]
  refine ⟨_, calxI v3 nx_v3 (by rfl) rfl, ?_⟩
  simp only [Act.put, List.setIfInBounds_toArray, List.set_cons_succ, List.set_cons_zero]
  refine ⟨_, calx_call (fun u du => R1.out u) (by rfl) (fun u => by go_simp), ?_⟩
  simp only [Act.put, List.setIfInBounds_toArray, List.set_cons_succ, List.set_cons_zero]
  refine ⟨_, calxI v3 nx_v3 (by rfl) rfl, ?_⟩
  simp only [Act.put, List.setIfInBounds_toArray, List.set_cons_succ, List.set_cons_zero]
  refine ⟨_, calx_call (fun u du => R2.out u) (by rfl) (fun u => by go_simp), ?_⟩
  simp only [Act.put, List.setIfInBounds_toArray, List.set_cons_succ, List.set_cons_zero]
  refine ⟨_, calx_pure (by rfl) (fun u => by go_simp; rfl), ?_⟩
  simp only [Act.put, List.setIfInBounds_toArray, List.set_cons_succ, List.set_cons_zero]
  refine ⟨_, calx_pure (by rfl) (fun u => by go_simp; rfl), ?_⟩
  simp only [Act.put, List.setIfInBounds_toArray, List.set_cons_succ, List.set_cons_zero]
  refine ⟨_, calx_pure (by rfl) (fun u => by go_simp; rfl), ?_⟩
  simp only [Act.put, List.setIfInBounds_toArray, List.set_cons_succ, List.set_cons_zero]
  exact rfl
  have e0 : Dx [] w' w'.drew := Dn.dx (Dn.drawn _)
  refine wpX_end (by kernel_rfl) fun w' dx => NoPanic.normal ?_
  have D := e0.trans (Dn.dx dx)
  clear e0 dx
  replace v2 := v2.dx D nx_v2
  replace v3 := v3.dx D nx_v3
  replace HD := Lib.hid (HD.out.of_dx D hbl)
  clear D hbs hbl nx_v2 nx_v3
  go_wp2_with fail
  go_ret
  exact ⟨rfl, HD.out⟩
set_option maxRecDepth 100000 in
set_option maxHeartbeats 2000000 in
theorem pm_no1 (m : Mc) (op rd ra rb imm : Int) (W : World) (hm : m.Ok W) (T : Cs.CsrTabs W) (i0 : -2147483648 ≤ imm) (i1 : imm < 2147483648) (hx : m.xs.length ≤ 9223372036854775807) (hy : m.ys.length ≤ 9223372036854775807) (hf : decide (m.xs.length ≤ 600 ∧ m.ys.length ≤ 600) = true) (hr : M.reads op imm = true) (hpl : (Is.M.ok op rd ra rb imm && Is.M.priv op) = false) :
    Calls Tryd.prog 4 #[.agg (mach m), .agg (ins op rd ra rb imm)] W fun e W' => e = .returned (.bool true) ∧ Dn W W' := by
  have C0 := Lib.hid fun w => fun (t : Cs.CsrTabs w) => awakeP w t
  have CF := Lib.hid fun w => fun (ow : m.Ok w) => rfew m true w ow hx hy hf
  have CP := Lib.hid (rRight op rd ra rb imm false i0 i1 hpl)
  have R1 := Lib.hid (pvReads op rd ra rb imm true i0 i1 hr)
  have R2 := Lib.hid (rReads op rd ra rb imm true i0 i1 hr)
  clear hr
  clear hf hpl
  have HD := Lib.hid (Dn.refl W)
  go_enter Tryd.func4, Tryd.ntmps4
  go_wp2_with (first | ((with_reducible refine wpList_box (vs := (mach m)) ?_ ?_ ?_); rfl; rfl; intro b_v2 w' nn; refine Hid.out ?_))
  refine Lib.hid ?_
  have HL_v2 : Hid (W.heap.size ≤ b_v2) := Lib.hid (Blk.hi nn HD.out.size)
  have d' := nn.dn
  replace HD := Lib.hid (HD.out.trans d')
  have v2 := nn.blk
  clear d' nn
  go_wp2_with (first | ((with_reducible refine wpList_box (vs := (ins op rd ra rb imm)) ?_ ?_ ?_); rfl; rfl; intro b_v3 w' nn; refine Hid.out ?_))
  refine Lib.hid ?_
  have n_v2_v3 := Lib.hid (nn.ne _ v2.lt)
  have HL_v3 : Hid (W.heap.size ≤ b_v3) := Lib.hid (Blk.hi nn HD.out.size)
  have d' := nn.dn
  replace v2 := v2.dn d'
  replace HD := Lib.hid (HD.out.trans d')
  have v3 := nn.blk
  clear d' nn
  go_wp2_with fail
  have nx_v2 : b_v2 ∉ [] := (by simp)
  have nx_v3 : b_v3 ∉ [] := (by simp)
  have hbs : ∀ b ∈ ([] : List Nat), ∃ t cs, Blk w' b t cs ∧ NoU8 cs := fun b hb => absurd hb (by simp)
  have hbl : ∀ b ∈ ([] : List Nat), W.heap.size ≤ b := fun b hb => absurd hb (by simp)
  refine wp_region_picks [] [0, 1, 2, 3, 4, 5, 6, 7, 8, 9, 10, 11, 12, 13, 14, 15, 16, 17, 18] 0 (by kernel_rfl) (by kernel_rfl) rfl (by kernel_rfl) ?_
  simp only [pickL, List.drop_succ_cons, List.drop_zero, List.take_succ_cons, List.take_zero, List.cons_append, List.nil_append]
  refine ⟨?_, ?_, ?_⟩
  rotate_left 1
  refine ⟨_, calx_call (fun u du => C0.out u (T.dn (HD.out.of_dx du hbl))) (by rfl) (fun u => by go_simp), ?_⟩
  simp only [Act.put, List.setIfInBounds_toArray, List.set_cons_succ, List.set_cons_zero]
  refine ⟨_, calx_pure (by rfl) (fun u => by go_simp; rfl), ?_⟩
  simp only [Act.put, List.setIfInBounds_toArray, List.set_cons_succ, List.set_cons_zero]
  refine ⟨_, calx_pure (by rfl) (fun u => by go_simp; rfl), ?_⟩
  simp only [Act.put, List.setIfInBounds_toArray, List.set_cons_succ, List.set_cons_zero]
  refine ⟨_, calxI v3 nx_v3 (by rfl) rfl, ?_⟩
  simp only [Act.put, List.setIfInBounds_toArray, List.set_cons_succ, List.set_cons_zero]
  refine ⟨_, calx_call (fun u du => R1.out u) (by rfl) (fun u => by go_simp), ?_⟩
  simp only [Act.put, List.setIfInBounds_toArray, List.set_cons_succ, List.set_cons_zero]
  refine ⟨_, calxI v3 nx_v3 (by rfl) rfl, ?_⟩
  simp only [Act.put, List.setIfInBounds_toArray, List.set_cons_succ, List.set_cons_zero]
  refine ⟨_, calx_call (fun u du => R2.out u) (by rfl) (fun u => by go_simp), ?_⟩
  simp only [Act.put, List.setIfInBounds_toArray, List.set_cons_succ, List.set_cons_zero]
  refine ⟨_, calx_pure (by rfl) (fun u => by go_simp; rfl), ?_⟩
  simp only [Act.put, List.setIfInBounds_toArray, List.set_cons_succ, List.set_cons_zero]
  refine ⟨_, calx_pure (by rfl) (fun u => by go_simp; rfl), ?_⟩
  simp only [Act.put, List.setIfInBounds_toArray, List.set_cons_succ, List.set_cons_zero]
  refine ⟨_, calx_pure (by rfl) (fun u => by go_simp; rfl), ?_⟩
  simp only [Act.put, List.setIfInBounds_toArray, List.set_cons_succ, List.set_cons_zero]
  refine ⟨_, calx33 v2 hm.len nx_v2 (by rfl) rfl, ?_⟩
  simp only [Act.put, List.setIfInBounds_toArray, List.set_cons_succ, List.set_cons_zero]
  refine ⟨_, calx_call (fun u du => CF.out u (hm.dn (HD.out.of_dx du hbl))) (by rfl) (fun u => by go_simp), ?_⟩
  simp only [Act.put, List.setIfInBounds_toArray, List.set_cons_succ, List.set_cons_zero]
  refine ⟨_, calx_pure (by rfl) (fun u => by go_simp; rfl), ?_⟩
  simp only [Act.put, List.setIfInBounds_toArray, List.set_cons_succ, List.set_cons_zero]
  refine ⟨_, calx_pure (by rfl) (fun u => by go_simp; rfl), ?_⟩
  simp only [Act.put, List.setIfInBounds_toArray, List.set_cons_succ, List.set_cons_zero]
  refine ⟨_, calx_pure (by rfl) (fun u => by go_simp; rfl), ?_⟩
  simp only [Act.put, List.setIfInBounds_toArray, List.set_cons_succ, List.set_cons_zero]
  refine ⟨_, calxI v3 nx_v3 (by rfl) rfl, ?_⟩
  simp only [Act.put, List.setIfInBounds_toArray, List.set_cons_succ, List.set_cons_zero]
  refine ⟨_, calx_call (fun u du => CP.out u) (by rfl) (fun u => by go_simp), ?_⟩
  simp only [Act.put, List.setIfInBounds_toArray, List.set_cons_succ, List.set_cons_zero]
  refine ⟨_, calx_pure (by rfl) (fun u => by go_simp; rfl), ?_⟩
  simp only [Act.put, List.setIfInBounds_toArray, List.set_cons_succ, List.set_cons_zero]
  refine ⟨_, calx_pure (by rfl) (fun u => by go_simp; rfl), ?_⟩
  simp only [Act.put, List.setIfInBounds_toArray, List.set_cons_succ, List.set_cons_zero]
  exact rfl
  have e0 : Dx [] w' w'.drew := Dn.dx (Dn.drawn _)
  refine wpX_end (by kernel_rfl) fun w' dx => NoPanic.normal ?_
  have D := e0.trans (Dn.dx dx)
  clear e0 dx
  replace v2 := v2.dx D nx_v2
  replace v3 := v3.dx D nx_v3
  replace HD := Lib.hid (HD.out.of_dx D hbl)
  clear D hbs hbl nx_v2 nx_v3
  go_wp2_with fail
  have nx_v2 : b_v2 ∉ [] := (by simp)
  have nx_v3 : b_v3 ∉ [] := (by simp)
  have hbs : ∀ b ∈ ([] : List Nat), ∃ t cs, Blk w' b t cs ∧ NoU8 cs := fun b hb => absurd hb (by simp)
  have hbl : ∀ b ∈ ([] : List Nat), W.heap.size ≤ b := fun b hb => absurd hb (by simp)
  refine wp_region_picks [] [0, 1, 2, 3, 4, 5, 6, 7, 8] 0 (by kernel_rfl) (by kernel_rfl) rfl (by kernel_rfl) ?_
  simp only [pickL, List.drop_succ_cons, List.drop_zero, List.take_succ_cons, List.take_zero, List.cons_append, List.nil_append]
  refine ⟨?_, ?_, ?_⟩
  rotate_left 1
  refine ⟨_, calx_call (fun u du => C0.out u (T.dn (HD.out.of_dx du hbl))) (by rfl) (fun u => by go_simp), ?_⟩
  simp only [Act.put, List.setIfInBounds_toArray, List.set_cons_succ, List.set_cons_zero]
  refine ⟨_, calx_pure (by rfl) (fun u => by go_simp; rfl), ?_⟩
  simp only [Act.put, List.setIfInBounds_toArray, List.set_cons_succ, List.set_cons_zero]
  refine ⟨_, calxI v3 nx_v3 (by rfl) rfl, ?_⟩
  simp only [Act.put, List.setIfInBounds_toArray, List.set_cons_succ, List.set_cons_zero]
  refine ⟨_, calx_call (fun u du => R1.out u) (by rfl) (fun u => by go_simp), ?_⟩
  simp only [Act.put, List.setIfInBounds_toArray, List.set_cons_succ, List.set_cons_zero]
  refine ⟨_, calxI v3 nx_v3 (by rfl) rfl, ?_⟩
  simp only [Act.put, List.setIfInBounds_toArray, List.set_cons_succ, List.set_cons_zero]
  refine ⟨_, calx_call (fun u du => R2.out u) (by rfl) (fun u => by go_simp), ?_⟩
  simp only [Act.put, List.setIfInBounds_toArray, List.set_cons_succ, List.set_cons_zero]
  refine ⟨_, calx_pure (by rfl) (fun u => by go_simp; rfl), ?_⟩
  simp only [Act.put, List.setIfInBounds_toArray, List.set_cons_succ, List.set_cons_zero]
  refine ⟨_, calx_pure (by rfl) (fun u => by go_simp; rfl), ?_⟩
  simp only [Act.put, List.setIfInBounds_toArray, List.set_cons_succ, List.set_cons_zero]
  refine ⟨_, calx_pure (by rfl) (fun u => by go_simp; rfl), ?_⟩
  simp only [Act.put, List.setIfInBounds_toArray, List.set_cons_succ, List.set_cons_zero]
  exact rfl
  have e0 : Dx [] w' w'.drew := Dn.dx (Dn.drawn _)
  refine wpX_end (by kernel_rfl) fun w' dx => NoPanic.normal ?_
  have D := e0.trans (Dn.dx dx)
  clear e0 dx
  replace v2 := v2.dx D nx_v2
  replace v3 := v3.dx D nx_v3
  replace HD := Lib.hid (HD.out.of_dx D hbl)
  clear D hbs hbl nx_v2 nx_v3
  go_wp2_with fail
  go_ret
  exact ⟨rfl, HD.out⟩
set_option maxRecDepth 100000 in
set_option maxHeartbeats 2000000 in
theorem pm_main1 (m : Mc) (op rd ra rb imm : Int) (W : World) (hm : m.Ok W) (T : Cs.CsrTabs W) (i0 : -2147483648 ≤ imm) (i1 : imm < 2147483648) (hx : m.xs.length ≤ 9223372036854775807) (hy : m.ys.length ≤ 9223372036854775807) (hf : decide (m.xs.length ≤ 600 ∧ m.ys.length ≤ 600) = true) (hr : M.reads op imm = true) (hpl : (Is.M.ok op rd ra rb imm && Is.M.priv op) = true) :
    Calls Tryd.prog 4 #[.agg (mach m), .agg (ins op rd ra rb imm)] W fun e W' => e = .returned (.bool true) ∧ Dn W W' := by
  have hl := hm.len
  have hc := hm.core
  have hs : m.xs.length ≤ 600 := by simp only [decide_eq_true_eq] at hf; omega
  have hn : m.ys.length ≤ 600 := by simp only [decide_eq_true_eq] at hf; omega
  have hvp : Is.M.ok op rd ra rb imm = true ∧ Is.M.priv op = true := by simpa using hpl
  have C0 := Lib.hid fun w => fun (t : Cs.CsrTabs w) => awakeP w t
  have CF := Lib.hid fun w => fun (ow : m.Ok w) => rfew m true w ow hx hy hf
  have CP := Lib.hid (rRight op rd ra rb imm true i0 i1 hpl)
  have R1 := Lib.hid (pvReads op rd ra rb imm true i0 i1 hr)
  have R2 := Lib.hid (rReads op rd ra rb imm true i0 i1 hr)
  clear hr
  have hop := M.px_op hvp.1 hvp.2
  have hz := M.px_len m.c m.ys m.h m.t op rd ra imm
  have C1 := Lib.hid fun w => fun (ow : m.Ok w) (t : Cs.CsrTabs w) => xPv m op rd ra rb imm w ow t i0 i1 (by omega) hop
  have C2 := Lib.hid fun w => fun (ow : m.Ok w) => refDo12 m op rd ra rb imm w ow i0 i1 (by omega) hop
  generalize M.px m.c m.ys m.h m.t op rd ra imm = r at C1 C2 hz
  have C4 := Lib.hid fun (w : World) (m1 m2 : Mc) (n1 n2 : Nat) (o1 : m1.Ok w) (o2 : m2.Ok w) (f1 : Pd m r n1 m1) (f2 : Pd m r n2 m2) => rsame_p w o1 o2 f1 f2 (by omega) (by omega)
  clear hf hpl hvp hop hz
  have HD := Lib.hid (Dn.refl W)
  go_enter Tryd.func4, Tryd.ntmps4
  go_wp2_with (first | ((with_reducible refine wpList_box (vs := (mach m)) ?_ ?_ ?_); rfl; rfl; intro b_v2 w' nn; refine Hid.out ?_))
  refine Lib.hid ?_
  have HL_v2 : Hid (W.heap.size ≤ b_v2) := Lib.hid (Blk.hi nn HD.out.size)
  have d' := nn.dn
  replace HD := Lib.hid (HD.out.trans d')
  have v2 := nn.blk
  clear d' nn
  go_wp2_with (first | ((with_reducible refine wpList_box (vs := (ins op rd ra rb imm)) ?_ ?_ ?_); rfl; rfl; intro b_v3 w' nn; refine Hid.out ?_))
  refine Lib.hid ?_
  have n_v2_v3 := Lib.hid (nn.ne _ v2.lt)
  have HL_v3 : Hid (W.heap.size ≤ b_v3) := Lib.hid (Blk.hi nn HD.out.size)
  have d' := nn.dn
  replace v2 := v2.dn d'
  replace HD := Lib.hid (HD.out.trans d')
  have v3 := nn.blk
  clear d' nn
  go_wp2_with fail
  have nx_v2 : b_v2 ∉ [] := (by simp)
  have nx_v3 : b_v3 ∉ [] := (by simp)
  have hbs : ∀ b ∈ ([] : List Nat), ∃ t cs, Blk w' b t cs ∧ NoU8 cs := fun b hb => absurd hb (by simp)
  have hbl : ∀ b ∈ ([] : List Nat), W.heap.size ≤ b := fun b hb => absurd hb (by simp)
  refine wp_region_picks [] [0, 1, 2, 3, 4, 5, 6, 7, 8, 9, 10, 11, 12, 13, 14, 15, 16, 17, 18] 0 (by kernel_rfl) (by kernel_rfl) rfl (by kernel_rfl) ?_
  simp only [pickL, List.drop_succ_cons, List.drop_zero, List.take_succ_cons, List.take_zero, List.cons_append, List.nil_append]
  refine ⟨?_, ?_, ?_⟩
  rotate_left 1
  refine ⟨_, calx_call (fun u du => C0.out u (T.dn (HD.out.of_dx du hbl))) (by rfl) (fun u => by go_simp), ?_⟩
  simp only [Act.put, List.setIfInBounds_toArray, List.set_cons_succ, List.set_cons_zero]
  refine ⟨_, calx_pure (by rfl) (fun u => by go_simp; rfl), ?_⟩
  simp only [Act.put, List.setIfInBounds_toArray, List.set_cons_succ, List.set_cons_zero]
  refine ⟨_, calx_pure (by rfl) (fun u => by go_simp; rfl), ?_⟩
  simp only [Act.put, List.setIfInBounds_toArray, List.set_cons_succ, List.set_cons_zero]
  refine ⟨_, calxI v3 nx_v3 (by rfl) rfl, ?_⟩
  simp only [Act.put, List.setIfInBounds_toArray, List.set_cons_succ, List.set_cons_zero]
  refine ⟨_, calx_call (fun u du => R1.out u) (by rfl) (fun u => by go_simp), ?_⟩
  simp only [Act.put, List.setIfInBounds_toArray, List.set_cons_succ, List.set_cons_zero]
  refine ⟨_, calxI v3 nx_v3 (by rfl) rfl, ?_⟩
  simp only [Act.put, List.setIfInBounds_toArray, List.set_cons_succ, List.set_cons_zero]
  refine ⟨_, calx_call (fun u du => R2.out u) (by rfl) (fun u => by go_simp), ?_⟩
  simp only [Act.put, List.setIfInBounds_toArray, List.set_cons_succ, List.set_cons_zero]
  refine ⟨_, calx_pure (by rfl) (fun u => by go_simp; rfl), ?_⟩
  simp only [Act.put, List.setIfInBounds_toArray, List.set_cons_succ, List.set_cons_zero]
  refine ⟨_, calx_pure (by rfl) (fun u => by go_simp; rfl), ?_⟩
  simp only [Act.put, List.setIfInBounds_toArray, List.set_cons_succ, List.set_cons_zero]
  refine ⟨_, calx_pure (by rfl) (fun u => by go_simp; rfl), ?_⟩
  simp only [Act.put, List.setIfInBounds_toArray, List.set_cons_succ, List.set_cons_zero]
  refine ⟨_, calx33 v2 hm.len nx_v2 (by rfl) rfl, ?_⟩
  simp only [Act.put, List.setIfInBounds_toArray, List.set_cons_succ, List.set_cons_zero]
  refine ⟨_, calx_call (fun u du => CF.out u (hm.dn (HD.out.of_dx du hbl))) (by rfl) (fun u => by go_simp), ?_⟩
  simp only [Act.put, List.setIfInBounds_toArray, List.set_cons_succ, List.set_cons_zero]
  refine ⟨_, calx_pure (by rfl) (fun u => by go_simp; rfl), ?_⟩
  simp only [Act.put, List.setIfInBounds_toArray, List.set_cons_succ, List.set_cons_zero]
  refine ⟨_, calx_pure (by rfl) (fun u => by go_simp; rfl), ?_⟩
  simp only [Act.put, List.setIfInBounds_toArray, List.set_cons_succ, List.set_cons_zero]
  refine ⟨_, calx_pure (by rfl) (fun u => by go_simp; rfl), ?_⟩
  simp only [Act.put, List.setIfInBounds_toArray, List.set_cons_succ, List.set_cons_zero]
  refine ⟨_, calxI v3 nx_v3 (by rfl) rfl, ?_⟩
  simp only [Act.put, List.setIfInBounds_toArray, List.set_cons_succ, List.set_cons_zero]
  refine ⟨_, calx_call (fun u du => CP.out u) (by rfl) (fun u => by go_simp), ?_⟩
  simp only [Act.put, List.setIfInBounds_toArray, List.set_cons_succ, List.set_cons_zero]
  refine ⟨_, calx_pure (by rfl) (fun u => by go_simp; rfl), ?_⟩
  simp only [Act.put, List.setIfInBounds_toArray, List.set_cons_succ, List.set_cons_zero]
  refine ⟨_, calx_pure (by rfl) (fun u => by go_simp; rfl), ?_⟩
  simp only [Act.put, List.setIfInBounds_toArray, List.set_cons_succ, List.set_cons_zero]
  exact rfl
  have e0 : Dx [] w' w'.drew := Dn.dx (Dn.drawn _)
  refine wpX_end (by kernel_rfl) fun w' dx => NoPanic.normal ?_
  have D := e0.trans (Dn.dx dx)
  clear e0 dx
  replace v2 := v2.dx D nx_v2
  replace v3 := v3.dx D nx_v3
  replace HD := Lib.hid (HD.out.of_dx D hbl)
  clear D hbs hbl nx_v2 nx_v3
  go_wp2_with fail
  have nx_v2 : b_v2 ∉ [] := (by simp)
  have nx_v3 : b_v3 ∉ [] := (by simp)
  have hbs : ∀ b ∈ ([] : List Nat), ∃ t cs, Blk w' b t cs ∧ NoU8 cs := fun b hb => absurd hb (by simp)
  have hbl : ∀ b ∈ ([] : List Nat), W.heap.size ≤ b := fun b hb => absurd hb (by simp)
  refine wp_region_picks [] [0, 1, 3, 4] 4 (by kernel_rfl) (by kernel_rfl) rfl (by kernel_rfl) ?_
  simp only [pickL, List.drop_succ_cons, List.drop_zero, List.take_succ_cons, List.take_zero, List.cons_append, List.nil_append]
  refine ⟨?_, ?_, ?_⟩
  rotate_left 1
  refine ⟨_, calx33 v2 hm.len nx_v2 (by rfl) rfl, ?_⟩
  simp only [Act.put, List.setIfInBounds_toArray, List.set_cons_succ, List.set_cons_zero]
  refine ⟨_, calxI v3 nx_v3 (by rfl) rfl, ?_⟩
  simp only [Act.put, List.setIfInBounds_toArray, List.set_cons_succ, List.set_cons_zero]
  refine ⟨_, calx33 v2 hm.len nx_v2 (by rfl) rfl, ?_⟩
  simp only [Act.put, List.setIfInBounds_toArray, List.set_cons_succ, List.set_cons_zero]
  refine ⟨_, calxI v3 nx_v3 (by rfl) rfl, ?_⟩
  simp only [Act.put, List.setIfInBounds_toArray, List.set_cons_succ, List.set_cons_zero]
  exact rfl
  have e0 : Dx [] w' w'.drew := Dn.dx (Dn.drawn _)
  refine wpX_one 2 (by kernel_rfl) ?_
  refine x1_call rfl (by rfl) (fun u => by go_simp) e0 fun x0 dx ex => (C1.out x0 (hm.dn (HD.out.of_dx ex hbl)) (T.dn (HD.out.of_dx ex hbl))).mono ?_
  rintro e y0 ⟨m1, rfl, o1', u1, d'⟩
  refine ⟨d', _, rfl, ?_⟩
  replace e0 := ex.trans (Dn.dx d')
  have lm1 := o1'.out.len
  have o1 := Lib.hid o1'.out
  clear dx ex d'
  simp only [Act.put, List.setIfInBounds_toArray, List.set_cons_succ, List.set_cons_zero]
  refine wpX_one 5 (by kernel_rfl) ?_
  refine x1_call rfl (by rfl) (fun u => by go_simp) e0 fun x0 dx ex => (C2.out x0 (hm.dn (HD.out.of_dx ex hbl))).mono ?_
  rintro e y0 ⟨m2, rfl, o2', u2, d'⟩
  refine ⟨d', _, rfl, ?_⟩
  replace e0 := ex.trans (Dn.dx d')
  replace o1 := Lib.hid ((o1.out.dn dx).dn d')
  have lm2 := o2'.out.len
  have o2 := Lib.hid o2'.out
  clear dx ex d'
  simp only [Act.put, List.setIfInBounds_toArray, List.set_cons_succ, List.set_cons_zero]
  refine wpX_one 6 (by kernel_rfl) ?_
  refine x1_call rfl (by rfl) (fun u => by go_simp) e0 fun x0 dx ex => (C4.out x0 m1 m2 _ _ (o1.out.dn dx) (o2.out.dn dx) u1.out u2.out).mono ?_
  rintro e y0 ⟨rfl, d'⟩
  refine ⟨d', _, rfl, ?_⟩
  replace e0 := ex.trans (Dn.dx d')
  replace o1 := Lib.hid ((o1.out.dn dx).dn d')
  replace o2 := Lib.hid ((o2.out.dn dx).dn d')
  clear dx ex d'
  simp only [Act.put, List.setIfInBounds_toArray, List.set_cons_succ, List.set_cons_zero]
  refine wpX_pick2 (by kernel_rfl) e0 [7] 0 rfl (by kernel_rfl) ?_
  simp only [pickL, List.drop_succ_cons, List.drop_zero, List.take_succ_cons, List.take_zero, List.cons_append, List.nil_append]
  refine ⟨?_, ?_, ?_⟩
  rotate_left 1
  refine ⟨_, calx_pure (by rfl) (fun u => by go_simp; rfl), ?_⟩
  simp only [Act.put, List.setIfInBounds_toArray, List.set_cons_succ, List.set_cons_zero]
  exact rfl
  refine wpX_end (by kernel_rfl) fun w' dx => NoPanic.normal ?_
  have D := e0.trans (Dn.dx dx)
  replace o1 := Lib.hid (o1.out.dn dx)
  replace o2 := Lib.hid (o2.out.dn dx)
  clear e0 dx
  replace v2 := v2.dx D nx_v2
  replace v3 := v3.dx D nx_v3
  replace HD := Lib.hid (HD.out.of_dx D hbl)
  clear D hbs hbl nx_v2 nx_v3
  go_wp2_with fail
  go_ret
  exact ⟨rfl, HD.out⟩
set_option maxRecDepth 100000 in
set_option maxHeartbeats 2000000 in
theorem pm_few0 (m : Mc) (op rd ra rb imm : Int) (W : World) (hm : m.Ok W) (T : Cs.CsrTabs W) (i0 : -2147483648 ≤ imm) (i1 : imm < 2147483648) (hx : m.xs.length ≤ 9223372036854775807) (hy : m.ys.length ≤ 9223372036854775807) (hf : decide (m.xs.length ≤ 600 ∧ m.ys.length ≤ 600) = false) (hr : M.reads op imm = false) :
    Calls Tryd.prog 4 #[.agg (mach m), .agg (ins op rd ra rb imm)] W fun e W' => e = .returned (.bool true) ∧ Dn W W' := by
  have C0 := Lib.hid fun w => fun (t : Cs.CsrTabs w) => awakeP w t
  have CF := Lib.hid fun w => fun (ow : m.Ok w) => rfew m false w ow hx hy hf
  have R1 := Lib.hid (pvReads op rd ra rb imm false i0 i1 hr)
  have R2 := Lib.hid (rReads op rd ra rb imm false i0 i1 hr)
  clear hr
  clear hf
  have HD := Lib.hid (Dn.refl W)
  go_enter Tryd.func4, Tryd.ntmps4
  go_wp2_with (first | ((with_reducible refine wpList_box (vs := (mach m)) ?_ ?_ ?_); rfl; rfl; intro b_v2 w' nn; refine Hid.out ?_))
  refine Lib.hid ?_
  have HL_v2 : Hid (W.heap.size ≤ b_v2) := Lib.hid (Blk.hi nn HD.out.size)
  have d' := nn.dn
  replace HD := Lib.hid (HD.out.trans d')
  have v2 := nn.blk
  clear d' nn
  go_wp2_with (first | ((with_reducible refine wpList_box (vs := (ins op rd ra rb imm)) ?_ ?_ ?_); rfl; rfl; intro b_v3 w' nn; refine Hid.out ?_))
  refine Lib.hid ?_
  have n_v2_v3 := Lib.hid (nn.ne _ v2.lt)
  have HL_v3 : Hid (W.heap.size ≤ b_v3) := Lib.hid (Blk.hi nn HD.out.size)
  have d' := nn.dn
  replace v2 := v2.dn d'
  replace HD := Lib.hid (HD.out.trans d')
  have v3 := nn.blk
  clear d' nn
  go_wp2_with fail
  have nx_v2 : b_v2 ∉ [] := (by simp)
  have nx_v3 : b_v3 ∉ [] := (by simp)
  have hbs : ∀ b ∈ ([] : List Nat), ∃ t cs, Blk w' b t cs ∧ NoU8 cs := fun b hb => absurd hb (by simp)
  have hbl : ∀ b ∈ ([] : List Nat), W.heap.size ≤ b := fun b hb => absurd hb (by simp)
  refine wp_region_picks [] [0, 1, 2, 3, 4, 5, 6, 7, 8, 9, 10, 11, 12, 13, 14, 15, 16, 17, 18] 0 (by kernel_rfl) (by kernel_rfl) rfl (by kernel_rfl) ?_
  simp only [pickL, List.drop_succ_cons, List.drop_zero, List.take_succ_cons, List.take_zero, List.cons_append, List.nil_append]
  refine ⟨?_, ?_, ?_⟩
  rotate_left 1
  refine ⟨_, calx_call (fun u du => C0.out u (T.dn (HD.out.of_dx du hbl))) (by rfl) (fun u => by go_simp), ?_⟩
  simp only [Act.put, List.setIfInBounds_toArray, List.set_cons_succ, List.set_cons_zero]
  refine ⟨_, calx_pure (by rfl) (fun u => by go_simp; rfl), ?_⟩
  simp only [Act.put, List.setIfInBounds_toArray, List.set_cons_succ, List.set_cons_zero]
  refine ⟨_, calx_pure (by rfl) (fun u => by go_simp; rfl), ?_⟩
  simp only [Act.put, List.setIfInBounds_toArray, List.set_cons_succ, List.set_cons_zero]
  refine ⟨_, calxI v3 nx_v3 (by rfl) rfl, ?_⟩
  simp only [Act.put, List.setIfInBounds_toArray, List.set_cons_succ, List.set_cons_zero]
  refine ⟨_, calx_call (fun u du => R1.out u) (by rfl) (fun u => by go_simp), ?_⟩
  simp only [Act.put, List.setIfInBounds_toArray, List.set_cons_succ, List.set_cons_zero]
  refine ⟨_, calxI v3 nx_v3 (by rfl) rfl, ?_⟩
  simp only [Act.put, List.setIfInBounds_toArray, List.set_cons_succ, List.set_cons_zero]
  refine ⟨_, calx_call (fun u du => R2.out u) (by rfl) (fun u => by go_simp), ?_⟩
  simp only [Act.put, List.setIfInBounds_toArray, List.set_cons_succ, List.set_cons_zero]
  refine ⟨_, calx_pure (by rfl) (fun u => by go_simp; rfl), ?_⟩
  simp only [Act.put, List.setIfInBounds_toArray, List.set_cons_succ, List.set_cons_zero]
  refine ⟨_, calx_pure (by rfl) (fun u => by go_simp; rfl), ?_⟩
  simp only [Act.put, List.setIfInBounds_toArray, List.set_cons_succ, List.set_cons_zero]
  refine ⟨_, calx_pure (by rfl) (fun u => by go_simp; rfl), ?_⟩
  simp only [Act.put, List.setIfInBounds_toArray, List.set_cons_succ, List.set_cons_zero]
  refine ⟨_, calx33 v2 hm.len nx_v2 (by rfl) rfl, ?_⟩
  simp only [Act.put, List.setIfInBounds_toArray, List.set_cons_succ, List.set_cons_zero]
  refine ⟨_, calx_call (fun u du => CF.out u (hm.dn (HD.out.of_dx du hbl))) (by rfl) (fun u => by go_simp), ?_⟩
  simp only [Act.put, List.setIfInBounds_toArray, List.set_cons_succ, List.set_cons_zero]
  refine ⟨_, calx_pure (by rfl) (fun u => by go_simp; rfl), ?_⟩
  simp only [Act.put, List.setIfInBounds_toArray, List.set_cons_succ, List.set_cons_zero]
  refine ⟨_, calx_pure (by rfl) (fun u => by go_simp; rfl), ?_⟩
  simp only [Act.put, List.setIfInBounds_toArray, List.set_cons_succ, List.set_cons_zero]
  refine ⟨_, calx_pure (by rfl) (fun u => by go_simp; rfl), ?_⟩
  simp only [Act.put, List.setIfInBounds_toArray, List.set_cons_succ, List.set_cons_zero]
  refine ⟨_, .inr ⟨by rfl, rfl⟩, ?_⟩
  simp only [Act.put, List.setIfInBounds_toArray, List.set_cons_succ, List.set_cons_zero]
  refine ⟨_, .inr ⟨by rfl, rfl⟩, ?_⟩
  simp only [Act.put, List.setIfInBounds_toArray, List.set_cons_succ, List.set_cons_zero]
  refine ⟨_, .inr ⟨by rfl, rfl⟩, ?_⟩
  simp only [Act.put, List.setIfInBounds_toArray, List.set_cons_succ, List.set_cons_zero]
  refine ⟨_, calx_pure (by rfl) (fun u => by go_simp; rfl), ?_⟩
  simp only [Act.put, List.setIfInBounds_toArray, List.set_cons_succ, List.set_cons_zero]
  exact rfl
  have e0 : Dx [] w' w'.drew := Dn.dx (Dn.drawn _)
  refine wpX_end (by kernel_rfl) fun w' dx => NoPanic.normal ?_
  have D := e0.trans (Dn.dx dx)
  clear e0 dx
  replace v2 := v2.dx D nx_v2
  replace v3 := v3.dx D nx_v3
  replace HD := Lib.hid (HD.out.of_dx D hbl)
  clear D hbs hbl nx_v2 nx_v3
  go_wp2_with fail
  have nx_v2 : b_v2 ∉ [] := (by simp)
  have nx_v3 : b_v3 ∉ [] := (by simp)
  have hbs : ∀ b ∈ ([] : List Nat), ∃ t cs, Blk w' b t cs ∧ NoU8 cs := fun b hb => absurd hb (by simp)
  have hbl : ∀ b ∈ ([] : List Nat), W.heap.size ≤ b := fun b hb => absurd hb (by simp)
  refine wp_region_picks [] [0, 1, 2, 3, 4, 5, 6, 7, 8] 0 (by kernel_rfl) (by kernel_rfl) rfl (by kernel_rfl) ?_
  simp only [pickL, List.drop_succ_cons, List.drop_zero, List.take_succ_cons, List.take_zero, List.cons_append, List.nil_append]
  refine ⟨?_, ?_, ?_⟩
  rotate_left 1
  refine ⟨_, calx_call (fun u du => C0.out u (T.dn (HD.out.of_dx du hbl))) (by rfl) (fun u => by go_simp), ?_⟩
  simp only [Act.put, List.setIfInBounds_toArray, List.set_cons_succ, List.set_cons_zero]
  refine ⟨_, calx_pure (by rfl) (fun u => by go_simp; rfl), ?_⟩
  simp only [Act.put, List.setIfInBounds_toArray, List.set_cons_succ, List.set_cons_zero]
  refine ⟨_, calxI v3 nx_v3 (by rfl) rfl, ?_⟩
  simp only [Act.put, List.setIfInBounds_toArray, List.set_cons_succ, List.set_cons_zero]
  refine ⟨_, calx_call (fun u du => R1.out u) (by rfl) (fun u => by go_simp), ?_⟩
  simp only [Act.put, List.setIfInBounds_toArray, List.set_cons_succ, List.set_cons_zero]
  refine ⟨_, calxI v3 nx_v3 (by rfl) rfl, ?_⟩
  simp only [Act.put, List.setIfInBounds_toArray, List.set_cons_succ, List.set_cons_zero]
  refine ⟨_, calx_call (fun u du => R2.out u) (by rfl) (fun u => by go_simp), ?_⟩
  simp only [Act.put, List.setIfInBounds_toArray, List.set_cons_succ, List.set_cons_zero]
  refine ⟨_, calx_pure (by rfl) (fun u => by go_simp; rfl), ?_⟩
  simp only [Act.put, List.setIfInBounds_toArray, List.set_cons_succ, List.set_cons_zero]
  refine ⟨_, calx_pure (by rfl) (fun u => by go_simp; rfl), ?_⟩
  simp only [Act.put, List.setIfInBounds_toArray, List.set_cons_succ, List.set_cons_zero]
  refine ⟨_, calx_pure (by rfl) (fun u => by go_simp; rfl), ?_⟩
  simp only [Act.put, List.setIfInBounds_toArray, List.set_cons_succ, List.set_cons_zero]
  exact rfl
  have e0 : Dx [] w' w'.drew := Dn.dx (Dn.drawn _)
  refine wpX_end (by kernel_rfl) fun w' dx => NoPanic.normal ?_
  have D := e0.trans (Dn.dx dx)
  clear e0 dx
  replace v2 := v2.dx D nx_v2
  replace v3 := v3.dx D nx_v3
  replace HD := Lib.hid (HD.out.of_dx D hbl)
  clear D hbs hbl nx_v2 nx_v3
  go_wp2_with fail
  go_ret
  exact ⟨rfl, HD.out⟩
set_option maxRecDepth 100000 in
set_option maxHeartbeats 2000000 in
theorem pm_no0 (m : Mc) (op rd ra rb imm : Int) (W : World) (hm : m.Ok W) (T : Cs.CsrTabs W) (i0 : -2147483648 ≤ imm) (i1 : imm < 2147483648) (hx : m.xs.length ≤ 9223372036854775807) (hy : m.ys.length ≤ 9223372036854775807) (hf : decide (m.xs.length ≤ 600 ∧ m.ys.length ≤ 600) = true) (hr : M.reads op imm = false) (hpl : (Is.M.ok op rd ra rb imm && Is.M.priv op) = false) :
    Calls Tryd.prog 4 #[.agg (mach m), .agg (ins op rd ra rb imm)] W fun e W' => e = .returned (.bool true) ∧ Dn W W' := by
  have C0 := Lib.hid fun w => fun (t : Cs.CsrTabs w) => awakeP w t
  have CF := Lib.hid fun w => fun (ow : m.Ok w) => rfew m true w ow hx hy hf
  have CP := Lib.hid (rRight op rd ra rb imm false i0 i1 hpl)
  have R1 := Lib.hid (pvReads op rd ra rb imm false i0 i1 hr)
  have R2 := Lib.hid (rReads op rd ra rb imm false i0 i1 hr)
  clear hr
  clear hf hpl
  have HD := Lib.hid (Dn.refl W)
  go_enter Tryd.func4, Tryd.ntmps4
  go_wp2_with (first | ((with_reducible refine wpList_box (vs := (mach m)) ?_ ?_ ?_); rfl; rfl; intro b_v2 w' nn; refine Hid.out ?_))
  refine Lib.hid ?_
  have HL_v2 : Hid (W.heap.size ≤ b_v2) := Lib.hid (Blk.hi nn HD.out.size)
  have d' := nn.dn
  replace HD := Lib.hid (HD.out.trans d')
  have v2 := nn.blk
  clear d' nn
  go_wp2_with (first | ((with_reducible refine wpList_box (vs := (ins op rd ra rb imm)) ?_ ?_ ?_); rfl; rfl; intro b_v3 w' nn; refine Hid.out ?_))
  refine Lib.hid ?_
  have n_v2_v3 := Lib.hid (nn.ne _ v2.lt)
  have HL_v3 : Hid (W.heap.size ≤ b_v3) := Lib.hid (Blk.hi nn HD.out.size)
  have d' := nn.dn
  replace v2 := v2.dn d'
  replace HD := Lib.hid (HD.out.trans d')
  have v3 := nn.blk
  clear d' nn
  go_wp2_with fail
  have nx_v2 : b_v2 ∉ [] := (by simp)
  have nx_v3 : b_v3 ∉ [] := (by simp)
  have hbs : ∀ b ∈ ([] : List Nat), ∃ t cs, Blk w' b t cs ∧ NoU8 cs := fun b hb => absurd hb (by simp)
  have hbl : ∀ b ∈ ([] : List Nat), W.heap.size ≤ b := fun b hb => absurd hb (by simp)
  refine wp_region_picks [] [0, 1, 2, 3, 4, 5, 6, 7, 8, 9, 10, 11, 12, 13, 14, 15, 16, 17, 18] 0 (by kernel_rfl) (by kernel_rfl) rfl (by kernel_rfl) ?_
  simp only [pickL, List.drop_succ_cons, List.drop_zero, List.take_succ_cons, List.take_zero, List.cons_append, List.nil_append]
  refine ⟨?_, ?_, ?_⟩
  rotate_left 1
  refine ⟨_, calx_call (fun u du => C0.out u (T.dn (HD.out.of_dx du hbl))) (by rfl) (fun u => by go_simp), ?_⟩
  simp only [Act.put, List.setIfInBounds_toArray, List.set_cons_succ, List.set_cons_zero]
  refine ⟨_, calx_pure (by rfl) (fun u => by go_simp; rfl), ?_⟩
  simp only [Act.put, List.setIfInBounds_toArray, List.set_cons_succ, List.set_cons_zero]
  refine ⟨_, calx_pure (by rfl) (fun u => by go_simp; rfl), ?_⟩
  simp only [Act.put, List.setIfInBounds_toArray, List.set_cons_succ, List.set_cons_zero]
  refine ⟨_, calxI v3 nx_v3 (by rfl) rfl, ?_⟩
  simp only [Act.put, List.setIfInBounds_toArray, List.set_cons_succ, List.set_cons_zero]
  refine ⟨_, calx_call (fun u du => R1.out u) (by rfl) (fun u => by go_simp), ?_⟩
  simp only [Act.put, List.setIfInBounds_toArray, List.set_cons_succ, List.set_cons_zero]
  refine ⟨_, calxI v3 nx_v3 (by rfl) rfl, ?_⟩
  simp only [Act.put, List.setIfInBounds_toArray, List.set_cons_succ, List.set_cons_zero]
  refine ⟨_, calx_call (fun u du => R2.out u) (by rfl) (fun u => by go_simp), ?_⟩
  simp only [Act.put, List.setIfInBounds_toArray, List.set_cons_succ, List.set_cons_zero]
  refine ⟨_, calx_pure (by rfl) (fun u => by go_simp; rfl), ?_⟩
  simp only [Act.put, List.setIfInBounds_toArray, List.set_cons_succ, List.set_cons_zero]
  refine ⟨_, calx_pure (by rfl) (fun u => by go_simp; rfl), ?_⟩
  simp only [Act.put, List.setIfInBounds_toArray, List.set_cons_succ, List.set_cons_zero]
  refine ⟨_, calx_pure (by rfl) (fun u => by go_simp; rfl), ?_⟩
  simp only [Act.put, List.setIfInBounds_toArray, List.set_cons_succ, List.set_cons_zero]
  refine ⟨_, calx33 v2 hm.len nx_v2 (by rfl) rfl, ?_⟩
  simp only [Act.put, List.setIfInBounds_toArray, List.set_cons_succ, List.set_cons_zero]
  refine ⟨_, calx_call (fun u du => CF.out u (hm.dn (HD.out.of_dx du hbl))) (by rfl) (fun u => by go_simp), ?_⟩
  simp only [Act.put, List.setIfInBounds_toArray, List.set_cons_succ, List.set_cons_zero]
  refine ⟨_, calx_pure (by rfl) (fun u => by go_simp; rfl), ?_⟩
  simp only [Act.put, List.setIfInBounds_toArray, List.set_cons_succ, List.set_cons_zero]
  refine ⟨_, calx_pure (by rfl) (fun u => by go_simp; rfl), ?_⟩
  simp only [Act.put, List.setIfInBounds_toArray, List.set_cons_succ, List.set_cons_zero]
  refine ⟨_, calx_pure (by rfl) (fun u => by go_simp; rfl), ?_⟩
  simp only [Act.put, List.setIfInBounds_toArray, List.set_cons_succ, List.set_cons_zero]
  refine ⟨_, calxI v3 nx_v3 (by rfl) rfl, ?_⟩
  simp only [Act.put, List.setIfInBounds_toArray, List.set_cons_succ, List.set_cons_zero]
  refine ⟨_, calx_call (fun u du => CP.out u) (by rfl) (fun u => by go_simp), ?_⟩
  simp only [Act.put, List.setIfInBounds_toArray, List.set_cons_succ, List.set_cons_zero]
  refine ⟨_, calx_pure (by rfl) (fun u => by go_simp; rfl), ?_⟩
  simp only [Act.put, List.setIfInBounds_toArray, List.set_cons_succ, List.set_cons_zero]
  refine ⟨_, calx_pure (by rfl) (fun u => by go_simp; rfl), ?_⟩
  simp only [Act.put, List.setIfInBounds_toArray, List.set_cons_succ, List.set_cons_zero]
  exact rfl
  have e0 : Dx [] w' w'.drew := Dn.dx (Dn.drawn _)
  refine wpX_end (by kernel_rfl) fun w' dx => NoPanic.normal ?_
  have D := e0.trans (Dn.dx dx)
  clear e0 dx
  replace v2 := v2.dx D nx_v2
  replace v3 := v3.dx D nx_v3
  replace HD := Lib.hid (HD.out.of_dx D hbl)
  clear D hbs hbl nx_v2 nx_v3
  go_wp2_with fail
  have nx_v2 : b_v2 ∉ [] := (by simp)
  have nx_v3 : b_v3 ∉ [] := (by simp)
  have hbs : ∀ b ∈ ([] : List Nat), ∃ t cs, Blk w' b t cs ∧ NoU8 cs := fun b hb => absurd hb (by simp)
  have hbl : ∀ b ∈ ([] : List Nat), W.heap.size ≤ b := fun b hb => absurd hb (by simp)
  refine wp_region_picks [] [0, 1, 2, 3, 4, 5, 6, 7, 8] 0 (by kernel_rfl) (by kernel_rfl) rfl (by kernel_rfl) ?_
  simp only [pickL, List.drop_succ_cons, List.drop_zero, List.take_succ_cons, List.take_zero, List.cons_append, List.nil_append]
  refine ⟨?_, ?_, ?_⟩
  rotate_left 1
  refine ⟨_, calx_call (fun u du => C0.out u (T.dn (HD.out.of_dx du hbl))) (by rfl) (fun u => by go_simp), ?_⟩
  simp only [Act.put, List.setIfInBounds_toArray, List.set_cons_succ, List.set_cons_zero]
  refine ⟨_, calx_pure (by rfl) (fun u => by go_simp; rfl), ?_⟩
  simp only [Act.put, List.setIfInBounds_toArray, List.set_cons_succ, List.set_cons_zero]
  refine ⟨_, calxI v3 nx_v3 (by rfl) rfl, ?_⟩
  simp only [Act.put, List.setIfInBounds_toArray, List.set_cons_succ, List.set_cons_zero]
  refine ⟨_, calx_call (fun u du => R1.out u) (by rfl) (fun u => by go_simp), ?_⟩
  simp only [Act.put, List.setIfInBounds_toArray, List.set_cons_succ, List.set_cons_zero]
  refine ⟨_, calxI v3 nx_v3 (by rfl) rfl, ?_⟩
  simp only [Act.put, List.setIfInBounds_toArray, List.set_cons_succ, List.set_cons_zero]
  refine ⟨_, calx_call (fun u du => R2.out u) (by rfl) (fun u => by go_simp), ?_⟩
  simp only [Act.put, List.setIfInBounds_toArray, List.set_cons_succ, List.set_cons_zero]
  refine ⟨_, calx_pure (by rfl) (fun u => by go_simp; rfl), ?_⟩
  simp only [Act.put, List.setIfInBounds_toArray, List.set_cons_succ, List.set_cons_zero]
  refine ⟨_, calx_pure (by rfl) (fun u => by go_simp; rfl), ?_⟩
  simp only [Act.put, List.setIfInBounds_toArray, List.set_cons_succ, List.set_cons_zero]
  refine ⟨_, calx_pure (by rfl) (fun u => by go_simp; rfl), ?_⟩
  simp only [Act.put, List.setIfInBounds_toArray, List.set_cons_succ, List.set_cons_zero]
  exact rfl
  have e0 : Dx [] w' w'.drew := Dn.dx (Dn.drawn _)
  refine wpX_end (by kernel_rfl) fun w' dx => NoPanic.normal ?_
  have D := e0.trans (Dn.dx dx)
  clear e0 dx
  replace v2 := v2.dx D nx_v2
  replace v3 := v3.dx D nx_v3
  replace HD := Lib.hid (HD.out.of_dx D hbl)
  clear D hbs hbl nx_v2 nx_v3
  go_wp2_with fail
  go_ret
  exact ⟨rfl, HD.out⟩
set_option maxRecDepth 100000 in
set_option maxHeartbeats 2000000 in
theorem pm_main0 (m : Mc) (op rd ra rb imm : Int) (W : World) (hm : m.Ok W) (T : Cs.CsrTabs W) (i0 : -2147483648 ≤ imm) (i1 : imm < 2147483648) (hx : m.xs.length ≤ 9223372036854775807) (hy : m.ys.length ≤ 9223372036854775807) (hf : decide (m.xs.length ≤ 600 ∧ m.ys.length ≤ 600) = true) (hr : M.reads op imm = false) (hpl : (Is.M.ok op rd ra rb imm && Is.M.priv op) = true) :
    Calls Tryd.prog 4 #[.agg (mach m), .agg (ins op rd ra rb imm)] W fun e W' => e = .returned (.bool true) ∧ Dn W W' := by
  have hl := hm.len
  have hc := hm.core
  have hs : m.xs.length ≤ 600 := by simp only [decide_eq_true_eq] at hf; omega
  have hn : m.ys.length ≤ 600 := by simp only [decide_eq_true_eq] at hf; omega
  have hvp : Is.M.ok op rd ra rb imm = true ∧ Is.M.priv op = true := by simpa using hpl
  have C0 := Lib.hid fun w => fun (t : Cs.CsrTabs w) => awakeP w t
  have CF := Lib.hid fun w => fun (ow : m.Ok w) => rfew m true w ow hx hy hf
  have CP := Lib.hid (rRight op rd ra rb imm true i0 i1 hpl)
  have R1 := Lib.hid (pvReads op rd ra rb imm false i0 i1 hr)
  have R2 := Lib.hid (rReads op rd ra rb imm false i0 i1 hr)
  clear hr
  have hop := M.px_op hvp.1 hvp.2
  have hz := M.px_len m.c m.ys m.h m.t op rd ra imm
  have C1 := Lib.hid fun w => fun (ow : m.Ok w) (t : Cs.CsrTabs w) => xPv m op rd ra rb imm w ow t i0 i1 (by omega) hop
  have C2 := Lib.hid fun w => fun (ow : m.Ok w) => refDo12 m op rd ra rb imm w ow i0 i1 (by omega) hop
  generalize M.px m.c m.ys m.h m.t op rd ra imm = r at C1 C2 hz
  have C4 := Lib.hid fun (w : World) (m1 m2 : Mc) (n1 n2 : Nat) (o1 : m1.Ok w) (o2 : m2.Ok w) (f1 : Pd m r n1 m1) (f2 : Pd m r n2 m2) => rsame_p w o1 o2 f1 f2 (by omega) (by omega)
  clear hf hpl hvp hop hz
  have HD := Lib.hid (Dn.refl W)
  go_enter Tryd.func4, Tryd.ntmps4
  go_wp2_with (first | ((with_reducible refine wpList_box (vs := (mach m)) ?_ ?_ ?_); rfl; rfl; intro b_v2 w' nn; refine Hid.out ?_))
  refine Lib.hid ?_
  have HL_v2 : Hid (W.heap.size ≤ b_v2) := Lib.hid (Blk.hi nn HD.out.size)
  have d' := nn.dn
  replace HD := Lib.hid (HD.out.trans d')
  have v2 := nn.blk
  clear d' nn
  go_wp2_with (first | ((with_reducible refine wpList_box (vs := (ins op rd ra rb imm)) ?_ ?_ ?_); rfl; rfl; intro b_v3 w' nn; refine Hid.out ?_))
  refine Lib.hid ?_
  have n_v2_v3 := Lib.hid (nn.ne _ v2.lt)
  have HL_v3 : Hid (W.heap.size ≤ b_v3) := Lib.hid (Blk.hi nn HD.out.size)
  have d' := nn.dn
  replace v2 := v2.dn d'
  replace HD := Lib.hid (HD.out.trans d')
  have v3 := nn.blk
  clear d' nn
  go_wp2_with fail
  have nx_v2 : b_v2 ∉ [] := (by simp)
  have nx_v3 : b_v3 ∉ [] := (by simp)
  have hbs : ∀ b ∈ ([] : List Nat), ∃ t cs, Blk w' b t cs ∧ NoU8 cs := fun b hb => absurd hb (by simp)
  have hbl : ∀ b ∈ ([] : List Nat), W.heap.size ≤ b := fun b hb => absurd hb (by simp)
  refine wp_region_picks [] [0, 1, 2, 3, 4, 5, 6, 7, 8, 9, 10, 11, 12, 13, 14, 15, 16, 17, 18] 0 (by kernel_rfl) (by kernel_rfl) rfl (by kernel_rfl) ?_
  simp only [pickL, List.drop_succ_cons, List.drop_zero, List.take_succ_cons, List.take_zero, List.cons_append, List.nil_append]
  refine ⟨?_, ?_, ?_⟩
  rotate_left 1
  refine ⟨_, calx_call (fun u du => C0.out u (T.dn (HD.out.of_dx du hbl))) (by rfl) (fun u => by go_simp), ?_⟩
  simp only [Act.put, List.setIfInBounds_toArray, List.set_cons_succ, List.set_cons_zero]
  refine ⟨_, calx_pure (by rfl) (fun u => by go_simp; rfl), ?_⟩
  simp only [Act.put, List.setIfInBounds_toArray, List.set_cons_succ, List.set_cons_zero]
  refine ⟨_, calx_pure (by rfl) (fun u => by go_simp; rfl), ?_⟩
  simp only [Act.put, List.setIfInBounds_toArray, List.set_cons_succ, List.set_cons_zero]
  refine ⟨_, calxI v3 nx_v3 (by rfl) rfl, ?_⟩
  simp only [Act.put, List.setIfInBounds_toArray, List.set_cons_succ, List.set_cons_zero]
  refine ⟨_, calx_call (fun u du => R1.out u) (by rfl) (fun u => by go_simp), ?_⟩
  simp only [Act.put, List.setIfInBounds_toArray, List.set_cons_succ, List.set_cons_zero]
  refine ⟨_, calxI v3 nx_v3 (by rfl) rfl, ?_⟩
  simp only [Act.put, List.setIfInBounds_toArray, List.set_cons_succ, List.set_cons_zero]
  refine ⟨_, calx_call (fun u du => R2.out u) (by rfl) (fun u => by go_simp), ?_⟩
  simp only [Act.put, List.setIfInBounds_toArray, List.set_cons_succ, List.set_cons_zero]
  refine ⟨_, calx_pure (by rfl) (fun u => by go_simp; rfl), ?_⟩
  simp only [Act.put, List.setIfInBounds_toArray, List.set_cons_succ, List.set_cons_zero]
  refine ⟨_, calx_pure (by rfl) (fun u => by go_simp; rfl), ?_⟩
  simp only [Act.put, List.setIfInBounds_toArray, List.set_cons_succ, List.set_cons_zero]
  refine ⟨_, calx_pure (by rfl) (fun u => by go_simp; rfl), ?_⟩
  simp only [Act.put, List.setIfInBounds_toArray, List.set_cons_succ, List.set_cons_zero]
  refine ⟨_, calx33 v2 hm.len nx_v2 (by rfl) rfl, ?_⟩
  simp only [Act.put, List.setIfInBounds_toArray, List.set_cons_succ, List.set_cons_zero]
  refine ⟨_, calx_call (fun u du => CF.out u (hm.dn (HD.out.of_dx du hbl))) (by rfl) (fun u => by go_simp), ?_⟩
  simp only [Act.put, List.setIfInBounds_toArray, List.set_cons_succ, List.set_cons_zero]
  refine ⟨_, calx_pure (by rfl) (fun u => by go_simp; rfl), ?_⟩
  simp only [Act.put, List.setIfInBounds_toArray, List.set_cons_succ, List.set_cons_zero]
  refine ⟨_, calx_pure (by rfl) (fun u => by go_simp; rfl), ?_⟩
  simp only [Act.put, List.setIfInBounds_toArray, List.set_cons_succ, List.set_cons_zero]
  refine ⟨_, calx_pure (by rfl) (fun u => by go_simp; rfl), ?_⟩
  simp only [Act.put, List.setIfInBounds_toArray, List.set_cons_succ, List.set_cons_zero]
  refine ⟨_, calxI v3 nx_v3 (by rfl) rfl, ?_⟩
  simp only [Act.put, List.setIfInBounds_toArray, List.set_cons_succ, List.set_cons_zero]
  refine ⟨_, calx_call (fun u du => CP.out u) (by rfl) (fun u => by go_simp), ?_⟩
  simp only [Act.put, List.setIfInBounds_toArray, List.set_cons_succ, List.set_cons_zero]
  refine ⟨_, calx_pure (by rfl) (fun u => by go_simp; rfl), ?_⟩
  simp only [Act.put, List.setIfInBounds_toArray, List.set_cons_succ, List.set_cons_zero]
  refine ⟨_, calx_pure (by rfl) (fun u => by go_simp; rfl), ?_⟩
  simp only [Act.put, List.setIfInBounds_toArray, List.set_cons_succ, List.set_cons_zero]
  exact rfl
  have e0 : Dx [] w' w'.drew := Dn.dx (Dn.drawn _)
  refine wpX_end (by kernel_rfl) fun w' dx => NoPanic.normal ?_
  have D := e0.trans (Dn.dx dx)
  clear e0 dx
  replace v2 := v2.dx D nx_v2
  replace v3 := v3.dx D nx_v3
  replace HD := Lib.hid (HD.out.of_dx D hbl)
  clear D hbs hbl nx_v2 nx_v3
  go_wp2_with fail
  have nx_v2 : b_v2 ∉ [] := (by simp)
  have nx_v3 : b_v3 ∉ [] := (by simp)
  have hbs : ∀ b ∈ ([] : List Nat), ∃ t cs, Blk w' b t cs ∧ NoU8 cs := fun b hb => absurd hb (by simp)
  have hbl : ∀ b ∈ ([] : List Nat), W.heap.size ≤ b := fun b hb => absurd hb (by simp)
  refine wp_region_picks [] [0, 1, 3, 4] 4 (by kernel_rfl) (by kernel_rfl) rfl (by kernel_rfl) ?_
  simp only [pickL, List.drop_succ_cons, List.drop_zero, List.take_succ_cons, List.take_zero, List.cons_append, List.nil_append]
  refine ⟨?_, ?_, ?_⟩
  rotate_left 1
  refine ⟨_, calx33 v2 hm.len nx_v2 (by rfl) rfl, ?_⟩
  simp only [Act.put, List.setIfInBounds_toArray, List.set_cons_succ, List.set_cons_zero]
  refine ⟨_, calxI v3 nx_v3 (by rfl) rfl, ?_⟩
  simp only [Act.put, List.setIfInBounds_toArray, List.set_cons_succ, List.set_cons_zero]
  refine ⟨_, calx33 v2 hm.len nx_v2 (by rfl) rfl, ?_⟩
  simp only [Act.put, List.setIfInBounds_toArray, List.set_cons_succ, List.set_cons_zero]
  refine ⟨_, calxI v3 nx_v3 (by rfl) rfl, ?_⟩
  simp only [Act.put, List.setIfInBounds_toArray, List.set_cons_succ, List.set_cons_zero]
  exact rfl
  have e0 : Dx [] w' w'.drew := Dn.dx (Dn.drawn _)
  refine wpX_one 2 (by kernel_rfl) ?_
  refine x1_call rfl (by rfl) (fun u => by go_simp) e0 fun x0 dx ex => (C1.out x0 (hm.dn (HD.out.of_dx ex hbl)) (T.dn (HD.out.of_dx ex hbl))).mono ?_
  rintro e y0 ⟨m1, rfl, o1', u1, d'⟩
  refine ⟨d', _, rfl, ?_⟩
  replace e0 := ex.trans (Dn.dx d')
  have lm1 := o1'.out.len
  have o1 := Lib.hid o1'.out
  clear dx ex d'
  simp only [Act.put, List.setIfInBounds_toArray, List.set_cons_succ, List.set_cons_zero]
  refine wpX_one 5 (by kernel_rfl) ?_
  refine x1_call rfl (by rfl) (fun u => by go_simp) e0 fun x0 dx ex => (C2.out x0 (hm.dn (HD.out.of_dx ex hbl))).mono ?_
  rintro e y0 ⟨m2, rfl, o2', u2, d'⟩
  refine ⟨d', _, rfl, ?_⟩
  replace e0 := ex.trans (Dn.dx d')
  replace o1 := Lib.hid ((o1.out.dn dx).dn d')
  have lm2 := o2'.out.len
  have o2 := Lib.hid o2'.out
  clear dx ex d'
  simp only [Act.put, List.setIfInBounds_toArray, List.set_cons_succ, List.set_cons_zero]
  refine wpX_one 6 (by kernel_rfl) ?_
  refine x1_call rfl (by rfl) (fun u => by go_simp) e0 fun x0 dx ex => (C4.out x0 m1 m2 _ _ (o1.out.dn dx) (o2.out.dn dx) u1.out u2.out).mono ?_
  rintro e y0 ⟨rfl, d'⟩
  refine ⟨d', _, rfl, ?_⟩
  replace e0 := ex.trans (Dn.dx d')
  replace o1 := Lib.hid ((o1.out.dn dx).dn d')
  replace o2 := Lib.hid ((o2.out.dn dx).dn d')
  clear dx ex d'
  simp only [Act.put, List.setIfInBounds_toArray, List.set_cons_succ, List.set_cons_zero]
  refine wpX_pick2 (by kernel_rfl) e0 [7] 0 rfl (by kernel_rfl) ?_
  simp only [pickL, List.drop_succ_cons, List.drop_zero, List.take_succ_cons, List.take_zero, List.cons_append, List.nil_append]
  refine ⟨?_, ?_, ?_⟩
  rotate_left 1
  refine ⟨_, calx_pure (by rfl) (fun u => by go_simp; rfl), ?_⟩
  simp only [Act.put, List.setIfInBounds_toArray, List.set_cons_succ, List.set_cons_zero]
  exact rfl
  refine wpX_end (by kernel_rfl) fun w' dx => NoPanic.normal ?_
  have D := e0.trans (Dn.dx dx)
  replace o1 := Lib.hid (o1.out.dn dx)
  replace o2 := Lib.hid (o2.out.dn dx)
  clear e0 dx
  replace v2 := v2.dx D nx_v2
  replace v3 := v3.dx D nx_v3
  replace HD := Lib.hid (HD.out.of_dx D hbl)
  clear D hbs hbl nx_v2 nx_v3
  go_wp2_with fail
  go_ret
  exact ⟨rfl, HD.out⟩
theorem pmWalk (m : Mc) (op rd ra rb imm : Int) (W : World) (hm : m.Ok W) (T : Cs.CsrTabs W) (i0 : -2147483648 ≤ imm) (i1 : imm < 2147483648) (hx : m.xs.length ≤ 9223372036854775807) (hy : m.ys.length ≤ 9223372036854775807) : Calls Tryd.prog 4 #[.agg (mach m), .agg (ins op rd ra rb imm)] W fun e W' => e = .returned (.bool true) ∧ Dn W W' := by
  cases hf : decide (m.xs.length ≤ 600 ∧ m.ys.length ≤ 600)
  · cases hr : M.reads op imm
    · exact pm_few0 m op rd ra rb imm W hm T i0 i1 hx hy hf hr
    · exact pm_few1 m op rd ra rb imm W hm T i0 i1 hx hy hf hr
  · cases hpl : (Is.M.ok op rd ra rb imm && Is.M.priv op)
    · cases hr : M.reads op imm
      · exact pm_no0 m op rd ra rb imm W hm T i0 i1 hx hy hf hr hpl
      · exact pm_no1 m op rd ra rb imm W hm T i0 i1 hx hy hf hr hpl
    · cases hr : M.reads op imm
      · exact pm_main0 m op rd ra rb imm W hm T i0 i1 hx hy hf hr hpl
      · exact pm_main1 m op rd ra rb imm W hm T i0 i1 hx hy hf hr hpl
end Go.Proofs.YthkhahfhbhgfhaaDoor
namespace Go.Proofs.YthkhahfhbhgfhaaDoor.privilegedMatchesReference
open Go.ChangeShapes Go.WideShapes Go.ChangeAt Go.RowKit
set_option linter.unusedVariables false

theorem readable : ∀ t ∈ Tryd.f4.params.toList, Tryd.prog.readableRec t = true ∧ t < Tryd.prog.types.size := by
  rw [Tryd.params4]
  intro t ht
  have hall : ([30, 32].all fun t => Tryd.prog.readableRec t && decide (t < Tryd.prog.types.size)) = true := by kernel_rfl
  have h := List.all_eq_true.1 hall t ht
  simp only [Bool.and_eq_true, decide_eq_true_eq] at h
  exact h

theorem said (H : Type) (ds : List (DataW H)) (hl : ds.length = Tryd.f4.params.size) : (Rows.privilegedMatchesReferenceSpec.fn H ds).results = [.lit (.bool true)] ∧ (Rows.privilegedMatchesReferenceSpec.fn H ds).args = ds ∧ (Rows.privilegedMatchesReferenceSpec.fn H ds).vars = [] := by
  rw [Tryd.params4] at hl
  match ds, hl with
  | [d0, d1], _ => exact ⟨rfl, rfl, rfl⟩

set_option maxRecDepth 100000 in
theorem walk {H : Type} {enc : TypeId × Value → H} (W : World) (base : Nat) (args : Array Value) (ds : List (DataW H)) (ps : List MemPlace) (E : Env W)
    (hval : ∀ (j : Nat) t v, Tryd.f4.params[j]? = some t → args[j]? = some v → Value.okWide Tryd.prog W .any base t v)
    (hA : DataW.TrodAll enc Tryd.prog W 0 (fun _ => true) true Tryd.f4.params.toList args.toList ds ps) :
    Calls Tryd.prog 4 args W fun e W' => e = .returned (.bool true) ∧ Dn W W' := by
  rw [Tryd.params4] at hA hval
  obtain ⟨v0, vs0, d0, ds0, p0, q0, hargs, rfl, rfl, h0, r0⟩ := trodAll_cons hA
  obtain ⟨v1, vs1, d1, ds1, p1, q1, rfl, rfl, rfl, h1, r1⟩ := trodAll_cons r0
  obtain ⟨rfl, rfl, rfl⟩ := trodAll_nil r1
  obtain rfl : args = #[v0, v1] := by cases args; simp_all
  obtain ⟨m0, rfl, o0, l0, y0⟩ := open33 (hval 0 30 v0 rfl rfl) h0
  obtain ⟨op1, rd1, ra1, rb1, imm1, rfl, _, _, _, _, _, _, wi1⟩ := Cs.open_instr (hval 1 32 v1 rfl rfl) h1
  have bd1 := bounds_i32 wi1
  exact pmWalk m0 op1 rd1 ra1 rb1 imm1 W o0 E (by omega) (by omega) l0 y0 

set_option maxRecDepth 100000 in
theorem lifted (os : Os) (started : os.Started) (H : Type) (enc : TypeId × Value → H) :
    ReturnsInHanded {} Tryd.checked os 4 .any (fun w args => (Rows.privilegedMatchesReferenceSpec.pre enc Tryd.prog Tryd.f4 [] false w args ∧ laidMetH Tryd.prog laidL w) ∧ sizedMet enc Tryd.prog Tryd.f4 (OpenSpec.ofChange Rows.privilegedMatchesReferenceSpec) false w args)
      (Rows.privilegedMatchesReferenceSpec.post enc Tryd.prog Tryd.f4 false true false false) :=
  returns_of_walk (C := Tryd.checked) rfl own started (by kernel_rfl) Tryd.func4 rfl readable (by kernel_rfl) said
    (ChangeSpec.witness_shaped (enc := enc) (C := Tryd.checked) (os := os) (X := fun w _ => laidMetH Tryd.prog laidL w) false (World.laidAll Tryd.prog os laidL) #[.agg #[.int .u32 0, .int .u32 0, .int .u32 0, .int .u32 0, .int .u32 0, .int .u32 0, .int .u32 0, .int .u32 0, .int .u32 0, .int .u32 0, .int .u32 0, .int .u32 0, .int .u32 0, .int .u32 0, .int .u32 0, .int .u32 0, .int .u32 0, .int .u32 0, .int .u32 0, .int .u32 0, .int .u32 0, .int .u32 0, .int .u32 0, .int .u32 0, .int .u32 0, .int .u32 0, .int .u32 0, .int .u32 0, .int .u32 0, .slice none 0 0, .int .u64 0, .slice none 0 0, .bool false], .agg #[.int .i64 0, .int .i64 0, .int .i64 0, .int .i64 0, .int .i32 0]] 8 (World.laidAll_os _ _ _)
      (start_shaped os _) (by kernel_rfl) (by kernel_rfl) (by kernel_rfl) (start_met os _)) walk

theorem over : Rows.PrivilegedMatchesReferenceSaid :=
  OpenClaim.holds_of_wide 4 Tryd.f4 rfl rfl rfl rfl rfl rfl rfl ⟨rfl, rfl, rfl, rfl, rfl⟩ rfl rfl rfl rfl rfl (by kernel_rfl) Tryd.func4 (by kernel_rfl)
    (of_decide_eq_true (by kernel_rfl)) (by unfold Func.isWrapper; first | (rw [if_pos (by decide +kernel)]; kernel_rfl) | (rw [if_neg (by decide +kernel)]; exact ⟨rfl, rfl⟩))
    (fun os started H enc _ => lifted os started H enc)

/-- THE STATEMENT -/
theorem proved : Rows.PrivilegedMatchesReferenceCardSaid :=
  Claim7.holds_tied_plain_at .later [] [.data] true (true, "d78811fdd0f342fbb2ba603c83f6eebd8ca321176a55a836c8fad2cf606a22cc") false
    over (fun _ h => by cases h) (by kernel_rfl) (fun _ h => by cases h) privilegedMatchesReference_row_tie rfl ⟨rfl, rfl⟩ (by kernel_rfl) rfl
    (fun f fn hf hfn => by
      obtain rfl : f = 4 := Option.some.inj ((show Tryd.prog.funcNamed "gaoler/gaolerlaw12.PrivilegedMatchesReference" = some 4 by kernel_rfl).symm.trans hf) |>.symm
      obtain rfl : fn = Tryd.f4 := (Option.some.inj (Tryd.func4.symm.trans hfn)).symm
      exact ⟨by kernel_rfl, fun j t ht => by
        rw [Tryd.params4] at ht
        have hm : t ∈ [30, 32] := by simpa using Array.mem_of_getElem? ht
        have hall : ([30, 32].all fun u => !Tryd.prog.wantsStandIn u) = true := by kernel_rfl
        exact (show Tryd.prog.wantsStandIn t = false by simpa using List.all_eq_true.1 hall t hm)⟩)
    (by kernel_rfl)
#print axioms proved
end Go.Proofs.YthkhahfhbhgfhaaDoor.privilegedMatchesReference
