/-
  The law ExecuteMatchesReference of the law package returns true at every input, and each argument reads as it did; conditions: the listed package variables hold what the program's text lays there (the card ties them to it).
-/
import Derived.Test.YtpdahbcjecphmaaDoorCards
import Derived.Test.YtpdahbcjecphmaaDoorTie
import Derived.Test.YtpdahbcjecphmaaDoorPkZ
import Derived.Test.YtpdahbcjecphmaaDoorPkF
namespace Go.Proofs.YtpdahbcjecphmaaDoor
open Go.ChangeShapes Go.WideShapes Go.ChangeAt Go.RowKit Go.Sort
set_option linter.unusedVariables false

set_option maxRecDepth 100000 in
set_option maxHeartbeats 2000000 in
theorem mr_few (m : Mc) (op rd ra rb imm : Int) (by_ : Int) (W : World) (hm : m.Ok W) (T : Is.Tabs W) (i0 : -2147483648 ≤ imm) (i1 : imm < 2147483648) (hx : m.xs.length ≤ 9223372036854775807) (hy : m.ys.length ≤ 9223372036854775807) (b0 : 0 ≤ by_) (b1 : by_ < 4294967296) (hf : decide (m.xs.length ≤ 600 ∧ m.ys.length ≤ 600) = false) :
    Calls Tryd.prog 3 #[.agg (mach m), .agg (ins op rd ra rb imm), .int .u32 by_] W fun e W' => e = .returned (.bool true) ∧ Dn W W' := by
  have C0 := Lib.hid fun w => fun (t : Is.Tabs w) => awake w t
  have CF := Lib.hid fun w => fun (ow : m.Ok w) => rfew m false w ow hx hy hf
  clear hf
  have HD := Lib.hid (Dn.refl W)
  go_enter Tryd.func3, Tryd.ntmps3
  go_wp2_with (first | ((with_reducible refine wpList_box (vs := (mach m)) ?_ ?_ ?_); rfl; rfl; intro b_v3 w' nn; refine Hid.out ?_))
  refine Lib.hid ?_
  have HL_v3 : Hid (W.heap.size ≤ b_v3) := Lib.hid (Blk.hi nn HD.out.size)
  have d' := nn.dn
  replace HD := Lib.hid (HD.out.trans d')
  have v3 := nn.blk
  clear d' nn
  go_wp2_with (first | ((with_reducible refine wpList_box (vs := (ins op rd ra rb imm)) ?_ ?_ ?_); rfl; rfl; intro b_v4 w' nn; refine Hid.out ?_))
  refine Lib.hid ?_
  have n_v3_v4 := Lib.hid (nn.ne _ v3.lt)
  have HL_v4 : Hid (W.heap.size ≤ b_v4) := Lib.hid (Blk.hi nn HD.out.size)
  have d' := nn.dn
  replace v3 := v3.dn d'
  replace HD := Lib.hid (HD.out.trans d')
  have v4 := nn.blk
  clear d' nn
  go_wp2_with (first | (go_at_call 9; (with_reducible refine (C0.out _ (T.dn HD.out)).mono ?_); rintro e w' ⟨rfl, d'⟩; refine Hid.out ?_))
  refine Lib.hid ?_
  replace v3 := v3.dn d'
  replace v4 := v4.dn d'
  replace HD := Lib.hid (HD.out.trans d')
  clear d'
  go_wp2_with (first | ((with_reducible refine load33 v3 hm.len ?_ ?_ ?_); rfl; rfl) | (go_at_call 10; (with_reducible refine (CF.out _ (hm.dn HD.out)).mono ?_); rintro e w' ⟨rfl, d'⟩; refine Hid.out ?_))
  refine Lib.hid ?_
  replace v3 := v3.dn d'
  replace v4 := v4.dn d'
  replace HD := Lib.hid (HD.out.trans d')
  clear d'
  go_wp2_with (first | (go_at_call 9; (with_reducible refine (C0.out _ (T.dn HD.out)).mono ?_); rintro e w' ⟨rfl, d'⟩; refine Hid.out ?_))
  refine Lib.hid ?_
  replace v3 := v3.dn d'
  replace v4 := v4.dn d'
  replace HD := Lib.hid (HD.out.trans d')
  clear d'
  go_wp2_with fail
  go_ret
  exact ⟨rfl, HD.out⟩
set_option maxRecDepth 100000 in
set_option maxHeartbeats 2000000 in
theorem mr_plain (m : Mc) (op rd ra rb imm : Int) (by_ : Int) (W : World) (hm : m.Ok W) (T : Is.Tabs W) (i0 : -2147483648 ≤ imm) (i1 : imm < 2147483648) (hx : m.xs.length ≤ 9223372036854775807) (hy : m.ys.length ≤ 9223372036854775807) (b0 : 0 ≤ by_) (b1 : by_ < 4294967296) (hf : decide (m.xs.length ≤ 600 ∧ m.ys.length ≤ 600) = true) (hpl : (Is.M.ok op rd ra rb imm && !Is.M.priv op) = false) :
    Calls Tryd.prog 3 #[.agg (mach m), .agg (ins op rd ra rb imm), .int .u32 by_] W fun e W' => e = .returned (.bool true) ∧ Dn W W' := by
  have C0 := Lib.hid fun w => fun (t : Is.Tabs w) => awake w t
  have CF := Lib.hid fun w => fun (ow : m.Ok w) => rfew m true w ow hx hy hf
  have CP := Lib.hid (rPlain op rd ra rb imm false i0 i1 hpl)
  clear hf hpl
  have HD := Lib.hid (Dn.refl W)
  go_enter Tryd.func3, Tryd.ntmps3
  go_wp2_with (first | ((with_reducible refine wpList_box (vs := (mach m)) ?_ ?_ ?_); rfl; rfl; intro b_v3 w' nn; refine Hid.out ?_))
  refine Lib.hid ?_
  have HL_v3 : Hid (W.heap.size ≤ b_v3) := Lib.hid (Blk.hi nn HD.out.size)
  have d' := nn.dn
  replace HD := Lib.hid (HD.out.trans d')
  have v3 := nn.blk
  clear d' nn
  go_wp2_with (first | ((with_reducible refine wpList_box (vs := (ins op rd ra rb imm)) ?_ ?_ ?_); rfl; rfl; intro b_v4 w' nn; refine Hid.out ?_))
  refine Lib.hid ?_
  have n_v3_v4 := Lib.hid (nn.ne _ v3.lt)
  have HL_v4 : Hid (W.heap.size ≤ b_v4) := Lib.hid (Blk.hi nn HD.out.size)
  have d' := nn.dn
  replace v3 := v3.dn d'
  replace HD := Lib.hid (HD.out.trans d')
  have v4 := nn.blk
  clear d' nn
  go_wp2_with (first | (go_at_call 9; (with_reducible refine (C0.out _ (T.dn HD.out)).mono ?_); rintro e w' ⟨rfl, d'⟩; refine Hid.out ?_))
  refine Lib.hid ?_
  replace v3 := v3.dn d'
  replace v4 := v4.dn d'
  replace HD := Lib.hid (HD.out.trans d')
  clear d'
  go_wp2_with (first | ((with_reducible refine load33 v3 hm.len ?_ ?_ ?_); rfl; rfl) | (go_at_call 10; (with_reducible refine (CF.out _ (hm.dn HD.out)).mono ?_); rintro e w' ⟨rfl, d'⟩; refine Hid.out ?_))
  refine Lib.hid ?_
  replace v3 := v3.dn d'
  replace v4 := v4.dn d'
  replace HD := Lib.hid (HD.out.trans d')
  clear d'
  go_wp2_with (first | ((with_reducible refine loadI v4 ?_ ?_ ?_); rfl; rfl) | (go_at_call 11; (with_reducible refine (CP.out _).mono ?_); rintro e w' ⟨rfl, d'⟩; refine Hid.out ?_))
  refine Lib.hid ?_
  replace v3 := v3.dn d'
  replace v4 := v4.dn d'
  replace HD := Lib.hid (HD.out.trans d')
  clear d'
  go_wp2_with (first | (go_at_call 9; (with_reducible refine (C0.out _ (T.dn HD.out)).mono ?_); rintro e w' ⟨rfl, d'⟩; refine Hid.out ?_))
  refine Lib.hid ?_
  replace v3 := v3.dn d'
  replace v4 := v4.dn d'
  replace HD := Lib.hid (HD.out.trans d')
  clear d'
  go_wp2_with fail
  go_ret
  exact ⟨rfl, HD.out⟩
set_option maxRecDepth 100000 in
set_option maxHeartbeats 2000000 in
theorem mr_main (m : Mc) (op rd ra rb imm : Int) (by_ : Int) (W : World) (hm : m.Ok W) (T : Is.Tabs W) (i0 : -2147483648 ≤ imm) (i1 : imm < 2147483648) (hx : m.xs.length ≤ 9223372036854775807) (hy : m.ys.length ≤ 9223372036854775807) (b0 : 0 ≤ by_) (b1 : by_ < 4294967296) (hf : decide (m.xs.length ≤ 600 ∧ m.ys.length ≤ 600) = true) (hpl : (Is.M.ok op rd ra rb imm && !Is.M.priv op) = true) :
    Calls Tryd.prog 3 #[.agg (mach m), .agg (ins op rd ra rb imm), .int .u32 by_] W fun e W' => e = .returned (.bool true) ∧ Dn W W' := by
  have hl := hm.len
  have hc := hm.core
  have hs : m.xs.length ≤ 100000 := by simp only [decide_eq_true_eq] at hf; omega
  have hy2 : m.ys.length ≤ 100000 := by simp only [decide_eq_true_eq] at hf; omega
  have hvp : Is.M.ok op rd ra rb imm = true ∧ Is.M.priv op = false := by simpa using hpl
  have C0 := Lib.hid fun w => fun (t : Is.Tabs w) => awake w t
  have CF := Lib.hid fun w => fun (ow : m.Ok w) => rfew m true w ow hx hy hf
  have CP := Lib.hid (rPlain op rd ra rb imm true i0 i1 hpl)
  have C1 := Lib.hid fun w => fun (ow : m.Ok w) (t : Is.Tabs w) => xExec m op rd ra rb imm w ow hs t i0 i1 hvp.1 hvp.2
  have C2 := Lib.hid fun w => fun (ow : m.Ok w) => refDo11 m op rd ra rb imm w ow hs i0 i1 hvp.1 hvp.2
  have hz : (M.ex m.c m.xs op rd ra rb imm).z.length ≤ 100000 := by rw [M.ex_len]; exact hs
  generalize M.ex m.c m.xs op rd ra rb imm = r at C1 C2 hz
  obtain ⟨c1, e1⟩ : ∃ c1, M.adv m.c by_ = c1 := ⟨_, rfl⟩
  have k1 : M.Core c1 := by rw [← e1]; exact hc.adv _
  have l1 := k1.len
  have C3 := Lib.hid fun w => xAdv m.c by_ c1 w hc b0 b1 e1
  have C4 := Lib.hid fun (w : World) (m1 m2 : Mc) (o1 : m1.Ok w) (o2 : m2.Ok w) (f1 : Exd m r m1) (f2 : Exd m r m2) => rsame_of w o1 o2 f1 f2 hz hy2
  have HE : Hid (m.c.set 16 ((M.pc m.c + by_) % 4294967296) = c1) := Lib.hid e1
  have p0 := (M.core_pc hc).1
  have p1 := (M.core_pc hc).2
  have hpc : m.c.getD 16 0 = M.pc m.c := rfl
  generalize M.pc m.c = p at hpc HE p0 p1
  have qt := eqTrap_self r.k r.v
  have qc := fun w => eq29_self (c := c1) l1 w
  clear hf hpl hvp e1
  have HD := Lib.hid (Dn.refl W)
  go_enter Tryd.func3, Tryd.ntmps3
  go_wp2_with (first | ((with_reducible refine wpList_box (vs := (mach m)) ?_ ?_ ?_); rfl; rfl; intro b_v3 w' nn; refine Hid.out ?_))
  refine Lib.hid ?_
  have HL_v3 : Hid (W.heap.size ≤ b_v3) := Lib.hid (Blk.hi nn HD.out.size)
  have d' := nn.dn
  replace HD := Lib.hid (HD.out.trans d')
  have v3 := nn.blk
  clear d' nn
  go_wp2_with (first | ((with_reducible refine wpList_box (vs := (ins op rd ra rb imm)) ?_ ?_ ?_); rfl; rfl; intro b_v4 w' nn; refine Hid.out ?_))
  refine Lib.hid ?_
  have n_v3_v4 := Lib.hid (nn.ne _ v3.lt)
  have HL_v4 : Hid (W.heap.size ≤ b_v4) := Lib.hid (Blk.hi nn HD.out.size)
  have d' := nn.dn
  replace v3 := v3.dn d'
  replace HD := Lib.hid (HD.out.trans d')
  have v4 := nn.blk
  clear d' nn
  go_wp2_with (first | (go_at_call 9; (with_reducible refine (C0.out _ (T.dn HD.out)).mono ?_); rintro e w' ⟨rfl, d'⟩; refine Hid.out ?_))
  refine Lib.hid ?_
  replace v3 := v3.dn d'
  replace v4 := v4.dn d'
  replace HD := Lib.hid (HD.out.trans d')
  clear d'
  go_wp2_with (first | ((with_reducible refine load33 v3 hl ?_ ?_ ?_); rfl; rfl) | (go_at_call 10; (with_reducible refine (CF.out _ (hm.dn HD.out)).mono ?_); rintro e w' ⟨rfl, d'⟩; refine Hid.out ?_))
  refine Lib.hid ?_
  replace v3 := v3.dn d'
  replace v4 := v4.dn d'
  replace HD := Lib.hid (HD.out.trans d')
  clear d'
  go_wp2_with (first | ((with_reducible refine loadI v4 ?_ ?_ ?_); rfl; rfl) | (go_at_call 11; (with_reducible refine (CP.out _).mono ?_); rintro e w' ⟨rfl, d'⟩; refine Hid.out ?_))
  refine Lib.hid ?_
  replace v3 := v3.dn d'
  replace v4 := v4.dn d'
  replace HD := Lib.hid (HD.out.trans d')
  clear d'
  go_wp2_with (first | ((with_reducible refine load33 v3 hl ?_ ?_ ?_); rfl; rfl) | ((with_reducible refine loadI v4 ?_ ?_ ?_); rfl; rfl) | (go_at_call 12; (with_reducible refine (C1.out _ (hm.dn HD.out) (T.dn HD.out)).mono ?_); rintro e w' ⟨m1, rfl, o1', u1, d'⟩; refine Hid.out ?_))
  refine Lib.hid ?_
  replace v3 := v3.dn d'
  replace v4 := v4.dn d'
  replace HD := Lib.hid (HD.out.trans d')
  clear d'
  have lm1 := o1'.out.len
  have o1 := Lib.hid o1'.out
  go_wp2_with (first | ((with_reducible refine wpList_alloc zeroMach ?_ ?_); rfl; intro b_v7 w' nn; refine Hid.out ?_))
  refine Lib.hid ?_
  have n_v3_v7 := Lib.hid (nn.ne _ v3.lt)
  have n_v4_v7 := Lib.hid (nn.ne _ v4.lt)
  have HL_v7 : Hid (W.heap.size ≤ b_v7) := Lib.hid (Blk.hi nn HD.out.size)
  have d' := nn.dn
  replace v3 := v3.dn d'
  replace v4 := v4.dn d'
  replace o1 := Lib.hid (o1.out.dn d')
  replace HD := Lib.hid (HD.out.trans d')
  have v7 := nn.blk
  clear d' nn
  go_wp2_with (first | ((with_reducible refine wpList_alloc zeroTrap ?_ ?_); rfl; intro b_v8 w' nn; refine Hid.out ?_))
  refine Lib.hid ?_
  have n_v3_v8 := Lib.hid (nn.ne _ v3.lt)
  have n_v4_v8 := Lib.hid (nn.ne _ v4.lt)
  have n_v7_v8 := Lib.hid (nn.ne _ v7.lt)
  have HL_v8 : Hid (W.heap.size ≤ b_v8) := Lib.hid (Blk.hi nn HD.out.size)
  have d' := nn.dn
  replace v3 := v3.dn d'
  replace v4 := v4.dn d'
  replace v7 := v7.dn d'
  replace o1 := Lib.hid (o1.out.dn d')
  replace HD := Lib.hid (HD.out.trans d')
  have v8 := nn.blk
  clear d' nn
  go_wp2_with (first | ((with_reducible refine store33 m1 lm1 v7 zlen ?_ ?_ ?_ ?_); rfl; rfl; rfl; intro w' r' t'; refine Hid.out ?_))
  refine Lib.hid ?_
  replace o1 := Lib.hid (o1.out.trn v7 (NoU8.mach _) t')
  replace v3 := v3.trn t' n_v3_v7.out
  replace v4 := v4.trn t' n_v4_v7.out
  replace v8 := v8.trn t' n_v7_v8.out.symm
  replace HD := Lib.hid (HD.out.trn HL_v7.out t')
  clear t' v7
  have v7 := r'
  clear r'
  go_wp2_with (first | ((with_reducible refine storeTrap (k := r.k) (v := r.v) v8 ?_ ?_ ?_ ?_); rfl; rfl; rfl; intro w' r' t'; refine Hid.out ?_))
  refine Lib.hid ?_
  replace o1 := Lib.hid (o1.out.trn v8 (NoU8.trap _ _) t')
  replace v3 := v3.trn t' n_v3_v8.out
  replace v4 := v4.trn t' n_v4_v8.out
  replace v7 := v7.trn t' n_v7_v8.out
  replace HD := Lib.hid (HD.out.trn HL_v8.out t')
  clear t' v8
  have v8 := r'
  clear r'
  go_wp2_with (first | ((with_reducible refine load33 v3 hl ?_ ?_ ?_); rfl; rfl) | ((with_reducible refine loadI v4 ?_ ?_ ?_); rfl; rfl) | (go_at_call 13; (with_reducible refine (C2.out _ (hm.dn HD.out)).mono ?_); rintro e w' ⟨m2, rfl, o2', u2, d'⟩; refine Hid.out ?_))
  refine Lib.hid ?_
  replace v3 := v3.dn d'
  replace v4 := v4.dn d'
  replace v7 := v7.dn d'
  replace v8 := v8.dn d'
  replace o1 := Lib.hid (o1.out.dn d')
  replace HD := Lib.hid (HD.out.trans d')
  clear d'
  have lm2 := o2'.out.len
  have o2 := Lib.hid o2'.out
  go_wp2_with (first | ((with_reducible refine wpList_alloc zeroMach ?_ ?_); rfl; intro b_v9 w' nn; refine Hid.out ?_))
  refine Lib.hid ?_
  have n_v3_v9 := Lib.hid (nn.ne _ v3.lt)
  have n_v4_v9 := Lib.hid (nn.ne _ v4.lt)
  have n_v7_v9 := Lib.hid (nn.ne _ v7.lt)
  have n_v8_v9 := Lib.hid (nn.ne _ v8.lt)
  have HL_v9 : Hid (W.heap.size ≤ b_v9) := Lib.hid (Blk.hi nn HD.out.size)
  have d' := nn.dn
  replace v3 := v3.dn d'
  replace v4 := v4.dn d'
  replace v7 := v7.dn d'
  replace v8 := v8.dn d'
  replace o1 := Lib.hid (o1.out.dn d')
  replace o2 := Lib.hid (o2.out.dn d')
  replace HD := Lib.hid (HD.out.trans d')
  have v9 := nn.blk
  clear d' nn
  go_wp2_with (first | ((with_reducible refine wpList_alloc zeroTrap ?_ ?_); rfl; intro b_v10 w' nn; refine Hid.out ?_))
  refine Lib.hid ?_
  have n_v3_v10 := Lib.hid (nn.ne _ v3.lt)
  have n_v4_v10 := Lib.hid (nn.ne _ v4.lt)
  have n_v7_v10 := Lib.hid (nn.ne _ v7.lt)
  have n_v8_v10 := Lib.hid (nn.ne _ v8.lt)
  have n_v9_v10 := Lib.hid (nn.ne _ v9.lt)
  have HL_v10 : Hid (W.heap.size ≤ b_v10) := Lib.hid (Blk.hi nn HD.out.size)
  have d' := nn.dn
  replace v3 := v3.dn d'
  replace v4 := v4.dn d'
  replace v7 := v7.dn d'
  replace v8 := v8.dn d'
  replace v9 := v9.dn d'
  replace o1 := Lib.hid (o1.out.dn d')
  replace o2 := Lib.hid (o2.out.dn d')
  replace HD := Lib.hid (HD.out.trans d')
  have v10 := nn.blk
  clear d' nn
  go_wp2_with (first | ((with_reducible refine store33 m2 lm2 v9 zlen ?_ ?_ ?_ ?_); rfl; rfl; rfl; intro w' r' t'; refine Hid.out ?_))
  refine Lib.hid ?_
  replace o1 := Lib.hid (o1.out.trn v9 (NoU8.mach _) t')
  replace o2 := Lib.hid (o2.out.trn v9 (NoU8.mach _) t')
  replace v3 := v3.trn t' n_v3_v9.out
  replace v4 := v4.trn t' n_v4_v9.out
  replace v7 := v7.trn t' n_v7_v9.out
  replace v8 := v8.trn t' n_v8_v9.out
  replace v10 := v10.trn t' n_v9_v10.out.symm
  replace HD := Lib.hid (HD.out.trn HL_v9.out t')
  clear t' v9
  have v9 := r'
  clear r'
  go_wp2_with (first | ((with_reducible refine storeTrap (k := r.k) (v := r.v) v10 ?_ ?_ ?_ ?_); rfl; rfl; rfl; intro w' r' t'; refine Hid.out ?_))
  refine Lib.hid ?_
  replace o1 := Lib.hid (o1.out.trn v10 (NoU8.trap _ _) t')
  replace o2 := Lib.hid (o2.out.trn v10 (NoU8.trap _ _) t')
  replace v3 := v3.trn t' n_v3_v10.out
  replace v4 := v4.trn t' n_v4_v10.out
  replace v7 := v7.trn t' n_v7_v10.out
  replace v8 := v8.trn t' n_v8_v10.out
  replace v9 := v9.trn t' n_v9_v10.out
  replace HD := Lib.hid (HD.out.trn HL_v10.out t')
  clear t' v10
  have v10 := r'
  clear r'
  go_wp2_with (first | ((with_reducible refine loadCore v3 hl ?_ ?_ ?_); rfl; rfl) | (go_at_call 14; (with_reducible refine (C3.out _).mono ?_); rintro e w' ⟨rfl, d'⟩; refine Hid.out ?_))
  refine Lib.hid ?_
  replace v3 := v3.dn d'
  replace v4 := v4.dn d'
  replace v7 := v7.dn d'
  replace v8 := v8.dn d'
  replace v9 := v9.dn d'
  replace v10 := v10.dn d'
  replace o1 := Lib.hid (o1.out.dn d')
  replace o2 := Lib.hid (o2.out.dn d')
  replace HD := Lib.hid (HD.out.trans d')
  clear d'
  go_wp2_with (first | ((with_reducible refine wpList_alloc zeroCore ?_ ?_); rfl; intro b_v11 w' nn; refine Hid.out ?_))
  refine Lib.hid ?_
  have n_v3_v11 := Lib.hid (nn.ne _ v3.lt)
  have n_v4_v11 := Lib.hid (nn.ne _ v4.lt)
  have n_v7_v11 := Lib.hid (nn.ne _ v7.lt)
  have n_v8_v11 := Lib.hid (nn.ne _ v8.lt)
  have n_v9_v11 := Lib.hid (nn.ne _ v9.lt)
  have n_v10_v11 := Lib.hid (nn.ne _ v10.lt)
  have HL_v11 : Hid (W.heap.size ≤ b_v11) := Lib.hid (Blk.hi nn HD.out.size)
  have d' := nn.dn
  replace v3 := v3.dn d'
  replace v4 := v4.dn d'
  replace v7 := v7.dn d'
  replace v8 := v8.dn d'
  replace v9 := v9.dn d'
  replace v10 := v10.dn d'
  replace o1 := Lib.hid (o1.out.dn d')
  replace o2 := Lib.hid (o2.out.dn d')
  replace HD := Lib.hid (HD.out.trans d')
  have v11 := nn.blk
  clear d' nn
  go_wp2_with (first | ((with_reducible refine restore29 c1 l1 (Blk.row v11) z29 ?_ ?_ ?_ ?_); rfl; rfl; rfl; intro w' r' t'; refine Hid.out ?_))
  refine Lib.hid ?_
  replace o1 := Lib.hid (o1.out.trn v11 (NoU8.ints32 _) t')
  replace o2 := Lib.hid (o2.out.trn v11 (NoU8.ints32 _) t')
  replace v3 := v3.trn t' n_v3_v11.out
  replace v4 := v4.trn t' n_v4_v11.out
  replace v7 := v7.trn t' n_v7_v11.out
  replace v8 := v8.trn t' n_v8_v11.out
  replace v9 := v9.trn t' n_v9_v11.out
  replace v10 := v10.trn t' n_v10_v11.out
  replace HD := Lib.hid (HD.out.trn HL_v11.out t')
  clear t' v11
  have v11 := Row.blk r'
  clear r'
  go_wp2_with (first | ((with_reducible refine loadCore v3 hl ?_ ?_ ?_); rfl; rfl) | ((with_reducible refine wpList_alloc zeroCore ?_ ?_); rfl; intro b_v12 w' nn; refine Hid.out ?_))
  refine Lib.hid ?_
  have n_v3_v12 := Lib.hid (nn.ne _ v3.lt)
  have n_v4_v12 := Lib.hid (nn.ne _ v4.lt)
  have n_v7_v12 := Lib.hid (nn.ne _ v7.lt)
  have n_v8_v12 := Lib.hid (nn.ne _ v8.lt)
  have n_v9_v12 := Lib.hid (nn.ne _ v9.lt)
  have n_v10_v12 := Lib.hid (nn.ne _ v10.lt)
  have n_v11_v12 := Lib.hid (nn.ne _ v11.lt)
  have HL_v12 : Hid (W.heap.size ≤ b_v12) := Lib.hid (Blk.hi nn HD.out.size)
  have d' := nn.dn
  replace v3 := v3.dn d'
  replace v4 := v4.dn d'
  replace v7 := v7.dn d'
  replace v8 := v8.dn d'
  replace v9 := v9.dn d'
  replace v10 := v10.dn d'
  replace v11 := v11.dn d'
  replace o1 := Lib.hid (o1.out.dn d')
  replace o2 := Lib.hid (o2.out.dn d')
  replace HD := Lib.hid (HD.out.trans d')
  have v12 := nn.blk
  clear d' nn
  go_wp2_with (first | ((with_reducible refine restore29 m.c hl (Blk.row v12) z29 ?_ ?_ ?_ ?_); rfl; rfl; rfl; intro w' r' t'; refine Hid.out ?_))
  refine Lib.hid ?_
  replace o1 := Lib.hid (o1.out.trn v12 (NoU8.ints32 _) t')
  replace o2 := Lib.hid (o2.out.trn v12 (NoU8.ints32 _) t')
  replace v3 := v3.trn t' n_v3_v12.out
  replace v4 := v4.trn t' n_v4_v12.out
  replace v7 := v7.trn t' n_v7_v12.out
  replace v8 := v8.trn t' n_v8_v12.out
  replace v9 := v9.trn t' n_v9_v12.out
  replace v10 := v10.trn t' n_v10_v12.out
  replace v11 := v11.trn t' n_v11_v12.out
  replace HD := Lib.hid (HD.out.trn HL_v12.out t')
  clear t' v12
  have v12 := Row.blk r'
  clear r'
  have ck0 := v12.row.cell 16 (by rw [hl]; decide)
  rw [hpc] at ck0
  go_wp2_with (first | ((with_reducible refine store1 (i := 16) (u := (p + by_) % 4294967296) (Blk.row v12) hc ?_ ?_ ?_ ?_ ?_); rfl; rfl; rfl; rfl; intro w' r' t'; refine Hid.out ?_))
  refine Lib.hid ?_
  clear ck0
  replace o1 := Lib.hid (o1.out.trn v12 (NoU8.ints32 _) t')
  replace o2 := Lib.hid (o2.out.trn v12 (NoU8.ints32 _) t')
  replace v3 := v3.trn t' n_v3_v12.out
  replace v4 := v4.trn t' n_v4_v12.out
  replace v7 := v7.trn t' n_v7_v12.out
  replace v8 := v8.trn t' n_v8_v12.out
  replace v9 := v9.trn t' n_v9_v12.out
  replace v10 := v10.trn t' n_v10_v12.out
  replace v11 := v11.trn t' n_v11_v12.out
  rw [HE.out] at r'
  replace HD := Lib.hid (HD.out.trn HL_v12.out t')
  clear t' v12
  have v12 := Row.blk r'
  clear r'
  go_wp2_with (first | ((with_reducible refine load33 v7 lm1 ?_ ?_ ?_); rfl; rfl) | ((with_reducible refine load33 v9 lm2 ?_ ?_ ?_); rfl; rfl) | (go_at_call 15; (with_reducible refine (C4.out _ m1 m2 o1.out o2.out u1.out.exd u2.out.exd).mono ?_); rintro e w' ⟨rfl, d'⟩; refine Hid.out ?_))
  refine Lib.hid ?_
  replace v3 := v3.dn d'
  replace v4 := v4.dn d'
  replace v7 := v7.dn d'
  replace v8 := v8.dn d'
  replace v9 := v9.dn d'
  replace v10 := v10.dn d'
  replace v11 := v11.dn d'
  replace v12 := v12.dn d'
  replace o1 := Lib.hid (o1.out.dn d')
  replace o2 := Lib.hid (o2.out.dn d')
  replace HD := Lib.hid (HD.out.trans d')
  clear d'
  go_wp2_with (first | ((with_reducible refine loadTrap v8 ?_ ?_ ?_); rfl; rfl) | ((with_reducible refine loadTrap v10 ?_ ?_ ?_); rfl; rfl) | ((with_reducible refine load29 (Blk.row v11) l1 ?_ ?_ ?_); rfl; rfl) | ((with_reducible refine load29 (Blk.row v12) l1 ?_ ?_ ?_); rfl; rfl) | fail)
  go_ret
  exact ⟨rfl, HD.out⟩
theorem mrWalk (m : Mc) (op rd ra rb imm : Int) (by_ : Int) (W : World) (hm : m.Ok W) (T : Is.Tabs W) (i0 : -2147483648 ≤ imm) (i1 : imm < 2147483648) (hx : m.xs.length ≤ 9223372036854775807) (hy : m.ys.length ≤ 9223372036854775807) (b0 : 0 ≤ by_) (b1 : by_ < 4294967296) : Calls Tryd.prog 3 #[.agg (mach m), .agg (ins op rd ra rb imm), .int .u32 by_] W fun e W' => e = .returned (.bool true) ∧ Dn W W' := by
  cases hf : decide (m.xs.length ≤ 600 ∧ m.ys.length ≤ 600)
  · exact mr_few m op rd ra rb imm by_ W hm T i0 i1 hx hy b0 b1 hf
  · cases hpl : (Is.M.ok op rd ra rb imm && !Is.M.priv op)
    · exact mr_plain m op rd ra rb imm by_ W hm T i0 i1 hx hy b0 b1 hf hpl
    · exact mr_main m op rd ra rb imm by_ W hm T i0 i1 hx hy b0 b1 hf hpl
end Go.Proofs.YtpdahbcjecphmaaDoor
namespace Go.Proofs.YtpdahbcjecphmaaDoor.executeMatchesReference
open Go.ChangeShapes Go.WideShapes Go.ChangeAt Go.RowKit
set_option linter.unusedVariables false

theorem readable : ∀ t ∈ Tryd.f3.params.toList, Tryd.prog.readableRec t = true ∧ t < Tryd.prog.types.size := by
  rw [Tryd.params3]
  intro t ht
  have hall : ([30, 32, 22].all fun t => Tryd.prog.readableRec t && decide (t < Tryd.prog.types.size)) = true := by kernel_rfl
  have h := List.all_eq_true.1 hall t ht
  simp only [Bool.and_eq_true, decide_eq_true_eq] at h
  exact h

theorem said (H : Type) (ds : List (DataW H)) (hl : ds.length = Tryd.f3.params.size) : (Rows.executeMatchesReferenceSpec.fn H ds).results = [.lit (.bool true)] ∧ (Rows.executeMatchesReferenceSpec.fn H ds).args = ds ∧ (Rows.executeMatchesReferenceSpec.fn H ds).vars = [] := by
  rw [Tryd.params3] at hl
  match ds, hl with
  | [d0, d1, d2], _ => exact ⟨rfl, rfl, rfl⟩

set_option maxRecDepth 100000 in
theorem walk {H : Type} {enc : TypeId × Value → H} (W : World) (base : Nat) (args : Array Value) (ds : List (DataW H)) (ps : List MemPlace) (E : Env W)
    (hval : ∀ (j : Nat) t v, Tryd.f3.params[j]? = some t → args[j]? = some v → Value.okWide Tryd.prog W .any base t v)
    (hA : DataW.TrodAll enc Tryd.prog W 0 (fun _ => true) true Tryd.f3.params.toList args.toList ds ps) :
    Calls Tryd.prog 3 args W fun e W' => e = .returned (.bool true) ∧ Dn W W' := by
  rw [Tryd.params3] at hA hval
  obtain ⟨v0, vs0, d0, ds0, p0, q0, hargs, rfl, rfl, h0, r0⟩ := trodAll_cons hA
  obtain ⟨v1, vs1, d1, ds1, p1, q1, rfl, rfl, rfl, h1, r1⟩ := trodAll_cons r0
  obtain ⟨v2, vs2, d2, ds2, p2, q2, rfl, rfl, rfl, h2, r2⟩ := trodAll_cons r1
  obtain ⟨rfl, rfl, rfl⟩ := trodAll_nil r2
  obtain rfl : args = #[v0, v1, v2] := by cases args; simp_all
  obtain ⟨m0, rfl, o0, l0, y0⟩ := open33 (hval 0 30 v0 rfl rfl) h0
  obtain ⟨op1, rd1, ra1, rb1, imm1, rfl, _, _, _, _, _, _, wi1⟩ := Is.open_instr (hval 1 32 v1 rfl rfl) h1
  have bd1 := bounds_i32 wi1
  obtain ⟨x2, rfl, rfl, rfl, w2⟩ := open_int Tryd.underlying22 (hval 2 22 v2 rfl rfl) h2
  have bd2 := bounds_u32 w2
  exact mrWalk m0 op1 rd1 ra1 rb1 imm1 x2 W o0 E (by omega) (by omega) l0 y0 (by omega) (by omega)

set_option maxRecDepth 100000 in
theorem lifted (os : Os) (started : os.Started) (H : Type) (enc : TypeId × Value → H) :
    ReturnsInHanded {} Tryd.checked os 3 .any (fun w args => (Rows.executeMatchesReferenceSpec.pre enc Tryd.prog Tryd.f3 [] false w args ∧ laidMetH Tryd.prog laidL w) ∧ sizedMet enc Tryd.prog Tryd.f3 (OpenSpec.ofChange Rows.executeMatchesReferenceSpec) false w args)
      (Rows.executeMatchesReferenceSpec.post enc Tryd.prog Tryd.f3 false true false false) :=
  returns_of_walk (C := Tryd.checked) rfl own started (by kernel_rfl) Tryd.func3 rfl readable (by kernel_rfl) said
    (ChangeSpec.witness_shaped (enc := enc) (C := Tryd.checked) (os := os) (X := fun w _ => laidMetH Tryd.prog laidL w) false (World.laidAll Tryd.prog os laidL) #[.agg #[.int .u32 0, .int .u32 0, .int .u32 0, .int .u32 0, .int .u32 0, .int .u32 0, .int .u32 0, .int .u32 0, .int .u32 0, .int .u32 0, .int .u32 0, .int .u32 0, .int .u32 0, .int .u32 0, .int .u32 0, .int .u32 0, .int .u32 0, .int .u32 0, .int .u32 0, .int .u32 0, .int .u32 0, .int .u32 0, .int .u32 0, .int .u32 0, .int .u32 0, .int .u32 0, .int .u32 0, .int .u32 0, .int .u32 0, .slice none 0 0, .int .u64 0, .slice none 0 0, .bool false], .agg #[.int .i64 0, .int .i64 0, .int .i64 0, .int .i64 0, .int .i32 0], .int .u32 0] 8 (World.laidAll_os _ _ _)
      (start_shaped os _) (by kernel_rfl) (by kernel_rfl) (by kernel_rfl) (start_met os _)) walk

theorem over : Rows.ExecuteMatchesReferenceSaid :=
  OpenClaim.holds_of_wide 3 Tryd.f3 rfl rfl rfl rfl rfl rfl rfl ⟨rfl, rfl, rfl, rfl, rfl⟩ rfl rfl rfl rfl rfl (by kernel_rfl) Tryd.func3 (by kernel_rfl)
    (of_decide_eq_true (by kernel_rfl)) (by unfold Func.isWrapper; first | (rw [if_pos (by decide +kernel)]; kernel_rfl) | (rw [if_neg (by decide +kernel)]; exact ⟨rfl, rfl⟩))
    (fun os started H enc _ => lifted os started H enc)

/-- THE STATEMENT -/
theorem proved : Rows.ExecuteMatchesReferenceCardSaid :=
  Claim7.holds_tied_plain_at .later [] [.data, .data] true (true, "91e72f67f80a65227298d3539401025c22714d779c4228c5751d5c899ac93c42") false
    over (fun _ h => by cases h) (by kernel_rfl) (fun _ h => by cases h) executeMatchesReference_row_tie rfl ⟨rfl, rfl⟩ (by kernel_rfl) rfl
    (fun f fn hf hfn => by
      obtain rfl : f = 3 := Option.some.inj ((show Tryd.prog.funcNamed "gaoler/gaolerlaw11.ExecuteMatchesReference" = some 3 by kernel_rfl).symm.trans hf) |>.symm
      obtain rfl : fn = Tryd.f3 := (Option.some.inj (Tryd.func3.symm.trans hfn)).symm
      exact ⟨by kernel_rfl, fun j t ht => by
        rw [Tryd.params3] at ht
        have hm : t ∈ [30, 32, 22] := by simpa using Array.mem_of_getElem? ht
        have hall : ([30, 32, 22].all fun u => !Tryd.prog.wantsStandIn u) = true := by kernel_rfl
        exact (show Tryd.prog.wantsStandIn t = false by simpa using List.all_eq_true.1 hall t hm)⟩)
    (by kernel_rfl)
#print axioms proved
end Go.Proofs.YtpdahbcjecphmaaDoor.executeMatchesReference
