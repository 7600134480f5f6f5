/-
  The law StepMatchesReference of the law package returns true at every input, and each argument reads as it did; conditions: the listed package variables hold what the program's text lays there (the card ties them to it).
-/
import Derived.Test.YtjbnflalngjfaaaGreatDoorCards
import Derived.Test.YtjbnflalngjfaaaGreatDoorTie
import Derived.Test.YtjbnflalngjfaaaGreatDoorPmW
import Derived.Test.YtjbnflalngjfaaaGreatDoorPmQ
import Derived.Test.YtjbnflalngjfaaaGreatDoorPmG
namespace Go.Proofs.YtjbnflalngjfaaaGreatDoor
open Go.ChangeShapes Go.WideShapes Go.ChangeAt Go.RowKit Go.Sort
set_option linter.unusedVariables false

set_option maxRecDepth 100000 in
set_option maxHeartbeats 2000000 in
theorem smr_few (m : Mc) (W : World) (hm : m.Ok W) (T : Env2 W) (hx : m.xs.length ≤ 9223372036854775807) (hy : m.ys.length ≤ 9223372036854775807) (hf : decide (m.xs.length ≤ 600 ∧ m.ys.length ≤ 600) = false) :
   Calls Tryz.prog 3 #[.agg (mach m)] W fun e W' => e = .returned (.bool true) ∧ Dn W W' := by
 have C0 := Lib.hid fun w => fun (t : Env2 w) => awakeS w t
 have CF := Lib.hid fun w => fun (ow : m.Ok w) => rfew m false w ow hx hy hf
 clear hf
 have HD := Lib.hid (Dn.refl W)
 go_enter Tryz.func3, Tryz.ntmps3
 go_wp2_with (first | ((with_reducible refine wpList_box (vs := (mach m)) ?_ ?_ ?_); rfl; rfl; intro b_v1 w' nn; refine Hid.out ?_))
 refine Lib.hid ?_
 have d' := nn.dn
 replace HD := hT HD d'
 have v1 := nn.blk
 clear d' nn
 go_wp2_with (first | (go_at_call 9; (with_reducible refine (C0.out _ (T.dn HD.out)).mono ?_); rintro e w' ⟨rfl, d'⟩; refine Hid.out ?_))
 refine Lib.hid ?_
 replace v1 := v1.dn d'
 replace HD := hT HD d'
 clear d'
 go_wp2_with (first | ((with_reducible refine load33 v1 hm.len ?_ ?_ ?_); rfl; rfl) | (go_at_call 10; (with_reducible refine (CF.out _ (hm.dn HD.out)).mono ?_); rintro e w' ⟨rfl, d'⟩; refine Hid.out ?_))
 refine Lib.hid ?_
 replace v1 := v1.dn d'
 replace HD := hT HD d'
 clear d'
 go_wp2_with (first | (go_at_call 9; (with_reducible refine (C0.out _ (T.dn HD.out)).mono ?_); rintro e w' ⟨rfl, d'⟩; refine Hid.out ?_))
 refine Lib.hid ?_
 replace v1 := v1.dn d'
 replace HD := hT HD d'
 clear d'
 go_wp2_with fail
 go_ret
 exact ⟨rfl, HD.out⟩
set_option maxRecDepth 100000 in
set_option maxHeartbeats 2000000 in
theorem smr_main (m : Mc) (W : World) (hm : m.Ok W) (T : Env2 W) (hx : m.xs.length ≤ 9223372036854775807) (hy : m.ys.length ≤ 9223372036854775807) (hf : decide (m.xs.length ≤ 600 ∧ m.ys.length ≤ 600) = true) :
   Calls Tryz.prog 3 #[.agg (mach m)] W fun e W' => e = .returned (.bool true) ∧ Dn W W' := by
 have hl := hm.len
 have hc := hm.core
 have hs : m.xs.length ≤ 600 := by simp only [decide_eq_true_eq] at hf; omega
 have hn : m.ys.length ≤ 600 := by simp only [decide_eq_true_eq] at hf; omega
 have C0 := Lib.hid fun w => fun (t : Env2 w) => awakeS w t
 have CF := Lib.hid fun w => fun (ow : m.Ok w) => rfew m true w ow hx hy hf
 clear hf
 have C1 := Lib.hid fun w => fun (ow : m.Ok w) (t : Env2 w) => stStep m w ow (by omega) (by omega) t
 have C2 := Lib.hid fun w => fun (ow : m.Ok w) => rSt m w ow (by omega) (by omega)
 have C3 := Lib.hid fun w => fun (ow : m.Ok w) (t : Env2 w) => stNt m w ow (by omega) (by omega) t
 have C4 := Lib.hid fun w => fun (ow : m.Ok w) => rPl m w ow (by omega) (by omega)
 have C5 := Lib.hid fun w => fun (ow : m.Ok w) (t : Env2 w) => stCur m w ow (by omega) t.isa
 have C6 := Lib.hid fun w => fun (ow : m.Ok w) => rNow m w ow (by omega)
 have z1 := M.stS_len m.c m.xs m.ys m.h m.t
 have z2 := M.stn_len m.c m.xs m.ys m.h m.t
 generalize M.stS m.c m.xs m.ys m.h m.t = r at C1 C2 z1
 generalize M.stn m.c m.xs m.ys m.h m.t = s at C3 C4 z2
 generalize M.nw Is.M.dOp m.c m.xs = op at C5 C6
 generalize M.nw Is.M.dRd m.c m.xs = rd at C5 C6
 generalize M.nw Is.M.dRa m.c m.xs = ra at C5 C6
 generalize M.nw Is.M.dRb m.c m.xs = rb at C5 C6
 generalize M.nw Is.M.dImm m.c m.xs = imm at C5 C6
 generalize M.nowK m.c m.xs = k at C5 C6
 generalize M.nowV m.c m.xs = v at C5 C6
 have CS := Lib.hid fun (w : World) (r : M.SRes) (m1 m2 : Mc) (o1 : m1.Ok w) (o2 : m2.Ok w) (f1 : Sd r m1) (f2 : Sd r m2) (a : r.z.length ≤ 100000) (b : r.ys.length ≤ 100000) => rsame_s w o1 o2 f1 f2 rfl rfl rfl rfl rfl a b
 have a1 : r.z.length ≤ 100000 ∧ r.ys.length ≤ 100000 := by omega
 have a2 : s.z.length ≤ 100000 ∧ s.ys.length ≤ 100000 := by omega
 replace a1 := Lib.hid a1
 replace a2 := Lib.hid a2
 clear z1 z2
 have q0 := eqTrap_same r.k r.v
 have q1 := eqTrap_same s.k s.v
 have q2 := eqTrap_same k v
 have qI := eqI_same op rd ra rb imm
 have HD := Lib.hid (Dn.refl W)
 go_enter Tryz.func3, Tryz.ntmps3
 go_wp2_with (first | ((with_reducible refine wpList_box (vs := (mach m)) ?_ ?_ ?_); rfl; rfl; intro b_v1 w' nn; refine Hid.out ?_))
 refine Lib.hid ?_
 have d' := nn.dn
 replace HD := hT HD d'
 have v1 := nn.blk
 clear d' nn
 go_wp2_with (first | (go_at_call 9; (with_reducible refine (C0.out _ (T.dn HD.out)).mono ?_); rintro e w' ⟨rfl, d'⟩; refine Hid.out ?_))
 refine Lib.hid ?_
 replace v1 := v1.dn d'
 replace HD := hT HD d'
 clear d'
 go_wp2_with (first | ((with_reducible refine load33 v1 hl ?_ ?_ ?_); rfl; rfl) | (go_at_call 10; (with_reducible refine (CF.out _ (hm.dn HD.out)).mono ?_); rintro e w' ⟨rfl, d'⟩; refine Hid.out ?_))
 refine Lib.hid ?_
 replace v1 := v1.dn d'
 replace HD := hT HD d'
 clear d'
 go_wp2_with (first | ((with_reducible refine load33 v1 hl ?_ ?_ ?_); rfl; rfl) | (go_at_call 11; (with_reducible refine (C1.out _ (hm.dn HD.out) (T.dn HD.out)).mono ?_); rintro e w' ⟨m1, rfl, o_m1, e_m1, d'⟩; refine Hid.out ?_))
 refine Lib.hid ?_
 replace v1 := v1.dn d'
 replace HD := hT HD d'
 clear d'
 have l_m1 := o_m1.out.len
 have o_m1 := Lib.hid o_m1.out
 go_wp2_with (first | ((with_reducible refine wpList_alloc zeroMach ?_ ?_); rfl; intro b_v3 w' nn; refine Hid.out ?_))
 refine Lib.hid ?_
 have n_v1_v3 := Lib.hid (nn.ne _ v1.lt)
 have HL_v3 : Hid (W.heap.size ≤ b_v3) := Lib.hid (Blk.hi nn HD.out.size)
 have d' := nn.dn
 replace v1 := v1.dn d'
 replace o_m1 := Lib.hid (o_m1.out.dn d')
 replace HD := hT HD d'
 have v3 := nn.blk
 clear d' nn
 go_wp2_with (first | ((with_reducible refine wpList_alloc zeroTrap ?_ ?_); rfl; intro b_v4 w' nn; refine Hid.out ?_))
 refine Lib.hid ?_
 have n_v1_v4 := Lib.hid (nn.ne _ v1.lt)
 have n_v3_v4 := Lib.hid (nn.ne _ v3.lt)
 have HL_v4 : Hid (W.heap.size ≤ b_v4) := Lib.hid (Blk.hi nn HD.out.size)
 have d' := nn.dn
 replace v1 := v1.dn d'
 replace v3 := v3.dn d'
 replace o_m1 := Lib.hid (o_m1.out.dn d')
 replace HD := hT HD d'
 have v4 := nn.blk
 clear d' nn
 go_wp2_with (first | ((with_reducible refine store33 m1 l_m1 v3 zlen ?_ ?_ ?_ ?_); rfl; rfl; rfl; intro w' r' t'; refine Hid.out ?_))
 refine Lib.hid ?_
 replace o_m1 := Lib.hid (o_m1.out.trn v3 (NoU8.mach _) t')
 replace v1 := v1.trn t' n_v1_v3.out
 replace v4 := v4.trn t' n_v3_v4.out.symm
 replace HD := Lib.hid (HD.out.trn HL_v3.out t')
 clear t' v3
 have v3 := r'
 clear r'
 go_wp2_with (first | ((with_reducible refine storeTrap (k := r.k) (v := r.v) v4 ?_ ?_ ?_ ?_); rfl; rfl; rfl; intro w' r' t'; refine Hid.out ?_))
 refine Lib.hid ?_
 replace o_m1 := Lib.hid (o_m1.out.trn v4 (NoU8.trap _ _) t')
 replace v1 := v1.trn t' n_v1_v4.out
 replace v3 := v3.trn t' n_v3_v4.out
 replace HD := Lib.hid (HD.out.trn HL_v4.out t')
 clear t' v4
 have v4 := r'
 clear r'
 go_wp2_with (first | ((with_reducible refine load33 v1 hl ?_ ?_ ?_); rfl; rfl) | (go_at_call 12; (with_reducible refine (C2.out _ (hm.dn HD.out)).mono ?_); rintro e w' ⟨m2, rfl, o_m2, e_m2, d'⟩; refine Hid.out ?_))
 refine Lib.hid ?_
 replace v1 := v1.dn d'
 replace v3 := v3.dn d'
 replace v4 := v4.dn d'
 replace o_m1 := Lib.hid (o_m1.out.dn d')
 replace HD := hT HD d'
 clear d'
 have l_m2 := o_m2.out.len
 have o_m2 := Lib.hid o_m2.out
 go_wp2_with (first | ((with_reducible refine wpList_alloc zeroMach ?_ ?_); rfl; intro b_v5 w' nn; refine Hid.out ?_))
 refine Lib.hid ?_
 have n_v1_v5 := Lib.hid (nn.ne _ v1.lt)
 have n_v3_v5 := Lib.hid (nn.ne _ v3.lt)
 have n_v4_v5 := Lib.hid (nn.ne _ v4.lt)
 have HL_v5 : Hid (W.heap.size ≤ b_v5) := Lib.hid (Blk.hi nn HD.out.size)
 have d' := nn.dn
 replace v1 := v1.dn d'
 replace v3 := v3.dn d'
 replace v4 := v4.dn d'
 replace o_m1 := Lib.hid (o_m1.out.dn d')
 replace o_m2 := Lib.hid (o_m2.out.dn d')
 replace HD := hT HD d'
 have v5 := nn.blk
 clear d' nn
 go_wp2_with (first | ((with_reducible refine wpList_alloc zeroTrap ?_ ?_); rfl; intro b_v6 w' nn; refine Hid.out ?_))
 refine Lib.hid ?_
 have n_v1_v6 := Lib.hid (nn.ne _ v1.lt)
 have n_v3_v6 := Lib.hid (nn.ne _ v3.lt)
 have n_v4_v6 := Lib.hid (nn.ne _ v4.lt)
 have n_v5_v6 := Lib.hid (nn.ne _ v5.lt)
 have HL_v6 : Hid (W.heap.size ≤ b_v6) := Lib.hid (Blk.hi nn HD.out.size)
 have d' := nn.dn
 replace v1 := v1.dn d'
 replace v3 := v3.dn d'
 replace v4 := v4.dn d'
 replace v5 := v5.dn d'
 replace o_m1 := Lib.hid (o_m1.out.dn d')
 replace o_m2 := Lib.hid (o_m2.out.dn d')
 replace HD := hT HD d'
 have v6 := nn.blk
 clear d' nn
 go_wp2_with (first | ((with_reducible refine store33 m2 l_m2 v5 zlen ?_ ?_ ?_ ?_); rfl; rfl; rfl; intro w' r' t'; refine Hid.out ?_))
 refine Lib.hid ?_
 replace o_m1 := Lib.hid (o_m1.out.trn v5 (NoU8.mach _) t')
 replace o_m2 := Lib.hid (o_m2.out.trn v5 (NoU8.mach _) t')
 replace v1 := v1.trn t' n_v1_v5.out
 replace v3 := v3.trn t' n_v3_v5.out
 replace v4 := v4.trn t' n_v4_v5.out
 replace v6 := v6.trn t' n_v5_v6.out.symm
 replace HD := Lib.hid (HD.out.trn HL_v5.out t')
 clear t' v5
 have v5 := r'
 clear r'
 go_wp2_with (first | ((with_reducible refine storeTrap (k := r.k) (v := r.v) v6 ?_ ?_ ?_ ?_); rfl; rfl; rfl; intro w' r' t'; refine Hid.out ?_))
 refine Lib.hid ?_
 replace o_m1 := Lib.hid (o_m1.out.trn v6 (NoU8.trap _ _) t')
 replace o_m2 := Lib.hid (o_m2.out.trn v6 (NoU8.trap _ _) t')
 replace v1 := v1.trn t' n_v1_v6.out
 replace v3 := v3.trn t' n_v3_v6.out
 replace v4 := v4.trn t' n_v4_v6.out
 replace v5 := v5.trn t' n_v5_v6.out
 replace HD := Lib.hid (HD.out.trn HL_v6.out t')
 clear t' v6
 have v6 := r'
 clear r'
 go_wp2_with (first | ((with_reducible refine load33 v1 hl ?_ ?_ ?_); rfl; rfl) | (go_at_call 13; (with_reducible refine (C3.out _ (hm.dn HD.out) (T.dn HD.out)).mono ?_); rintro e w' ⟨m3, rfl, o_m3, e_m3, d'⟩; refine Hid.out ?_))
 refine Lib.hid ?_
 replace v1 := v1.dn d'
 replace v3 := v3.dn d'
 replace v4 := v4.dn d'
 replace v5 := v5.dn d'
 replace v6 := v6.dn d'
 replace o_m1 := Lib.hid (o_m1.out.dn d')
 replace o_m2 := Lib.hid (o_m2.out.dn d')
 replace HD := hT HD d'
 clear d'
 have l_m3 := o_m3.out.len
 have o_m3 := Lib.hid o_m3.out
 go_wp2_with (first | ((with_reducible refine wpList_alloc zeroMach ?_ ?_); rfl; intro b_v7 w' nn; refine Hid.out ?_))
 refine Lib.hid ?_
 have n_v1_v7 := Lib.hid (nn.ne _ v1.lt)
 have n_v3_v7 := Lib.hid (nn.ne _ v3.lt)
 have n_v4_v7 := Lib.hid (nn.ne _ v4.lt)
 have n_v5_v7 := Lib.hid (nn.ne _ v5.lt)
 have n_v6_v7 := Lib.hid (nn.ne _ v6.lt)
 have HL_v7 : Hid (W.heap.size ≤ b_v7) := Lib.hid (Blk.hi nn HD.out.size)
 have d' := nn.dn
 replace v1 := v1.dn d'
 replace v3 := v3.dn d'
 replace v4 := v4.dn d'
 replace v5 := v5.dn d'
 replace v6 := v6.dn d'
 replace o_m1 := Lib.hid (o_m1.out.dn d')
 replace o_m2 := Lib.hid (o_m2.out.dn d')
 replace o_m3 := Lib.hid (o_m3.out.dn d')
 replace HD := hT HD d'
 have v7 := nn.blk
 clear d' nn
 go_wp2_with (first | ((with_reducible refine wpList_alloc zeroTrap ?_ ?_); rfl; intro b_v8 w' nn; refine Hid.out ?_))
 refine Lib.hid ?_
 have n_v1_v8 := Lib.hid (nn.ne _ v1.lt)
 have n_v3_v8 := Lib.hid (nn.ne _ v3.lt)
 have n_v4_v8 := Lib.hid (nn.ne _ v4.lt)
 have n_v5_v8 := Lib.hid (nn.ne _ v5.lt)
 have n_v6_v8 := Lib.hid (nn.ne _ v6.lt)
 have n_v7_v8 := Lib.hid (nn.ne _ v7.lt)
 have HL_v8 : Hid (W.heap.size ≤ b_v8) := Lib.hid (Blk.hi nn HD.out.size)
 have d' := nn.dn
 replace v1 := v1.dn d'
 replace v3 := v3.dn d'
 replace v4 := v4.dn d'
 replace v5 := v5.dn d'
 replace v6 := v6.dn d'
 replace v7 := v7.dn d'
 replace o_m1 := Lib.hid (o_m1.out.dn d')
 replace o_m2 := Lib.hid (o_m2.out.dn d')
 replace o_m3 := Lib.hid (o_m3.out.dn d')
 replace HD := hT HD d'
 have v8 := nn.blk
 clear d' nn
 go_wp2_with (first | ((with_reducible refine store33 m3 l_m3 v7 zlen ?_ ?_ ?_ ?_); rfl; rfl; rfl; intro w' r' t'; refine Hid.out ?_))
 refine Lib.hid ?_
 replace o_m1 := Lib.hid (o_m1.out.trn v7 (NoU8.mach _) t')
 replace o_m2 := Lib.hid (o_m2.out.trn v7 (NoU8.mach _) t')
 replace o_m3 := Lib.hid (o_m3.out.trn v7 (NoU8.mach _) t')
 replace v1 := v1.trn t' n_v1_v7.out
 replace v3 := v3.trn t' n_v3_v7.out
 replace v4 := v4.trn t' n_v4_v7.out
 replace v5 := v5.trn t' n_v5_v7.out
 replace v6 := v6.trn t' n_v6_v7.out
 replace v8 := v8.trn t' n_v7_v8.out.symm
 replace HD := Lib.hid (HD.out.trn HL_v7.out t')
 clear t' v7
 have v7 := r'
 clear r'
 go_wp2_with (first | ((with_reducible refine storeTrap (k := s.k) (v := s.v) v8 ?_ ?_ ?_ ?_); rfl; rfl; rfl; intro w' r' t'; refine Hid.out ?_))
 refine Lib.hid ?_
 replace o_m1 := Lib.hid (o_m1.out.trn v8 (NoU8.trap _ _) t')
 replace o_m2 := Lib.hid (o_m2.out.trn v8 (NoU8.trap _ _) t')
 replace o_m3 := Lib.hid (o_m3.out.trn v8 (NoU8.trap _ _) t')
 replace v1 := v1.trn t' n_v1_v8.out
 replace v3 := v3.trn t' n_v3_v8.out
 replace v4 := v4.trn t' n_v4_v8.out
 replace v5 := v5.trn t' n_v5_v8.out
 replace v6 := v6.trn t' n_v6_v8.out
 replace v7 := v7.trn t' n_v7_v8.out
 replace HD := Lib.hid (HD.out.trn HL_v8.out t')
 clear t' v8
 have v8 := r'
 clear r'
 go_wp2_with (first | ((with_reducible refine load33 v1 hl ?_ ?_ ?_); rfl; rfl) | (go_at_call 14; (with_reducible refine (C4.out _ (hm.dn HD.out)).mono ?_); rintro e w' ⟨m4, rfl, o_m4, e_m4, d'⟩; refine Hid.out ?_))
 refine Lib.hid ?_
 replace v1 := v1.dn d'
 replace v3 := v3.dn d'
 replace v4 := v4.dn d'
 replace v5 := v5.dn d'
 replace v6 := v6.dn d'
 replace v7 := v7.dn d'
 replace v8 := v8.dn d'
 replace o_m1 := Lib.hid (o_m1.out.dn d')
 replace o_m2 := Lib.hid (o_m2.out.dn d')
 replace o_m3 := Lib.hid (o_m3.out.dn d')
 replace HD := hT HD d'
 clear d'
 have l_m4 := o_m4.out.len
 have o_m4 := Lib.hid o_m4.out
 go_wp2_with (first | ((with_reducible refine wpList_alloc zeroMach ?_ ?_); rfl; intro b_v9 w' nn; refine Hid.out ?_))
 refine Lib.hid ?_
 have n_v1_v9 := Lib.hid (nn.ne _ v1.lt)
 have n_v3_v9 := Lib.hid (nn.ne _ v3.lt)
 have n_v4_v9 := Lib.hid (nn.ne _ v4.lt)
 have n_v5_v9 := Lib.hid (nn.ne _ v5.lt)
 have n_v6_v9 := Lib.hid (nn.ne _ v6.lt)
 have n_v7_v9 := Lib.hid (nn.ne _ v7.lt)
 have n_v8_v9 := Lib.hid (nn.ne _ v8.lt)
 have HL_v9 : Hid (W.heap.size ≤ b_v9) := Lib.hid (Blk.hi nn HD.out.size)
 have d' := nn.dn
 replace v1 := v1.dn d'
 replace v3 := v3.dn d'
 replace v4 := v4.dn d'
 replace v5 := v5.dn d'
 replace v6 := v6.dn d'
 replace v7 := v7.dn d'
 replace v8 := v8.dn d'
 replace o_m1 := Lib.hid (o_m1.out.dn d')
 replace o_m2 := Lib.hid (o_m2.out.dn d')
 replace o_m3 := Lib.hid (o_m3.out.dn d')
 replace o_m4 := Lib.hid (o_m4.out.dn d')
 replace HD := hT HD d'
 have v9 := nn.blk
 clear d' nn
 go_wp2_with (first | ((with_reducible refine wpList_alloc zeroTrap ?_ ?_); rfl; intro b_v10 w' nn; refine Hid.out ?_))
 refine Lib.hid ?_
 have n_v1_v10 := Lib.hid (nn.ne _ v1.lt)
 have n_v3_v10 := Lib.hid (nn.ne _ v3.lt)
 have n_v4_v10 := Lib.hid (nn.ne _ v4.lt)
 have n_v5_v10 := Lib.hid (nn.ne _ v5.lt)
 have n_v6_v10 := Lib.hid (nn.ne _ v6.lt)
 have n_v7_v10 := Lib.hid (nn.ne _ v7.lt)
 have n_v8_v10 := Lib.hid (nn.ne _ v8.lt)
 have n_v9_v10 := Lib.hid (nn.ne _ v9.lt)
 have HL_v10 : Hid (W.heap.size ≤ b_v10) := Lib.hid (Blk.hi nn HD.out.size)
 have d' := nn.dn
 replace v1 := v1.dn d'
 replace v3 := v3.dn d'
 replace v4 := v4.dn d'
 replace v5 := v5.dn d'
 replace v6 := v6.dn d'
 replace v7 := v7.dn d'
 replace v8 := v8.dn d'
 replace v9 := v9.dn d'
 replace o_m1 := Lib.hid (o_m1.out.dn d')
 replace o_m2 := Lib.hid (o_m2.out.dn d')
 replace o_m3 := Lib.hid (o_m3.out.dn d')
 replace o_m4 := Lib.hid (o_m4.out.dn d')
 replace HD := hT HD d'
 have v10 := nn.blk
 clear d' nn
 go_wp2_with (first | ((with_reducible refine store33 m4 l_m4 v9 zlen ?_ ?_ ?_ ?_); rfl; rfl; rfl; intro w' r' t'; refine Hid.out ?_))
 refine Lib.hid ?_
 replace o_m1 := Lib.hid (o_m1.out.trn v9 (NoU8.mach _) t')
 replace o_m2 := Lib.hid (o_m2.out.trn v9 (NoU8.mach _) t')
 replace o_m3 := Lib.hid (o_m3.out.trn v9 (NoU8.mach _) t')
 replace o_m4 := Lib.hid (o_m4.out.trn v9 (NoU8.mach _) t')
 replace v1 := v1.trn t' n_v1_v9.out
 replace v3 := v3.trn t' n_v3_v9.out
 replace v4 := v4.trn t' n_v4_v9.out
 replace v5 := v5.trn t' n_v5_v9.out
 replace v6 := v6.trn t' n_v6_v9.out
 replace v7 := v7.trn t' n_v7_v9.out
 replace v8 := v8.trn t' n_v8_v9.out
 replace v10 := v10.trn t' n_v9_v10.out.symm
 replace HD := Lib.hid (HD.out.trn HL_v9.out t')
 clear t' v9
 have v9 := r'
 clear r'
 go_wp2_with (first | ((with_reducible refine storeTrap (k := s.k) (v := s.v) v10 ?_ ?_ ?_ ?_); rfl; rfl; rfl; intro w' r' t'; refine Hid.out ?_))
 refine Lib.hid ?_
 replace o_m1 := Lib.hid (o_m1.out.trn v10 (NoU8.trap _ _) t')
 replace o_m2 := Lib.hid (o_m2.out.trn v10 (NoU8.trap _ _) t')
 replace o_m3 := Lib.hid (o_m3.out.trn v10 (NoU8.trap _ _) t')
 replace o_m4 := Lib.hid (o_m4.out.trn v10 (NoU8.trap _ _) t')
 replace v1 := v1.trn t' n_v1_v10.out
 replace v3 := v3.trn t' n_v3_v10.out
 replace v4 := v4.trn t' n_v4_v10.out
 replace v5 := v5.trn t' n_v5_v10.out
 replace v6 := v6.trn t' n_v6_v10.out
 replace v7 := v7.trn t' n_v7_v10.out
 replace v8 := v8.trn t' n_v8_v10.out
 replace v9 := v9.trn t' n_v9_v10.out
 replace HD := Lib.hid (HD.out.trn HL_v10.out t')
 clear t' v10
 have v10 := r'
 clear r'
 go_wp2_with (first | ((with_reducible refine load33 v1 hl ?_ ?_ ?_); rfl; rfl) | (go_at_call 15; (with_reducible refine (C5.out _ (hm.dn HD.out) (T.dn HD.out)).mono ?_); rintro e w' ⟨rfl, d'⟩; refine Hid.out ?_))
 refine Lib.hid ?_
 replace v1 := v1.dn d'
 replace v3 := v3.dn d'
 replace v4 := v4.dn d'
 replace v5 := v5.dn d'
 replace v6 := v6.dn d'
 replace v7 := v7.dn d'
 replace v8 := v8.dn d'
 replace v9 := v9.dn d'
 replace v10 := v10.dn d'
 replace o_m1 := Lib.hid (o_m1.out.dn d')
 replace o_m2 := Lib.hid (o_m2.out.dn d')
 replace o_m3 := Lib.hid (o_m3.out.dn d')
 replace o_m4 := Lib.hid (o_m4.out.dn d')
 replace HD := hT HD d'
 clear d'
 go_wp2_with (first | ((with_reducible refine wpList_alloc zeroI ?_ ?_); rfl; intro b_v11 w' nn; refine Hid.out ?_))
 refine Lib.hid ?_
 have n_v1_v11 := Lib.hid (nn.ne _ v1.lt)
 have n_v3_v11 := Lib.hid (nn.ne _ v3.lt)
 have n_v4_v11 := Lib.hid (nn.ne _ v4.lt)
 have n_v5_v11 := Lib.hid (nn.ne _ v5.lt)
 have n_v6_v11 := Lib.hid (nn.ne _ v6.lt)
 have n_v7_v11 := Lib.hid (nn.ne _ v7.lt)
 have n_v8_v11 := Lib.hid (nn.ne _ v8.lt)
 have n_v9_v11 := Lib.hid (nn.ne _ v9.lt)
 have n_v10_v11 := Lib.hid (nn.ne _ v10.lt)
 have HL_v11 : Hid (W.heap.size ≤ b_v11) := Lib.hid (Blk.hi nn HD.out.size)
 have d' := nn.dn
 replace v1 := v1.dn d'
 replace v3 := v3.dn d'
 replace v4 := v4.dn d'
 replace v5 := v5.dn d'
 replace v6 := v6.dn d'
 replace v7 := v7.dn d'
 replace v8 := v8.dn d'
 replace v9 := v9.dn d'
 replace v10 := v10.dn d'
 replace o_m1 := Lib.hid (o_m1.out.dn d')
 replace o_m2 := Lib.hid (o_m2.out.dn d')
 replace o_m3 := Lib.hid (o_m3.out.dn d')
 replace o_m4 := Lib.hid (o_m4.out.dn d')
 replace HD := hT HD d'
 have v11 := nn.blk
 clear d' nn
 go_wp2_with (first | ((with_reducible refine wpList_alloc zeroTrap ?_ ?_); rfl; intro b_v12 w' nn; refine Hid.out ?_))
 refine Lib.hid ?_
 have n_v1_v12 := Lib.hid (nn.ne _ v1.lt)
 have n_v3_v12 := Lib.hid (nn.ne _ v3.lt)
 have n_v4_v12 := Lib.hid (nn.ne _ v4.lt)
 have n_v5_v12 := Lib.hid (nn.ne _ v5.lt)
 have n_v6_v12 := Lib.hid (nn.ne _ v6.lt)
 have n_v7_v12 := Lib.hid (nn.ne _ v7.lt)
 have n_v8_v12 := Lib.hid (nn.ne _ v8.lt)
 have n_v9_v12 := Lib.hid (nn.ne _ v9.lt)
 have n_v10_v12 := Lib.hid (nn.ne _ v10.lt)
 have n_v11_v12 := Lib.hid (nn.ne _ v11.lt)
 have HL_v12 : Hid (W.heap.size ≤ b_v12) := Lib.hid (Blk.hi nn HD.out.size)
 have d' := nn.dn
 replace v1 := v1.dn d'
 replace v3 := v3.dn d'
 replace v4 := v4.dn d'
 replace v5 := v5.dn d'
 replace v6 := v6.dn d'
 replace v7 := v7.dn d'
 replace v8 := v8.dn d'
 replace v9 := v9.dn d'
 replace v10 := v10.dn d'
 replace v11 := v11.dn d'
 replace o_m1 := Lib.hid (o_m1.out.dn d')
 replace o_m2 := Lib.hid (o_m2.out.dn d')
 replace o_m3 := Lib.hid (o_m3.out.dn d')
 replace o_m4 := Lib.hid (o_m4.out.dn d')
 replace HD := hT HD d'
 have v12 := nn.blk
 clear d' nn
 go_wp2_with (first | ((with_reducible refine storeI (op := op) (rd := rd) (ra := ra) (rb := rb) (imm := imm) v11 ?_ ?_ ?_ ?_); rfl; rfl; rfl; intro w' r' t'; refine Hid.out ?_))
 refine Lib.hid ?_
 replace o_m1 := Lib.hid (o_m1.out.trn v11 (NoU8.ins _ _ _ _ _) t')
 replace o_m2 := Lib.hid (o_m2.out.trn v11 (NoU8.ins _ _ _ _ _) t')
 replace o_m3 := Lib.hid (o_m3.out.trn v11 (NoU8.ins _ _ _ _ _) t')
 replace o_m4 := Lib.hid (o_m4.out.trn v11 (NoU8.ins _ _ _ _ _) t')
 replace v1 := v1.trn t' n_v1_v11.out
 replace v3 := v3.trn t' n_v3_v11.out
 replace v4 := v4.trn t' n_v4_v11.out
 replace v5 := v5.trn t' n_v5_v11.out
 replace v6 := v6.trn t' n_v6_v11.out
 replace v7 := v7.trn t' n_v7_v11.out
 replace v8 := v8.trn t' n_v8_v11.out
 replace v9 := v9.trn t' n_v9_v11.out
 replace v10 := v10.trn t' n_v10_v11.out
 replace v12 := v12.trn t' n_v11_v12.out.symm
 replace HD := Lib.hid (HD.out.trn HL_v11.out t')
 clear t' v11
 have v11 := r'
 clear r'
 go_wp2_with (first | ((with_reducible refine storeTrap (k := k) (v := v) v12 ?_ ?_ ?_ ?_); rfl; rfl; rfl; intro w' r' t'; refine Hid.out ?_))
 refine Lib.hid ?_
 replace o_m1 := Lib.hid (o_m1.out.trn v12 (NoU8.trap _ _) t')
 replace o_m2 := Lib.hid (o_m2.out.trn v12 (NoU8.trap _ _) t')
 replace o_m3 := Lib.hid (o_m3.out.trn v12 (NoU8.trap _ _) t')
 replace o_m4 := Lib.hid (o_m4.out.trn v12 (NoU8.trap _ _) t')
 replace v1 := v1.trn t' n_v1_v12.out
 replace v3 := v3.trn t' n_v3_v12.out
 replace v4 := v4.trn t' n_v4_v12.out
 replace v5 := v5.trn t' n_v5_v12.out
 replace v6 := v6.trn t' n_v6_v12.out
 replace v7 := v7.trn t' n_v7_v12.out
 replace v8 := v8.trn t' n_v8_v12.out
 replace v9 := v9.trn t' n_v9_v12.out
 replace v10 := v10.trn t' n_v10_v12.out
 replace v11 := v11.trn t' n_v11_v12.out
 replace HD := Lib.hid (HD.out.trn HL_v12.out t')
 clear t' v12
 have v12 := r'
 clear r'
 go_wp2_with (first | ((with_reducible refine load33 v1 hl ?_ ?_ ?_); rfl; rfl) | (go_at_call 16; (with_reducible refine (C6.out _ (hm.dn HD.out)).mono ?_); rintro e w' ⟨rfl, d'⟩; refine Hid.out ?_))
 refine Lib.hid ?_
 replace v1 := v1.dn d'
 replace v3 := v3.dn d'
 replace v4 := v4.dn d'
 replace v5 := v5.dn d'
 replace v6 := v6.dn d'
 replace v7 := v7.dn d'
 replace v8 := v8.dn d'
 replace v9 := v9.dn d'
 replace v10 := v10.dn d'
 replace v11 := v11.dn d'
 replace v12 := v12.dn d'
 replace o_m1 := Lib.hid (o_m1.out.dn d')
 replace o_m2 := Lib.hid (o_m2.out.dn d')
 replace o_m3 := Lib.hid (o_m3.out.dn d')
 replace o_m4 := Lib.hid (o_m4.out.dn d')
 replace HD := hT HD d'
 clear d'
 go_wp2_with (first | ((with_reducible refine wpList_alloc zeroI ?_ ?_); rfl; intro b_v13 w' nn; refine Hid.out ?_))
 refine Lib.hid ?_
 have n_v1_v13 := Lib.hid (nn.ne _ v1.lt)
 have n_v3_v13 := Lib.hid (nn.ne _ v3.lt)
 have n_v4_v13 := Lib.hid (nn.ne _ v4.lt)
 have n_v5_v13 := Lib.hid (nn.ne _ v5.lt)
 have n_v6_v13 := Lib.hid (nn.ne _ v6.lt)
 have n_v7_v13 := Lib.hid (nn.ne _ v7.lt)
 have n_v8_v13 := Lib.hid (nn.ne _ v8.lt)
 have n_v9_v13 := Lib.hid (nn.ne _ v9.lt)
 have n_v10_v13 := Lib.hid (nn.ne _ v10.lt)
 have n_v11_v13 := Lib.hid (nn.ne _ v11.lt)
 have n_v12_v13 := Lib.hid (nn.ne _ v12.lt)
 have HL_v13 : Hid (W.heap.size ≤ b_v13) := Lib.hid (Blk.hi nn HD.out.size)
 have d' := nn.dn
 replace v1 := v1.dn d'
 replace v3 := v3.dn d'
 replace v4 := v4.dn d'
 replace v5 := v5.dn d'
 replace v6 := v6.dn d'
 replace v7 := v7.dn d'
 replace v8 := v8.dn d'
 replace v9 := v9.dn d'
 replace v10 := v10.dn d'
 replace v11 := v11.dn d'
 replace v12 := v12.dn d'
 replace o_m1 := Lib.hid (o_m1.out.dn d')
 replace o_m2 := Lib.hid (o_m2.out.dn d')
 replace o_m3 := Lib.hid (o_m3.out.dn d')
 replace o_m4 := Lib.hid (o_m4.out.dn d')
 replace HD := hT HD d'
 have v13 := nn.blk
 clear d' nn
 go_wp2_with (first | ((with_reducible refine wpList_alloc zeroTrap ?_ ?_); rfl; intro b_v14 w' nn; refine Hid.out ?_))
 refine Lib.hid ?_
 have n_v1_v14 := Lib.hid (nn.ne _ v1.lt)
 have n_v3_v14 := Lib.hid (nn.ne _ v3.lt)
 have n_v4_v14 := Lib.hid (nn.ne _ v4.lt)
 have n_v5_v14 := Lib.hid (nn.ne _ v5.lt)
 have n_v6_v14 := Lib.hid (nn.ne _ v6.lt)
 have n_v7_v14 := Lib.hid (nn.ne _ v7.lt)
 have n_v8_v14 := Lib.hid (nn.ne _ v8.lt)
 have n_v9_v14 := Lib.hid (nn.ne _ v9.lt)
 have n_v10_v14 := Lib.hid (nn.ne _ v10.lt)
 have n_v11_v14 := Lib.hid (nn.ne _ v11.lt)
 have n_v12_v14 := Lib.hid (nn.ne _ v12.lt)
 have n_v13_v14 := Lib.hid (nn.ne _ v13.lt)
 have HL_v14 : Hid (W.heap.size ≤ b_v14) := Lib.hid (Blk.hi nn HD.out.size)
 have d' := nn.dn
 replace v1 := v1.dn d'
 replace v3 := v3.dn d'
 replace v4 := v4.dn d'
 replace v5 := v5.dn d'
 replace v6 := v6.dn d'
 replace v7 := v7.dn d'
 replace v8 := v8.dn d'
 replace v9 := v9.dn d'
 replace v10 := v10.dn d'
 replace v11 := v11.dn d'
 replace v12 := v12.dn d'
 replace v13 := v13.dn d'
 replace o_m1 := Lib.hid (o_m1.out.dn d')
 replace o_m2 := Lib.hid (o_m2.out.dn d')
 replace o_m3 := Lib.hid (o_m3.out.dn d')
 replace o_m4 := Lib.hid (o_m4.out.dn d')
 replace HD := hT HD d'
 have v14 := nn.blk
 clear d' nn
 go_wp2_with (first | ((with_reducible refine storeI (op := op) (rd := rd) (ra := ra) (rb := rb) (imm := imm) v13 ?_ ?_ ?_ ?_); rfl; rfl; rfl; intro w' r' t'; refine Hid.out ?_))
 refine Lib.hid ?_
 replace o_m1 := Lib.hid (o_m1.out.trn v13 (NoU8.ins _ _ _ _ _) t')
 replace o_m2 := Lib.hid (o_m2.out.trn v13 (NoU8.ins _ _ _ _ _) t')
 replace o_m3 := Lib.hid (o_m3.out.trn v13 (NoU8.ins _ _ _ _ _) t')
 replace o_m4 := Lib.hid (o_m4.out.trn v13 (NoU8.ins _ _ _ _ _) t')
 replace v1 := v1.trn t' n_v1_v13.out
 replace v3 := v3.trn t' n_v3_v13.out
 replace v4 := v4.trn t' n_v4_v13.out
 replace v5 := v5.trn t' n_v5_v13.out
 replace v6 := v6.trn t' n_v6_v13.out
 replace v7 := v7.trn t' n_v7_v13.out
 replace v8 := v8.trn t' n_v8_v13.out
 replace v9 := v9.trn t' n_v9_v13.out
 replace v10 := v10.trn t' n_v10_v13.out
 replace v11 := v11.trn t' n_v11_v13.out
 replace v12 := v12.trn t' n_v12_v13.out
 replace v14 := v14.trn t' n_v13_v14.out.symm
 replace HD := Lib.hid (HD.out.trn HL_v13.out t')
 clear t' v13
 have v13 := r'
 clear r'
 go_wp2_with (first | ((with_reducible refine storeTrap (k := k) (v := v) v14 ?_ ?_ ?_ ?_); rfl; rfl; rfl; intro w' r' t'; refine Hid.out ?_))
 refine Lib.hid ?_
 replace o_m1 := Lib.hid (o_m1.out.trn v14 (NoU8.trap _ _) t')
 replace o_m2 := Lib.hid (o_m2.out.trn v14 (NoU8.trap _ _) t')
 replace o_m3 := Lib.hid (o_m3.out.trn v14 (NoU8.trap _ _) t')
 replace o_m4 := Lib.hid (o_m4.out.trn v14 (NoU8.trap _ _) t')
 replace v1 := v1.trn t' n_v1_v14.out
 replace v3 := v3.trn t' n_v3_v14.out
 replace v4 := v4.trn t' n_v4_v14.out
 replace v5 := v5.trn t' n_v5_v14.out
 replace v6 := v6.trn t' n_v6_v14.out
 replace v7 := v7.trn t' n_v7_v14.out
 replace v8 := v8.trn t' n_v8_v14.out
 replace v9 := v9.trn t' n_v9_v14.out
 replace v10 := v10.trn t' n_v10_v14.out
 replace v11 := v11.trn t' n_v11_v14.out
 replace v12 := v12.trn t' n_v12_v14.out
 replace v13 := v13.trn t' n_v13_v14.out
 replace HD := Lib.hid (HD.out.trn HL_v14.out t')
 clear t' v14
 have v14 := r'
 clear r'
 go_wp2_with (first | ((with_reducible refine load33 v3 l_m1 ?_ ?_ ?_); rfl; rfl) | ((with_reducible refine load33 v5 l_m2 ?_ ?_ ?_); rfl; rfl) | (go_at_call 17; (with_reducible refine (CS.out _ r m1 m2 o_m1.out o_m2.out e_m1.out e_m2.out a1.out.1 a1.out.2).mono ?_); rintro e w' ⟨rfl, d'⟩; refine Hid.out ?_))
 refine Lib.hid ?_
 replace v1 := v1.dn d'
 replace v3 := v3.dn d'
 replace v4 := v4.dn d'
 replace v5 := v5.dn d'
 replace v6 := v6.dn d'
 replace v7 := v7.dn d'
 replace v8 := v8.dn d'
 replace v9 := v9.dn d'
 replace v10 := v10.dn d'
 replace v11 := v11.dn d'
 replace v12 := v12.dn d'
 replace v13 := v13.dn d'
 replace v14 := v14.dn d'
 replace o_m1 := Lib.hid (o_m1.out.dn d')
 replace o_m2 := Lib.hid (o_m2.out.dn d')
 replace o_m3 := Lib.hid (o_m3.out.dn d')
 replace o_m4 := Lib.hid (o_m4.out.dn d')
 replace HD := hT HD d'
 clear d'
 go_wp2_with (first | ((with_reducible refine loadTrap v4 ?_ ?_ ?_); rfl; rfl) | ((with_reducible refine loadTrap v6 ?_ ?_ ?_); rfl; rfl) | ((with_reducible refine load33 v7 l_m3 ?_ ?_ ?_); rfl; rfl) | ((with_reducible refine load33 v9 l_m4 ?_ ?_ ?_); rfl; rfl) | (go_at_call 17; (with_reducible refine (CS.out _ s m3 m4 o_m3.out o_m4.out e_m3.out e_m4.out a2.out.1 a2.out.2).mono ?_); rintro e w' ⟨rfl, d'⟩; refine Hid.out ?_))
 refine Lib.hid ?_
 replace v1 := v1.dn d'
 replace v3 := v3.dn d'
 replace v4 := v4.dn d'
 replace v5 := v5.dn d'
 replace v6 := v6.dn d'
 replace v7 := v7.dn d'
 replace v8 := v8.dn d'
 replace v9 := v9.dn d'
 replace v10 := v10.dn d'
 replace v11 := v11.dn d'
 replace v12 := v12.dn d'
 replace v13 := v13.dn d'
 replace v14 := v14.dn d'
 replace o_m1 := Lib.hid (o_m1.out.dn d')
 replace o_m2 := Lib.hid (o_m2.out.dn d')
 replace o_m3 := Lib.hid (o_m3.out.dn d')
 replace o_m4 := Lib.hid (o_m4.out.dn d')
 replace HD := hT HD d'
 clear d'
 go_wp2_with (first | ((with_reducible refine loadTrap v8 ?_ ?_ ?_); rfl; rfl) | ((with_reducible refine loadTrap v10 ?_ ?_ ?_); rfl; rfl) | ((with_reducible refine loadI v11 ?_ ?_ ?_); rfl; rfl) | ((with_reducible refine loadI v13 ?_ ?_ ?_); rfl; rfl) | ((with_reducible refine loadTrap v12 ?_ ?_ ?_); rfl; rfl) | ((with_reducible refine loadTrap v14 ?_ ?_ ?_); rfl; rfl) | fail)
 go_ret
 exact ⟨rfl, HD.out⟩
theorem smrWalk (m : Mc) (W : World) (hm : m.Ok W) (T : Env2 W) (hx : m.xs.length ≤ 9223372036854775807) (hy : m.ys.length ≤ 9223372036854775807) : Calls Tryz.prog 3 #[.agg (mach m)] W fun e W' => e = .returned (.bool true) ∧ Dn W W' := by
 cases hf : decide (m.xs.length ≤ 600 ∧ m.ys.length ≤ 600)
 · exact smr_few m W hm T hx hy hf
 · exact smr_main m W hm T hx hy hf
end Go.Proofs.YtjbnflalngjfaaaGreatDoor
namespace Go.Proofs.YtjbnflalngjfaaaGreatDoor.stepMatchesReference
open Go.ChangeShapes Go.WideShapes Go.ChangeAt Go.RowKit
set_option linter.unusedVariables false


theorem readable : ∀ t ∈ Tryz.f3.params.toList, Tryz.prog.readableRec t = true ∧ t < Tryz.prog.types.size := by
 rw [Tryz.params3]
 intro t ht
 have hall : ([30].all fun t => Tryz.prog.readableRec t && decide (t < Tryz.prog.types.size)) = true := by kernel_rfl
 have h := List.all_eq_true.1 hall t ht
 simp only [Bool.and_eq_true, decide_eq_true_eq] at h
 exact h

theorem said (H : Type) (ds : List (DataW H)) (hl : ds.length = Tryz.f3.params.size) : (Rows.stepMatchesReferenceSpec.fn H ds).results = [.lit (.bool true)] ∧ (Rows.stepMatchesReferenceSpec.fn H ds).args = ds ∧ (Rows.stepMatchesReferenceSpec.fn H ds).vars = [] := by
 rw [Tryz.params3] at hl
 match ds, hl with
 | [d0], _ => exact ⟨rfl, rfl, rfl⟩

set_option maxRecDepth 100000 in
theorem walk {H : Type} {enc : TypeId × Value → H} (W : World) (base : Nat) (args : Array Value) (ds : List (DataW H)) (ps : List MemPlace) (E : Env W)
   (hval : ∀ (j : Nat) t v, Tryz.f3.params[j]? = some t → args[j]? = some v → Value.okWide Tryz.prog W .any base t v)
   (hA : DataW.TrodAll enc Tryz.prog W 0 (fun _ => true) true Tryz.f3.params.toList args.toList ds ps) :
   Calls Tryz.prog 3 args W fun e W' => e = .returned (.bool true) ∧ Dn W W' := by
 rw [Tryz.params3] at hA hval
 obtain ⟨v0, vs0, d0, ds0, p0, q0, hargs, rfl, rfl, h0, r0⟩ := trodAll_cons hA
 obtain ⟨rfl, rfl, rfl⟩ := trodAll_nil r0
 obtain rfl : args = #[v0] := by cases args; simp_all
 obtain ⟨m0, rfl, o0, l0, y0⟩ := open33 (hval 0 30 v0 rfl rfl) h0
 exact smrWalk m0 W o0 E.two  l0 y0  

set_option maxRecDepth 100000 in
theorem lifted (os : Os) (started : os.Started) (H : Type) (enc : TypeId × Value → H) :
   ReturnsInHanded {} Tryz.checked os 3 .any (fun w args => (Rows.stepMatchesReferenceSpec.pre enc Tryz.prog Tryz.f3 [] false w args ∧ laidMetH Tryz.prog laidL w) ∧ sizedMet enc Tryz.prog Tryz.f3 (OpenSpec.ofChange Rows.stepMatchesReferenceSpec) false w args)
     (Rows.stepMatchesReferenceSpec.post enc Tryz.prog Tryz.f3 false true false false) :=
 returns_of_walk (C := Tryz.checked) rfl own started (by kernel_rfl) Tryz.func3 rfl readable (by kernel_rfl) said
   (ChangeSpec.witness_shaped (enc := enc) (C := Tryz.checked) (os := os) (X := fun w _ => laidMetH Tryz.prog laidL w) false (World.laidAll Tryz.prog os laidL) #[.agg #[.int .u32 0, .int .u32 0, .int .u32 0, .int .u32 0, .int .u32 0, .int .u32 0, .int .u32 0, .int .u32 0, .int .u32 0, .int .u32 0, .int .u32 0, .int .u32 0, .int .u32 0, .int .u32 0, .int .u32 0, .int .u32 0, .int .u32 0, .int .u32 0, .int .u32 0, .int .u32 0, .int .u32 0, .int .u32 0, .int .u32 0, .int .u32 0, .int .u32 0, .int .u32 0, .int .u32 0, .int .u32 0, .int .u32 0, .slice none 0 0, .int .u64 0, .slice none 0 0, .bool false]] 8 (World.laidAll_os _ _ _)
     (start_shaped os _) (by kernel_rfl) (by kernel_rfl) (by kernel_rfl) (start_met os _)) walk

theorem over : Rows.StepMatchesReferenceSaid :=
 OpenClaim.holds_of_wide 3 Tryz.f3 rfl rfl rfl rfl rfl rfl rfl ⟨rfl, rfl, rfl, rfl, rfl⟩ rfl rfl rfl rfl rfl (by kernel_rfl) Tryz.func3 (by kernel_rfl)
   (of_decide_eq_true (by kernel_rfl)) (by unfold Func.isWrapper; first | (rw [if_pos (by decide +kernel)]; kernel_rfl) | (rw [if_neg (by decide +kernel)]; exact ⟨rfl, rfl⟩))
   (fun os started H enc _ => lifted os started H enc)

theorem proved : Rows.StepMatchesReferenceCardSaid :=
 Claim7.holds_tied_plain_at .later [] [.data, .data, .data] true (true, "8ffe0c46f9e92efb28c84b61b42d6714ec4442e8e8d9bdcf048d53b195bf4d9d") false
   over (fun _ h => by cases h) (by kernel_rfl) (fun _ h => by cases h) stepMatchesReference_row_tie rfl ⟨rfl, rfl⟩ (by kernel_rfl) rfl
   (fun f fn hf hfn => by
     obtain rfl : f = 3 := Option.some.inj ((show Tryz.prog.funcNamed "gaoler/gaolerlaw13.StepMatchesReference" = some 3 by kernel_rfl).symm.trans hf) |>.symm
     obtain rfl : fn = Tryz.f3 := (Option.some.inj (Tryz.func3.symm.trans hfn)).symm
     exact ⟨by kernel_rfl, fun j t ht => by
       rw [Tryz.params3] at ht
       have hm : t ∈ [30] := by simpa using Array.mem_of_getElem? ht
       have hall : ([30].all fun u => !Tryz.prog.wantsStandIn u) = true := by kernel_rfl
       exact (show Tryz.prog.wantsStandIn t = false by simpa using List.all_eq_true.1 hall t hm)⟩)
   (by kernel_rfl)
#print axioms proved
end Go.Proofs.YtjbnflalngjfaaaGreatDoor.stepMatchesReference
