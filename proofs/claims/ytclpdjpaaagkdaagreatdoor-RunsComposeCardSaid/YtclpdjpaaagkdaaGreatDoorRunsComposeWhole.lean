/-
  The law RunsCompose of the law package returns true at every input, and each argument reads as it did; conditions: the listed package variables hold what the program's text lays there (the card ties them to it).
-/
import Derived.Test.YtclpdjpaaagkdaaGreatDoorCards
import Derived.Test.YtclpdjpaaagkdaaGreatDoorTie
import Derived.Test.YtclpdjpaaagkdaaGreatDoorPmJ
import Derived.Test.YtclpdjpaaagkdaaGreatDoorPmW
import Derived.Test.YtclpdjpaaagkdaaGreatDoorPmG
namespace Go.Proofs.YtclpdjpaaagkdaaGreatDoor
open Go.ChangeShapes Go.WideShapes Go.ChangeAt Go.RowKit Go.Sort
set_option linter.unusedVariables false

set_option maxRecDepth 100000 in
set_option maxHeartbeats 2000000 in
theorem rco_few (m : Mc) (W : World) (hm : m.Ok W) (T : Env2 W) (hx : m.xs.length ≤ 9223372036854775807) (hy : m.ys.length ≤ 9223372036854775807) (n k : Int) (n0 : 0 ≤ n) (n1 : n < 256) (k0 : 0 ≤ k) (k1 : k < 256) (hf : decide (m.xs.length ≤ 600 ∧ m.ys.length ≤ 600) = false) :
   Calls Tryz.prog 4 #[.agg (mach m), .int .u8 n, .int .u8 k] W fun e W' => e = .returned (.bool true) ∧ Dn W W' := by
 have C0 := Lib.hid fun w => fun (t : Env2 w) => awakeR w t
 have CF := Lib.hid fun w => fun (ow : m.Ok w) => rfew m false w ow hx hy hf
 clear hf
 have HD := Lib.hid (Dn.refl W)
 go_enter Tryz.func4, Tryz.ntmps4
 go_wp2_with (first | ((with_reducible refine wpList_box (vs := (mach m)) ?_ ?_ ?_); rfl; rfl; intro b_v3 w' nn; refine Hid.out ?_))
 refine Lib.hid ?_
 have d' := nn.dn
 replace HD := hT HD d'
 have v3 := nn.blk
 clear d' nn
 go_wp2_with (first | (go_at_call 8; (with_reducible refine (C0.out _ (T.dn HD.out)).mono ?_); rintro e w' ⟨rfl, d'⟩; refine Hid.out ?_))
 refine Lib.hid ?_
 replace v3 := v3.dn d'
 replace HD := hT HD d'
 clear d'
 go_wp2_with (first | ((with_reducible refine load33 v3 hm.len ?_ ?_ ?_); rfl; rfl) | (go_at_call 9; (with_reducible refine (CF.out _ (hm.dn HD.out)).mono ?_); rintro e w' ⟨rfl, d'⟩; refine Hid.out ?_))
 refine Lib.hid ?_
 replace v3 := v3.dn d'
 replace HD := hT HD d'
 clear d'
 go_wp2_with (first | (go_at_call 8; (with_reducible refine (C0.out _ (T.dn HD.out)).mono ?_); rintro e w' ⟨rfl, d'⟩; refine Hid.out ?_))
 refine Lib.hid ?_
 replace v3 := v3.dn d'
 replace HD := hT HD d'
 clear d'
 go_wp2_with fail
 go_ret
 exact ⟨rfl, HD.out⟩
set_option maxRecDepth 100000 in
set_option maxHeartbeats 2000000 in
theorem rco_big0 (m : Mc) (W : World) (hm : m.Ok W) (T : Env2 W) (hx : m.xs.length ≤ 9223372036854775807) (hy : m.ys.length ≤ 9223372036854775807) (n k : Int) (n0 : 0 ≤ n) (n1 : n < 256) (k0 : 0 ≤ k) (k1 : k < 256) (hf : decide (m.xs.length ≤ 600 ∧ m.ys.length ≤ 600) = true) (b : 40 < n) :
   Calls Tryz.prog 4 #[.agg (mach m), .int .u8 n, .int .u8 k] W fun e W' => e = .returned (.bool true) ∧ Dn W W' := by
 have C0 := Lib.hid fun w => fun (t : Env2 w) => awakeR w t
 have CF := Lib.hid fun w => fun (ow : m.Ok w) => rfew m true w ow hx hy hf
 clear hf
 have HD := Lib.hid (Dn.refl W)
 go_enter Tryz.func4, Tryz.ntmps4
 go_wp2_with (first | ((with_reducible refine wpList_box (vs := (mach m)) ?_ ?_ ?_); rfl; rfl; intro b_v3 w' nn; refine Hid.out ?_))
 refine Lib.hid ?_
 have d' := nn.dn
 replace HD := hT HD d'
 have v3 := nn.blk
 clear d' nn
 go_wp2_with (first | (go_at_call 8; (with_reducible refine (C0.out _ (T.dn HD.out)).mono ?_); rintro e w' ⟨rfl, d'⟩; refine Hid.out ?_))
 refine Lib.hid ?_
 replace v3 := v3.dn d'
 replace HD := hT HD d'
 clear d'
 go_wp2_with (first | ((with_reducible refine load33 v3 hm.len ?_ ?_ ?_); rfl; rfl) | (go_at_call 9; (with_reducible refine (CF.out _ (hm.dn HD.out)).mono ?_); rintro e w' ⟨rfl, d'⟩; refine Hid.out ?_))
 refine Lib.hid ?_
 replace v3 := v3.dn d'
 replace HD := hT HD d'
 clear d'
 go_wp2_with (first | (go_at_call 8; (with_reducible refine (C0.out _ (T.dn HD.out)).mono ?_); rintro e w' ⟨rfl, d'⟩; refine Hid.out ?_))
 refine Lib.hid ?_
 replace v3 := v3.dn d'
 replace HD := hT HD d'
 clear d'
 go_wp2_with fail
 go_ret
 exact ⟨rfl, HD.out⟩
set_option maxRecDepth 100000 in
set_option maxHeartbeats 2000000 in
theorem rco_big1 (m : Mc) (W : World) (hm : m.Ok W) (T : Env2 W) (hx : m.xs.length ≤ 9223372036854775807) (hy : m.ys.length ≤ 9223372036854775807) (n k : Int) (n0 : 0 ≤ n) (n1 : n < 256) (k0 : 0 ≤ k) (k1 : k < 256) (hf : decide (m.xs.length ≤ 600 ∧ m.ys.length ≤ 600) = true) (b0 : ¬ 40 < n) (b : 40 < k) :
   Calls Tryz.prog 4 #[.agg (mach m), .int .u8 n, .int .u8 k] W fun e W' => e = .returned (.bool true) ∧ Dn W W' := by
 have C0 := Lib.hid fun w => fun (t : Env2 w) => awakeR w t
 have CF := Lib.hid fun w => fun (ow : m.Ok w) => rfew m true w ow hx hy hf
 clear hf
 have HD := Lib.hid (Dn.refl W)
 go_enter Tryz.func4, Tryz.ntmps4
 go_wp2_with (first | ((with_reducible refine wpList_box (vs := (mach m)) ?_ ?_ ?_); rfl; rfl; intro b_v3 w' nn; refine Hid.out ?_))
 refine Lib.hid ?_
 have d' := nn.dn
 replace HD := hT HD d'
 have v3 := nn.blk
 clear d' nn
 go_wp2_with (first | (go_at_call 8; (with_reducible refine (C0.out _ (T.dn HD.out)).mono ?_); rintro e w' ⟨rfl, d'⟩; refine Hid.out ?_))
 refine Lib.hid ?_
 replace v3 := v3.dn d'
 replace HD := hT HD d'
 clear d'
 go_wp2_with (first | ((with_reducible refine load33 v3 hm.len ?_ ?_ ?_); rfl; rfl) | (go_at_call 9; (with_reducible refine (CF.out _ (hm.dn HD.out)).mono ?_); rintro e w' ⟨rfl, d'⟩; refine Hid.out ?_))
 refine Lib.hid ?_
 replace v3 := v3.dn d'
 replace HD := hT HD d'
 clear d'
 go_wp2_with (first | (go_at_call 8; (with_reducible refine (C0.out _ (T.dn HD.out)).mono ?_); rintro e w' ⟨rfl, d'⟩; refine Hid.out ?_))
 refine Lib.hid ?_
 replace v3 := v3.dn d'
 replace HD := hT HD d'
 clear d'
 go_wp2_with fail
 go_ret
 exact ⟨rfl, HD.out⟩
set_option maxRecDepth 100000 in
set_option maxHeartbeats 2000000 in
theorem rco_e (m : Mc) (W : World) (hm : m.Ok W) (T : Env2 W) (hx : m.xs.length ≤ 9223372036854775807) (hy : m.ys.length ≤ 9223372036854775807) (n k : Int) (n0 : 0 ≤ n) (n1 : n < 256) (k0 : 0 ≤ k) (k1 : k < 256) (hf : decide (m.xs.length ≤ 600 ∧ m.ys.length ≤ 600) = true) (n40 : n ≤ 40) (k40 : k ≤ 40) (hcs : ∀ N : Nat, M.cntn n.toNat (M.st0 m) = N → (N : Int) < n) :
   Calls Tryz.prog 4 #[.agg (mach m), .int .u8 n, .int .u8 k] W fun e W' => e = .returned (.bool true) ∧ Dn W W' := by
 have hl := hm.len
 have hs : m.xs.length ≤ 600 := by simp only [decide_eq_true_eq] at hf; omega
 have hn : m.ys.length ≤ 600 := by simp only [decide_eq_true_eq] at hf; omega
 have t0 := hm.t0
 have t1 := hm.t1
 obtain ⟨s, e_s⟩ : ∃ s, M.st0 m = s := ⟨_, rfl⟩
 have fs : Sd s m := e_s ▸ Sd.self m
 have zs : s.z.length = m.xs.length := congrArg List.length fs.xs.symm
 have ysl : s.ys.length = m.ys.length := congrArg List.length fs.ys.symm
 have kk : (n + k).toNat = n.toNat + k.toNat := by omega
 obtain ⟨N, e_N⟩ : ∃ N, M.cntn n.toNat s = N := ⟨_, rfl⟩
 obtain ⟨r, e_r⟩ : ∃ r, M.gon n.toNat s = r := ⟨_, rfl⟩
 obtain ⟨N2, e_N2⟩ : ∃ N2, M.cntn k.toNat r = N2 := ⟨_, rfl⟩
 obtain ⟨r2, e_r2⟩ : ∃ r2, M.gon k.toNat r = r2 := ⟨_, rfl⟩
 obtain ⟨l1, e_l1⟩ : ∃ l1, M.trn n.toNat s = l1 := ⟨_, rfl⟩
 obtain ⟨l2, e_l2⟩ : ∃ l2, M.trn k.toNat r = l2 := ⟨_, rfl⟩
 obtain ⟨l3, e_l3⟩ : ∃ l3, l1 ++ l2 = l3 := ⟨_, rfl⟩
 obtain ⟨L, e_L⟩ : ∃ L, N + N2 = L := ⟨_, rfl⟩
 have e3 : M.gon (n + k).toNat s = r2 := by rw [kk, M.gon_add, e_r, e_r2]
 have eL : M.cntn (n + k).toNat s = L := by rw [kk, M.cntn_add, e_r, e_N, e_N2, e_L]
 have el : M.trn (n + k).toNat s = l3 := by rw [kk, M.trn_add, e_r, e_l1, e_l2, e_l3]
 have g1 := M.gon_len n.toNat s
 rw [e_r] at g1
 have g2 := M.gon_len (n + k).toNat s
 rw [e3] at g2
 have ln1 := M.cntn_le n.toNat s
 rw [e_N] at ln1
 have ln2 := M.cntn_le k.toNat r
 rw [e_N2] at ln2
 have tl := M.trn_len (n + k).toNat s
 rw [el, eL] at tl
 have ts := M.gon_t (n + k).toNat s (by rw [← fs.t]; exact t0) (by rw [← fs.t]; exact t1)
 rw [e3, eL, ← fs.t] at ts
 have C0 := Lib.hid fun w => fun (t : Env2 w) => awakeR w t
 have CF := Lib.hid fun w => fun (ow : m.Ok w) => rfew m true w ow hx hy hf
 clear hf
 have C1 := Lib.hid fun w => fun (ow : m.Ok w) (t : Env2 w) => rnRunB m n s fs N e_N r e_r w ow (by omega) (by omega) (by omega) (by omega) t
 have C2 := Lib.hid fun (w : World) (ma : Mc) (oa : ma.Ok w) (fa : Sd r ma) (t : Env2 w) => rnRunB ma k r fa N2 e_N2 r2 e_r2 w oa (by omega) (by omega) (by omega) (by omega) t
 have C3 := Lib.hid fun w => fun (ow : m.Ok w) (t : Env2 w) => rnRunB m (n + k) s fs L eL r2 e3 w ow (by omega) (by omega) (by omega) (by omega) t
 have D1 := Lib.hid fun w => fun (ow : m.Ok w) (t : Env2 w) => rnTrapsB m n s fs l1 e_l1 w ow (by omega) (by omega) (by omega) (by omega) t
 have D2 := Lib.hid fun (w : World) (ma : Mc) (oa : ma.Ok w) (fa : Sd r ma) (t : Env2 w) => rnTrapsB ma k r fa l2 e_l2 w oa (by omega) (by omega) (by omega) (by omega) t
 have D3 := Lib.hid fun w => fun (ow : m.Ok w) (t : Env2 w) => rnTrapsB m (n + k) s fs l3 el w ow (by omega) (by omega) (by omega) (by omega) t
 have CS := Lib.hid fun (w : World) (r : M.SRes) (m1 m2 : Mc) (o1 : m1.Ok w) (o2 : m2.Ok w) (f1 : Sd r m1) (f2 : Sd r m2) (a : r.z.length ≤ 100000) (b : r.ys.length ≤ 100000) => rsame_s w o1 o2 f1 f2 rfl rfl rfl rfl rfl a b
 have a2 : Hid (r2.z.length ≤ 100000 ∧ r2.ys.length ≤ 100000) := Lib.hid (by omega)
 have ql : Hid (l1.length + l2.length ≤ 100000) := Lib.hid (by rw [← List.length_append, e_l3]; omega)
 have al : Hid (l3.length ≤ 100000) := Lib.hid (by omega)
 have C7 := Lib.hid fun (w : World) (lo lo2 : Nat) (v u : Value) (tv : Tr w lo v l3) (tu : Tr w lo2 u l3) => rSame14 tv tu al.out
 have El := Lib.hid e_l3
 obtain ⟨T3, e_T3⟩ : ∃ T3, r2.t = T3 := ⟨_, rfl⟩
 obtain ⟨tt, e_tt⟩ : ∃ tt, m.t = tt := ⟨_, rfl⟩
 rw [e_T3, e_tt] at ts
 rw [e_tt] at t0 t1
 have HT := Lib.hid e_T3
 have w0_ : IntKind.i64.wrap n = n := IntWalk.i64_in _ (by omega)
 have w1_ : IntKind.i64.wrap k = k := IntWalk.i64_in _ (by omega)
 have w2_ : IntKind.i64.wrap (n + k) = (n + k) := IntWalk.i64_in _ (by omega)
 have wN : IntKind.i64.wrap ((N : Int) + (N2 : Int)) = (L : Int) := by rw [IntWalk.i64_in _ (by omega)]; omega
 have wL : IntKind.u64.wrap (L : Int) = (L : Int) := by rw [IntKind.wrap_u64]; omega
 have q1 : ((L : Int) != (L : Int)) = false := by simp
 have q2 : (T3 != IntKind.u64.wrap (tt + (L : Int))) = false := by rw [show IntKind.u64.wrap (tt + (L : Int)) = (tt + (L : Int)) % 18446744073709551616 from rfl, ts]; simp
 have q3 : decide (n < (N : Int)) = false := by simp; omega
 have q4 : decide (l3.length ≤ L) = true := decide_eq_true (by omega)
 have hcase := hcs N (by rw [e_s]; exact e_N)
 have q5 : decide ((N : Int) < n) = true := by simp; omega
 have NH : Hid (r.h = true) := Lib.hid (by rw [← e_r]; exact M.cntn_lt n.toNat s (by rw [e_N]; omega))
 clear e3 eL el g1 g2 ln1 ln2 tl ts kk hs hn zs ysl e_s e_N e_r e_N2 e_r2 e_l1 e_l2 e_l3 e_L e_T3 hcase hcs
 have HD := Lib.hid (Dn.refl W)
 go_enter Tryz.func4, Tryz.ntmps4
 go_wp2_with (first | ((with_reducible refine wpList_box (vs := (mach m)) ?_ ?_ ?_); rfl; rfl; intro b_v3 w' nn; refine Hid.out ?_))
 refine Lib.hid ?_
 have d' := nn.dn
 replace HD := hT HD d'
 have v3 := nn.blk
 clear d' nn
 go_wp2_with (first | (go_at_call 8; (with_reducible refine (C0.out _ (T.dn HD.out)).mono ?_); rintro e w' ⟨rfl, d'⟩; refine Hid.out ?_))
 refine Lib.hid ?_
 replace v3 := v3.dn d'
 replace HD := hT HD d'
 clear d'
 go_wp2_with (first | ((with_reducible refine load33 v3 hm.len ?_ ?_ ?_); rfl; rfl) | (go_at_call 9; (with_reducible refine (CF.out _ (hm.dn HD.out)).mono ?_); rintro e w' ⟨rfl, d'⟩; refine Hid.out ?_))
 refine Lib.hid ?_
 replace v3 := v3.dn d'
 replace HD := hT HD d'
 clear d'
 go_wp2_with (first | ((with_reducible refine load33 v3 hm.len ?_ ?_ ?_); rfl; rfl) | (go_at_call 10; (with_reducible refine (C1.out _ (hm.dn HD.out) (T.dn HD.out)).mono ?_); rintro e w' ⟨m1, rfl, o_m1, e_m1, d'⟩; refine Hid.out ?_))
 refine Lib.hid ?_
 replace v3 := v3.dn d'
 replace HD := hT HD d'
 clear d'
 have l_m1 := o_m1.out.len
 have nh1 : m1.h = true := e_m1.out.h.trans NH.out
 have o_m1 := Lib.hid o_m1.out
 go_wp2_with (first | ((with_reducible refine wpList_alloc zeroMach ?_ ?_); rfl; intro b_v7 w' nn; refine Hid.out ?_))
 refine Lib.hid ?_
 have n_v3_v7 := Lib.hid (nn.ne _ v3.lt)
 have HL_v7 : Hid (W.heap.size ≤ b_v7) := Lib.hid (Blk.hi nn HD.out.size)
 have d' := nn.dn
 replace v3 := v3.dn d'
 replace o_m1 := Lib.hid (o_m1.out.dn d')
 replace HD := hT HD d'
 have v7 := nn.blk
 clear d' nn
 go_wp2_with (first | ((with_reducible refine store33 m1 l_m1 v7 zlen ?_ ?_ ?_ ?_); rfl; rfl; rfl; intro w' r' t'; refine Hid.out ?_))
 refine Lib.hid ?_
 replace o_m1 := Lib.hid (o_m1.out.trn v7 (NoU8.mach _) t')
 replace v3 := v3.trn t' n_v3_v7.out
 replace HD := Lib.hid (HD.out.trn HL_v7.out t')
 clear t' v7
 have v7 := r'
 clear r'
 go_wp2_with (first | ((with_reducible refine load33 v7 l_m1 ?_ ?_ ?_); rfl; rfl) | (go_at_call 10; (with_reducible refine (C2.out _ m1 o_m1.out e_m1.out (T.dn HD.out)).mono ?_); rintro e w' ⟨m2, rfl, o_m2, e_m2, d'⟩; refine Hid.out ?_))
 refine Lib.hid ?_
 replace v3 := v3.dn d'
 replace v7 := v7.dn d'
 replace o_m1 := Lib.hid (o_m1.out.dn d')
 replace HD := hT HD d'
 clear d'
 have l_m2 := o_m2.out.len
 have o_m2 := Lib.hid o_m2.out
 go_wp2_with (first | ((with_reducible refine wpList_alloc zeroMach ?_ ?_); rfl; intro b_v9 w' nn; refine Hid.out ?_))
 refine Lib.hid ?_
 have n_v3_v9 := Lib.hid (nn.ne _ v3.lt)
 have n_v7_v9 := Lib.hid (nn.ne _ v7.lt)
 have HL_v9 : Hid (W.heap.size ≤ b_v9) := Lib.hid (Blk.hi nn HD.out.size)
 have d' := nn.dn
 replace v3 := v3.dn d'
 replace v7 := v7.dn d'
 replace o_m1 := Lib.hid (o_m1.out.dn d')
 replace o_m2 := Lib.hid (o_m2.out.dn d')
 replace HD := hT HD d'
 have v9 := nn.blk
 clear d' nn
 go_wp2_with (first | ((with_reducible refine store33 m2 l_m2 v9 zlen ?_ ?_ ?_ ?_); rfl; rfl; rfl; intro w' r' t'; refine Hid.out ?_))
 refine Lib.hid ?_
 replace o_m1 := Lib.hid (o_m1.out.trn v9 (NoU8.mach _) t')
 replace o_m2 := Lib.hid (o_m2.out.trn v9 (NoU8.mach _) t')
 replace v3 := v3.trn t' n_v3_v9.out
 replace v7 := v7.trn t' n_v7_v9.out
 replace HD := Lib.hid (HD.out.trn HL_v9.out t')
 clear t' v9
 have v9 := r'
 clear r'
 go_wp2_with (first | ((with_reducible refine load33 v3 hm.len ?_ ?_ ?_); rfl; rfl) | (go_at_call 10; (with_reducible refine (C3.out _ (hm.dn HD.out) (T.dn HD.out)).mono ?_); rintro e w' ⟨m3, rfl, o_m3, e_m3, d'⟩; refine Hid.out ?_))
 refine Lib.hid ?_
 replace v3 := v3.dn d'
 replace v7 := v7.dn d'
 replace v9 := v9.dn d'
 replace o_m1 := Lib.hid (o_m1.out.dn d')
 replace o_m2 := Lib.hid (o_m2.out.dn d')
 replace HD := hT HD d'
 clear d'
 have l_m3 := o_m3.out.len
 have nt3 : m3.t = T3 := e_m3.out.t.trans HT.out
 have o_m3 := Lib.hid o_m3.out
 go_wp2_with (first | ((with_reducible refine wpList_alloc zeroMach ?_ ?_); rfl; intro b_v11 w' nn; refine Hid.out ?_))
 refine Lib.hid ?_
 have n_v3_v11 := Lib.hid (nn.ne _ v3.lt)
 have n_v7_v11 := Lib.hid (nn.ne _ v7.lt)
 have n_v9_v11 := Lib.hid (nn.ne _ v9.lt)
 have HL_v11 : Hid (W.heap.size ≤ b_v11) := Lib.hid (Blk.hi nn HD.out.size)
 have d' := nn.dn
 replace v3 := v3.dn d'
 replace v7 := v7.dn d'
 replace v9 := v9.dn d'
 replace o_m1 := Lib.hid (o_m1.out.dn d')
 replace o_m2 := Lib.hid (o_m2.out.dn d')
 replace o_m3 := Lib.hid (o_m3.out.dn d')
 replace HD := hT HD d'
 have v11 := nn.blk
 clear d' nn
 go_wp2_with (first | ((with_reducible refine store33 m3 l_m3 v11 zlen ?_ ?_ ?_ ?_); rfl; rfl; rfl; intro w' r' t'; refine Hid.out ?_))
 refine Lib.hid ?_
 replace o_m1 := Lib.hid (o_m1.out.trn v11 (NoU8.mach _) t')
 replace o_m2 := Lib.hid (o_m2.out.trn v11 (NoU8.mach _) t')
 replace o_m3 := Lib.hid (o_m3.out.trn v11 (NoU8.mach _) t')
 replace v3 := v3.trn t' n_v3_v11.out
 replace v7 := v7.trn t' n_v7_v11.out
 replace v9 := v9.trn t' n_v9_v11.out
 replace HD := Lib.hid (HD.out.trn HL_v11.out t')
 clear t' v11
 have v11 := r'
 clear r'
 go_wp2_with (first | ((with_reducible refine load33 v9 l_m2 ?_ ?_ ?_); rfl; rfl) | ((with_reducible refine load33 v11 l_m3 ?_ ?_ ?_); rfl; rfl) | (go_at_call 14; (with_reducible refine (CS.out _ r2 m2 m3 o_m2.out o_m3.out e_m2.out e_m3.out a2.out.1 a2.out.2).mono ?_); rintro e w' ⟨rfl, d'⟩; refine Hid.out ?_))
 refine Lib.hid ?_
 replace v3 := v3.dn d'
 replace v7 := v7.dn d'
 replace v9 := v9.dn d'
 replace v11 := v11.dn d'
 replace o_m1 := Lib.hid (o_m1.out.dn d')
 replace o_m2 := Lib.hid (o_m2.out.dn d')
 replace o_m3 := Lib.hid (o_m3.out.dn d')
 replace HD := hT HD d'
 clear d'
 have ck0 := v11.time l_m3
 rw [nt3] at ck0
 have ck1 := v3.time hm.len
 rw [e_tt] at ck1
 have ck2 := v7.halted l_m1
 rw [nh1] at ck2
 go_wp2_with fail
 clear ck0 ck1 ck2
 have nx_v3 : b_v3 ∉ [] := (by simp)
 have nx_v7 : b_v7 ∉ [] := (by simp)
 have nx_v9 : b_v9 ∉ [] := (by simp)
 have nx_v11 : b_v11 ∉ [] := (by simp)
 have hbs : ∀ b ∈ ([] : List Nat), ∃ t cs, Blk w' b t cs ∧ NoU8 cs := fun b hb => absurd hb (by simp)
 have hbl : ∀ b ∈ ([] : List Nat), W.heap.size ≤ b := fun b hb => absurd hb (by simp)
 refine wp_region_picks [] [1, 2, 3, 6, 7, 8] 6 (by kernel_rfl) (by kernel_rfl) rfl (by kernel_rfl) ?_
 simp only [pickL, List.drop_succ_cons, List.drop_zero, List.take_succ_cons, List.take_zero, List.cons_append, List.nil_append]
 refine ⟨?_, ?_, ?_⟩
 rotate_left 1
 refine ⟨_, calx33 v3 hm.len nx_v3 (by rfl) rfl, ?_⟩
 simp only [Act.put, tA, tS, tZ]
 refine ⟨_, calx_pure (by rfl) (fun u => by go_simp; rfl), ?_⟩
 simp only [Act.put, tA, tS, tZ]
 refine ⟨_, calx_pure (by rfl) (fun u => by go_simp; rfl), ?_⟩
 simp only [Act.put, tA, tS, tZ]
 refine ⟨_, calx33 v7 l_m1 nx_v7 (by rfl) rfl, ?_⟩
 simp only [Act.put, tA, tS, tZ]
 refine ⟨_, calx_pure (by rfl) (fun u => by go_simp; rfl), ?_⟩
 simp only [Act.put, tA, tS, tZ]
 refine ⟨_, calx_pure (by rfl) (fun u => by go_simp; rfl), ?_⟩
 simp only [Act.put, tA, tS, tZ]
 exact rfl
 have e0 : Dx [] w' w'.drew := Dn.dx (Dn.drawn _)
 refine wpX_two 0 4 (by kernel_rfl) ?_ ?_
 focus
   refine x1_noT rfl e0 fun b_tl y1 dy tl e1 => ?_
   replace tl := Lib.hid tl
   replace e0 := e1
   clear dy e1
   simp only [Act.put, tA, tS, tZ]
   refine wpX_one 4 (by kernel_rfl) ?_
   refine x1_call rfl (by rfl) (fun u => by go_simp) e0 fun x0 dx ex => (D1.out x0 (hm.dn (HD.out.of_dx ex hbl)) (T.dn (HD.out.of_dx ex hbl))).mono ?_
   rintro e y0 ⟨tq1, rfl, tv1, d'⟩
   refine ⟨d', _, rfl, ?_⟩
   replace e0 := ex.trans (Dn.dx d')
   replace tl := Lib.hid ((tl.out.dn dx).dn d')
   have tv1 := Lib.hid tv1.out
   clear dx ex d'
   simp only [Act.put, tA, tS, tZ]
   refine wpX_one 5 (by kernel_rfl) ?_
   refine x1_appT rfl tl.out tv1.out (by have := ql.out; simp only [List.length_nil]; omega) (Nat.le_refl _) e0.size rfl rfl e0 fun va y1 ta dv e1 => ?_
   replace ta := Lib.hid ta
   replace e0 := e1
   clear dv e1 tl tv1
   simp only [Act.put, tA, tS, tZ]
   refine wpX_one 9 (by kernel_rfl) ?_
   refine x1_call rfl (by rfl) (fun u => by go_simp) e0 fun x0 dx ex => (D2.out x0 m1 (o_m1.out.dx ex hbs) e_m1.out (T.dn (HD.out.of_dx ex hbl))).mono ?_
   rintro e y0 ⟨tq2, rfl, tv2, d'⟩
   refine ⟨d', _, rfl, ?_⟩
   replace e0 := ex.trans (Dn.dx d')
   replace ta := Lib.hid ((ta.out.dn dx).dn d')
   have tv2 := Lib.hid tv2.out
   clear dx ex d'
   simp only [Act.put, tA, tS, tZ]
   refine wpX_one 10 (by kernel_rfl) ?_
   refine x1_appT rfl ta.out tv2.out (by have := ql.out; simp only [List.length_nil, List.length_append]; omega) (Nat.le_refl _) e0.size rfl rfl e0 fun vb y1 tb dv e1 => ?_
   replace tb := Lib.hid tb
   replace e0 := e1
   clear dv e1 ta tv2
   simp only [Act.put, tA, tS, tZ]
   refine wpX_pick2 (by kernel_rfl) e0 [11] 0 rfl (by kernel_rfl) ?_
   simp only [pickL, List.drop_succ_cons, List.drop_zero, List.take_succ_cons, List.take_zero, List.cons_append, List.nil_append]
   refine ⟨?_, ?_, ?_⟩
   rotate_left 1
   refine ⟨_, calx_pure (by rfl) (fun u => by go_simp; rfl), ?_⟩
   simp only [Act.put, tA, tS, tZ]
   exact rfl
 rotate_left 1
 focus
   refine x1_call rfl (by rfl) (fun u => by go_simp) e0 fun x0 dx ex => (D1.out x0 (hm.dn (HD.out.of_dx ex hbl)) (T.dn (HD.out.of_dx ex hbl))).mono ?_
   rintro e y0 ⟨tq1, rfl, tv1, d'⟩
   refine ⟨d', _, rfl, ?_⟩
   replace e0 := ex.trans (Dn.dx d')
   have tv1 := Lib.hid tv1.out
   clear dx ex d'
   simp only [Act.put, tA, tS, tZ]
   refine wpX_one 0 (by kernel_rfl) ?_
   refine x1_noT rfl e0 fun b_tl y1 dy tl e1 => ?_
   replace tv1 := Lib.hid (tv1.out.dn dy)
   replace tl := Lib.hid tl
   replace e0 := e1
   clear dy e1
   simp only [Act.put, tA, tS, tZ]
   refine wpX_one 5 (by kernel_rfl) ?_
   refine x1_appT rfl tl.out tv1.out (by have := ql.out; simp only [List.length_nil]; omega) (Nat.le_refl _) e0.size rfl rfl e0 fun va y1 ta dv e1 => ?_
   replace ta := Lib.hid ta
   replace e0 := e1
   clear dv e1 tl tv1
   simp only [Act.put, tA, tS, tZ]
   refine wpX_one 9 (by kernel_rfl) ?_
   refine x1_call rfl (by rfl) (fun u => by go_simp) e0 fun x0 dx ex => (D2.out x0 m1 (o_m1.out.dx ex hbs) e_m1.out (T.dn (HD.out.of_dx ex hbl))).mono ?_
   rintro e y0 ⟨tq2, rfl, tv2, d'⟩
   refine ⟨d', _, rfl, ?_⟩
   replace e0 := ex.trans (Dn.dx d')
   replace ta := Lib.hid ((ta.out.dn dx).dn d')
   have tv2 := Lib.hid tv2.out
   clear dx ex d'
   simp only [Act.put, tA, tS, tZ]
   refine wpX_one 10 (by kernel_rfl) ?_
   refine x1_appT rfl ta.out tv2.out (by have := ql.out; simp only [List.length_nil, List.length_append]; omega) (Nat.le_refl _) e0.size rfl rfl e0 fun vb y1 tb dv e1 => ?_
   replace tb := Lib.hid tb
   replace e0 := e1
   clear dv e1 ta tv2
   simp only [Act.put, tA, tS, tZ]
   refine wpX_pick2 (by kernel_rfl) e0 [11] 0 rfl (by kernel_rfl) ?_
   simp only [pickL, List.drop_succ_cons, List.drop_zero, List.take_succ_cons, List.take_zero, List.cons_append, List.nil_append]
   refine ⟨?_, ?_, ?_⟩
   rotate_left 1
   refine ⟨_, calx_pure (by rfl) (fun u => by go_simp; rfl), ?_⟩
   simp only [Act.put, tA, tS, tZ]
   exact rfl
 rotate_left 1
 all_goals
   refine wpX_end (by kernel_rfl) fun w' dx => NoPanic.normal ?_
   have D := e0.trans (Dn.dx dx)
   replace tb := Lib.hid (tb.out.dn dx)
   clear e0 dx
   replace v3 := v3.dx D nx_v3
   replace v7 := v7.dx D nx_v7
   replace v9 := v9.dx D nx_v9
   replace v11 := v11.dx D nx_v11
   replace o_m1 := Lib.hid (o_m1.out.dx D hbs)
   replace o_m2 := Lib.hid (o_m2.out.dx D hbs)
   replace o_m3 := Lib.hid (o_m3.out.dx D hbs)
   replace HD := Lib.hid (HD.out.of_dx D hbl)
   clear D hbs hbl nx_v3 nx_v7 nx_v9 nx_v11
   replace tb : Hid (Tr w' _ vb l3) := Lib.hid (by have h := tb.out; rw [List.nil_append, El.out] at h; exact h)
   obtain ⟨A9, c9, rfl⟩ := tb.out.form
   go_wp2_with (first | ((with_reducible refine load33 v3 hm.len ?_ ?_ ?_); rfl; rfl) | (go_at_call 16; (with_reducible refine (D3.out _ (hm.dn HD.out) (T.dn HD.out)).mono ?_); rintro e w' ⟨tq3, rfl, tv3, d'⟩; refine Hid.out ?_))
   refine Lib.hid ?_
   replace v3 := v3.dn d'
   replace v7 := v7.dn d'
   replace v9 := v9.dn d'
   replace v11 := v11.dn d'
   replace o_m1 := Lib.hid (o_m1.out.dn d')
   replace o_m2 := Lib.hid (o_m2.out.dn d')
   replace o_m3 := Lib.hid (o_m3.out.dn d')
   replace tb := Lib.hid (tb.out.dn d')
   replace HD := hT HD d'
   clear d'
   have tv3 := Lib.hid tv3.out
   go_wp2_with (first | (go_at_call 15; (with_reducible refine (C7.out _ _ _ _ _ tb.out tv3.out).mono ?_); rintro e w' ⟨rfl, d'⟩; refine Hid.out ?_))
   refine Lib.hid ?_
   replace v3 := v3.dn d'
   replace v7 := v7.dn d'
   replace v9 := v9.dn d'
   replace v11 := v11.dn d'
   replace o_m1 := Lib.hid (o_m1.out.dn d')
   replace o_m2 := Lib.hid (o_m2.out.dn d')
   replace o_m3 := Lib.hid (o_m3.out.dn d')
   replace tb := Lib.hid (tb.out.dn d')
   replace tv3 := Lib.hid (tv3.out.dn d')
   replace HD := hT HD d'
   clear d'
   go_wp2_with fail
   go_ret
   exact ⟨rfl, HD.out⟩
set_option maxRecDepth 100000 in
set_option maxHeartbeats 2000000 in
theorem rco_l (m : Mc) (W : World) (hm : m.Ok W) (T : Env2 W) (hx : m.xs.length ≤ 9223372036854775807) (hy : m.ys.length ≤ 9223372036854775807) (n k : Int) (n0 : 0 ≤ n) (n1 : n < 256) (k0 : 0 ≤ k) (k1 : k < 256) (hf : decide (m.xs.length ≤ 600 ∧ m.ys.length ≤ 600) = true) (n40 : n ≤ 40) (k40 : k ≤ 40) (hcs : ∀ N : Nat, M.cntn n.toNat (M.st0 m) = N → ¬ (N : Int) < n) :
   Calls Tryz.prog 4 #[.agg (mach m), .int .u8 n, .int .u8 k] W fun e W' => e = .returned (.bool true) ∧ Dn W W' := by
 have hl := hm.len
 have hs : m.xs.length ≤ 600 := by simp only [decide_eq_true_eq] at hf; omega
 have hn : m.ys.length ≤ 600 := by simp only [decide_eq_true_eq] at hf; omega
 have t0 := hm.t0
 have t1 := hm.t1
 obtain ⟨s, e_s⟩ : ∃ s, M.st0 m = s := ⟨_, rfl⟩
 have fs : Sd s m := e_s ▸ Sd.self m
 have zs : s.z.length = m.xs.length := congrArg List.length fs.xs.symm
 have ysl : s.ys.length = m.ys.length := congrArg List.length fs.ys.symm
 have kk : (n + k).toNat = n.toNat + k.toNat := by omega
 obtain ⟨N, e_N⟩ : ∃ N, M.cntn n.toNat s = N := ⟨_, rfl⟩
 obtain ⟨r, e_r⟩ : ∃ r, M.gon n.toNat s = r := ⟨_, rfl⟩
 obtain ⟨N2, e_N2⟩ : ∃ N2, M.cntn k.toNat r = N2 := ⟨_, rfl⟩
 obtain ⟨r2, e_r2⟩ : ∃ r2, M.gon k.toNat r = r2 := ⟨_, rfl⟩
 obtain ⟨l1, e_l1⟩ : ∃ l1, M.trn n.toNat s = l1 := ⟨_, rfl⟩
 obtain ⟨l2, e_l2⟩ : ∃ l2, M.trn k.toNat r = l2 := ⟨_, rfl⟩
 obtain ⟨l3, e_l3⟩ : ∃ l3, l1 ++ l2 = l3 := ⟨_, rfl⟩
 obtain ⟨L, e_L⟩ : ∃ L, N + N2 = L := ⟨_, rfl⟩
 have e3 : M.gon (n + k).toNat s = r2 := by rw [kk, M.gon_add, e_r, e_r2]
 have eL : M.cntn (n + k).toNat s = L := by rw [kk, M.cntn_add, e_r, e_N, e_N2, e_L]
 have el : M.trn (n + k).toNat s = l3 := by rw [kk, M.trn_add, e_r, e_l1, e_l2, e_l3]
 have g1 := M.gon_len n.toNat s
 rw [e_r] at g1
 have g2 := M.gon_len (n + k).toNat s
 rw [e3] at g2
 have ln1 := M.cntn_le n.toNat s
 rw [e_N] at ln1
 have ln2 := M.cntn_le k.toNat r
 rw [e_N2] at ln2
 have tl := M.trn_len (n + k).toNat s
 rw [el, eL] at tl
 have ts := M.gon_t (n + k).toNat s (by rw [← fs.t]; exact t0) (by rw [← fs.t]; exact t1)
 rw [e3, eL, ← fs.t] at ts
 have C0 := Lib.hid fun w => fun (t : Env2 w) => awakeR w t
 have CF := Lib.hid fun w => fun (ow : m.Ok w) => rfew m true w ow hx hy hf
 clear hf
 have C1 := Lib.hid fun w => fun (ow : m.Ok w) (t : Env2 w) => rnRunB m n s fs N e_N r e_r w ow (by omega) (by omega) (by omega) (by omega) t
 have C2 := Lib.hid fun (w : World) (ma : Mc) (oa : ma.Ok w) (fa : Sd r ma) (t : Env2 w) => rnRunB ma k r fa N2 e_N2 r2 e_r2 w oa (by omega) (by omega) (by omega) (by omega) t
 have C3 := Lib.hid fun w => fun (ow : m.Ok w) (t : Env2 w) => rnRunB m (n + k) s fs L eL r2 e3 w ow (by omega) (by omega) (by omega) (by omega) t
 have D1 := Lib.hid fun w => fun (ow : m.Ok w) (t : Env2 w) => rnTrapsB m n s fs l1 e_l1 w ow (by omega) (by omega) (by omega) (by omega) t
 have D2 := Lib.hid fun (w : World) (ma : Mc) (oa : ma.Ok w) (fa : Sd r ma) (t : Env2 w) => rnTrapsB ma k r fa l2 e_l2 w oa (by omega) (by omega) (by omega) (by omega) t
 have D3 := Lib.hid fun w => fun (ow : m.Ok w) (t : Env2 w) => rnTrapsB m (n + k) s fs l3 el w ow (by omega) (by omega) (by omega) (by omega) t
 have CS := Lib.hid fun (w : World) (r : M.SRes) (m1 m2 : Mc) (o1 : m1.Ok w) (o2 : m2.Ok w) (f1 : Sd r m1) (f2 : Sd r m2) (a : r.z.length ≤ 100000) (b : r.ys.length ≤ 100000) => rsame_s w o1 o2 f1 f2 rfl rfl rfl rfl rfl a b
 have a2 : Hid (r2.z.length ≤ 100000 ∧ r2.ys.length ≤ 100000) := Lib.hid (by omega)
 have ql : Hid (l1.length + l2.length ≤ 100000) := Lib.hid (by rw [← List.length_append, e_l3]; omega)
 have al : Hid (l3.length ≤ 100000) := Lib.hid (by omega)
 have C7 := Lib.hid fun (w : World) (lo lo2 : Nat) (v u : Value) (tv : Tr w lo v l3) (tu : Tr w lo2 u l3) => rSame14 tv tu al.out
 have El := Lib.hid e_l3
 obtain ⟨T3, e_T3⟩ : ∃ T3, r2.t = T3 := ⟨_, rfl⟩
 obtain ⟨tt, e_tt⟩ : ∃ tt, m.t = tt := ⟨_, rfl⟩
 rw [e_T3, e_tt] at ts
 rw [e_tt] at t0 t1
 have HT := Lib.hid e_T3
 have w0_ : IntKind.i64.wrap n = n := IntWalk.i64_in _ (by omega)
 have w1_ : IntKind.i64.wrap k = k := IntWalk.i64_in _ (by omega)
 have w2_ : IntKind.i64.wrap (n + k) = (n + k) := IntWalk.i64_in _ (by omega)
 have wN : IntKind.i64.wrap ((N : Int) + (N2 : Int)) = (L : Int) := by rw [IntWalk.i64_in _ (by omega)]; omega
 have wL : IntKind.u64.wrap (L : Int) = (L : Int) := by rw [IntKind.wrap_u64]; omega
 have q1 : ((L : Int) != (L : Int)) = false := by simp
 have q2 : (T3 != IntKind.u64.wrap (tt + (L : Int))) = false := by rw [show IntKind.u64.wrap (tt + (L : Int)) = (tt + (L : Int)) % 18446744073709551616 from rfl, ts]; simp
 have q3 : decide (n < (N : Int)) = false := by simp; omega
 have q4 : decide (l3.length ≤ L) = true := decide_eq_true (by omega)
 have hcase := hcs N (by rw [e_s]; exact e_N)
 have q5 : decide ((N : Int) < n) = false := by simp; omega
 clear e3 eL el g1 g2 ln1 ln2 tl ts kk hs hn zs ysl e_s e_N e_r e_N2 e_r2 e_l1 e_l2 e_l3 e_L e_T3 hcase hcs
 have HD := Lib.hid (Dn.refl W)
 go_enter Tryz.func4, Tryz.ntmps4
 go_wp2_with (first | ((with_reducible refine wpList_box (vs := (mach m)) ?_ ?_ ?_); rfl; rfl; intro b_v3 w' nn; refine Hid.out ?_))
 refine Lib.hid ?_
 have d' := nn.dn
 replace HD := hT HD d'
 have v3 := nn.blk
 clear d' nn
 go_wp2_with (first | (go_at_call 8; (with_reducible refine (C0.out _ (T.dn HD.out)).mono ?_); rintro e w' ⟨rfl, d'⟩; refine Hid.out ?_))
 refine Lib.hid ?_
 replace v3 := v3.dn d'
 replace HD := hT HD d'
 clear d'
 go_wp2_with (first | ((with_reducible refine load33 v3 hm.len ?_ ?_ ?_); rfl; rfl) | (go_at_call 9; (with_reducible refine (CF.out _ (hm.dn HD.out)).mono ?_); rintro e w' ⟨rfl, d'⟩; refine Hid.out ?_))
 refine Lib.hid ?_
 replace v3 := v3.dn d'
 replace HD := hT HD d'
 clear d'
 go_wp2_with (first | ((with_reducible refine load33 v3 hm.len ?_ ?_ ?_); rfl; rfl) | (go_at_call 10; (with_reducible refine (C1.out _ (hm.dn HD.out) (T.dn HD.out)).mono ?_); rintro e w' ⟨m1, rfl, o_m1, e_m1, d'⟩; refine Hid.out ?_))
 refine Lib.hid ?_
 replace v3 := v3.dn d'
 replace HD := hT HD d'
 clear d'
 have l_m1 := o_m1.out.len
 have o_m1 := Lib.hid o_m1.out
 go_wp2_with (first | ((with_reducible refine wpList_alloc zeroMach ?_ ?_); rfl; intro b_v7 w' nn; refine Hid.out ?_))
 refine Lib.hid ?_
 have n_v3_v7 := Lib.hid (nn.ne _ v3.lt)
 have HL_v7 : Hid (W.heap.size ≤ b_v7) := Lib.hid (Blk.hi nn HD.out.size)
 have d' := nn.dn
 replace v3 := v3.dn d'
 replace o_m1 := Lib.hid (o_m1.out.dn d')
 replace HD := hT HD d'
 have v7 := nn.blk
 clear d' nn
 go_wp2_with (first | ((with_reducible refine store33 m1 l_m1 v7 zlen ?_ ?_ ?_ ?_); rfl; rfl; rfl; intro w' r' t'; refine Hid.out ?_))
 refine Lib.hid ?_
 replace o_m1 := Lib.hid (o_m1.out.trn v7 (NoU8.mach _) t')
 replace v3 := v3.trn t' n_v3_v7.out
 replace HD := Lib.hid (HD.out.trn HL_v7.out t')
 clear t' v7
 have v7 := r'
 clear r'
 go_wp2_with (first | ((with_reducible refine load33 v7 l_m1 ?_ ?_ ?_); rfl; rfl) | (go_at_call 10; (with_reducible refine (C2.out _ m1 o_m1.out e_m1.out (T.dn HD.out)).mono ?_); rintro e w' ⟨m2, rfl, o_m2, e_m2, d'⟩; refine Hid.out ?_))
 refine Lib.hid ?_
 replace v3 := v3.dn d'
 replace v7 := v7.dn d'
 replace o_m1 := Lib.hid (o_m1.out.dn d')
 replace HD := hT HD d'
 clear d'
 have l_m2 := o_m2.out.len
 have o_m2 := Lib.hid o_m2.out
 go_wp2_with (first | ((with_reducible refine wpList_alloc zeroMach ?_ ?_); rfl; intro b_v9 w' nn; refine Hid.out ?_))
 refine Lib.hid ?_
 have n_v3_v9 := Lib.hid (nn.ne _ v3.lt)
 have n_v7_v9 := Lib.hid (nn.ne _ v7.lt)
 have HL_v9 : Hid (W.heap.size ≤ b_v9) := Lib.hid (Blk.hi nn HD.out.size)
 have d' := nn.dn
 replace v3 := v3.dn d'
 replace v7 := v7.dn d'
 replace o_m1 := Lib.hid (o_m1.out.dn d')
 replace o_m2 := Lib.hid (o_m2.out.dn d')
 replace HD := hT HD d'
 have v9 := nn.blk
 clear d' nn
 go_wp2_with (first | ((with_reducible refine store33 m2 l_m2 v9 zlen ?_ ?_ ?_ ?_); rfl; rfl; rfl; intro w' r' t'; refine Hid.out ?_))
 refine Lib.hid ?_
 replace o_m1 := Lib.hid (o_m1.out.trn v9 (NoU8.mach _) t')
 replace o_m2 := Lib.hid (o_m2.out.trn v9 (NoU8.mach _) t')
 replace v3 := v3.trn t' n_v3_v9.out
 replace v7 := v7.trn t' n_v7_v9.out
 replace HD := Lib.hid (HD.out.trn HL_v9.out t')
 clear t' v9
 have v9 := r'
 clear r'
 go_wp2_with (first | ((with_reducible refine load33 v3 hm.len ?_ ?_ ?_); rfl; rfl) | (go_at_call 10; (with_reducible refine (C3.out _ (hm.dn HD.out) (T.dn HD.out)).mono ?_); rintro e w' ⟨m3, rfl, o_m3, e_m3, d'⟩; refine Hid.out ?_))
 refine Lib.hid ?_
 replace v3 := v3.dn d'
 replace v7 := v7.dn d'
 replace v9 := v9.dn d'
 replace o_m1 := Lib.hid (o_m1.out.dn d')
 replace o_m2 := Lib.hid (o_m2.out.dn d')
 replace HD := hT HD d'
 clear d'
 have l_m3 := o_m3.out.len
 have nt3 : m3.t = T3 := e_m3.out.t.trans HT.out
 have o_m3 := Lib.hid o_m3.out
 go_wp2_with (first | ((with_reducible refine wpList_alloc zeroMach ?_ ?_); rfl; intro b_v11 w' nn; refine Hid.out ?_))
 refine Lib.hid ?_
 have n_v3_v11 := Lib.hid (nn.ne _ v3.lt)
 have n_v7_v11 := Lib.hid (nn.ne _ v7.lt)
 have n_v9_v11 := Lib.hid (nn.ne _ v9.lt)
 have HL_v11 : Hid (W.heap.size ≤ b_v11) := Lib.hid (Blk.hi nn HD.out.size)
 have d' := nn.dn
 replace v3 := v3.dn d'
 replace v7 := v7.dn d'
 replace v9 := v9.dn d'
 replace o_m1 := Lib.hid (o_m1.out.dn d')
 replace o_m2 := Lib.hid (o_m2.out.dn d')
 replace o_m3 := Lib.hid (o_m3.out.dn d')
 replace HD := hT HD d'
 have v11 := nn.blk
 clear d' nn
 go_wp2_with (first | ((with_reducible refine store33 m3 l_m3 v11 zlen ?_ ?_ ?_ ?_); rfl; rfl; rfl; intro w' r' t'; refine Hid.out ?_))
 refine Lib.hid ?_
 replace o_m1 := Lib.hid (o_m1.out.trn v11 (NoU8.mach _) t')
 replace o_m2 := Lib.hid (o_m2.out.trn v11 (NoU8.mach _) t')
 replace o_m3 := Lib.hid (o_m3.out.trn v11 (NoU8.mach _) t')
 replace v3 := v3.trn t' n_v3_v11.out
 replace v7 := v7.trn t' n_v7_v11.out
 replace v9 := v9.trn t' n_v9_v11.out
 replace HD := Lib.hid (HD.out.trn HL_v11.out t')
 clear t' v11
 have v11 := r'
 clear r'
 go_wp2_with (first | ((with_reducible refine load33 v9 l_m2 ?_ ?_ ?_); rfl; rfl) | ((with_reducible refine load33 v11 l_m3 ?_ ?_ ?_); rfl; rfl) | (go_at_call 14; (with_reducible refine (CS.out _ r2 m2 m3 o_m2.out o_m3.out e_m2.out e_m3.out a2.out.1 a2.out.2).mono ?_); rintro e w' ⟨rfl, d'⟩; refine Hid.out ?_))
 refine Lib.hid ?_
 replace v3 := v3.dn d'
 replace v7 := v7.dn d'
 replace v9 := v9.dn d'
 replace v11 := v11.dn d'
 replace o_m1 := Lib.hid (o_m1.out.dn d')
 replace o_m2 := Lib.hid (o_m2.out.dn d')
 replace o_m3 := Lib.hid (o_m3.out.dn d')
 replace HD := hT HD d'
 clear d'
 have ck0 := v11.time l_m3
 rw [nt3] at ck0
 have ck1 := v3.time hm.len
 rw [e_tt] at ck1
 go_wp2_with fail
 clear ck0 ck1
 have nx_v3 : b_v3 ∉ [] := (by simp)
 have nx_v7 : b_v7 ∉ [] := (by simp)
 have nx_v9 : b_v9 ∉ [] := (by simp)
 have nx_v11 : b_v11 ∉ [] := (by simp)
 have hbs : ∀ b ∈ ([] : List Nat), ∃ t cs, Blk w' b t cs ∧ NoU8 cs := fun b hb => absurd hb (by simp)
 have hbl : ∀ b ∈ ([] : List Nat), W.heap.size ≤ b := fun b hb => absurd hb (by simp)
 refine wp_region_picks [] [1, 2, 3, 6, 7, 8] 6 (by kernel_rfl) (by kernel_rfl) rfl (by kernel_rfl) ?_
 simp only [pickL, List.drop_succ_cons, List.drop_zero, List.take_succ_cons, List.take_zero, List.cons_append, List.nil_append]
 refine ⟨?_, ?_, ?_⟩
 rotate_left 1
 refine ⟨_, calx33 v3 hm.len nx_v3 (by rfl) rfl, ?_⟩
 simp only [Act.put, tA, tS, tZ]
 refine ⟨_, calx_pure (by rfl) (fun u => by go_simp; rfl), ?_⟩
 simp only [Act.put, tA, tS, tZ]
 refine ⟨_, calx_pure (by rfl) (fun u => by go_simp; rfl), ?_⟩
 simp only [Act.put, tA, tS, tZ]
 refine ⟨_, calx33 v7 l_m1 nx_v7 (by rfl) rfl, ?_⟩
 simp only [Act.put, tA, tS, tZ]
 refine ⟨_, calx_pure (by rfl) (fun u => by go_simp; rfl), ?_⟩
 simp only [Act.put, tA, tS, tZ]
 refine ⟨_, calx_pure (by rfl) (fun u => by go_simp; rfl), ?_⟩
 simp only [Act.put, tA, tS, tZ]
 exact rfl
 have e0 : Dx [] w' w'.drew := Dn.dx (Dn.drawn _)
 refine wpX_two 0 4 (by kernel_rfl) ?_ ?_
 focus
   refine x1_noT rfl e0 fun b_tl y1 dy tl e1 => ?_
   replace tl := Lib.hid tl
   replace e0 := e1
   clear dy e1
   simp only [Act.put, tA, tS, tZ]
   refine wpX_one 4 (by kernel_rfl) ?_
   refine x1_call rfl (by rfl) (fun u => by go_simp) e0 fun x0 dx ex => (D1.out x0 (hm.dn (HD.out.of_dx ex hbl)) (T.dn (HD.out.of_dx ex hbl))).mono ?_
   rintro e y0 ⟨tq1, rfl, tv1, d'⟩
   refine ⟨d', _, rfl, ?_⟩
   replace e0 := ex.trans (Dn.dx d')
   replace tl := Lib.hid ((tl.out.dn dx).dn d')
   have tv1 := Lib.hid tv1.out
   clear dx ex d'
   simp only [Act.put, tA, tS, tZ]
   refine wpX_one 5 (by kernel_rfl) ?_
   refine x1_appT rfl tl.out tv1.out (by have := ql.out; simp only [List.length_nil]; omega) (Nat.le_refl _) e0.size rfl rfl e0 fun va y1 ta dv e1 => ?_
   replace ta := Lib.hid ta
   replace e0 := e1
   clear dv e1 tl tv1
   simp only [Act.put, tA, tS, tZ]
   refine wpX_one 9 (by kernel_rfl) ?_
   refine x1_call rfl (by rfl) (fun u => by go_simp) e0 fun x0 dx ex => (D2.out x0 m1 (o_m1.out.dx ex hbs) e_m1.out (T.dn (HD.out.of_dx ex hbl))).mono ?_
   rintro e y0 ⟨tq2, rfl, tv2, d'⟩
   refine ⟨d', _, rfl, ?_⟩
   replace e0 := ex.trans (Dn.dx d')
   replace ta := Lib.hid ((ta.out.dn dx).dn d')
   have tv2 := Lib.hid tv2.out
   clear dx ex d'
   simp only [Act.put, tA, tS, tZ]
   refine wpX_one 10 (by kernel_rfl) ?_
   refine x1_appT rfl ta.out tv2.out (by have := ql.out; simp only [List.length_nil, List.length_append]; omega) (Nat.le_refl _) e0.size rfl rfl e0 fun vb y1 tb dv e1 => ?_
   replace tb := Lib.hid tb
   replace e0 := e1
   clear dv e1 ta tv2
   simp only [Act.put, tA, tS, tZ]
   refine wpX_pick2 (by kernel_rfl) e0 [11] 0 rfl (by kernel_rfl) ?_
   simp only [pickL, List.drop_succ_cons, List.drop_zero, List.take_succ_cons, List.take_zero, List.cons_append, List.nil_append]
   refine ⟨?_, ?_, ?_⟩
   rotate_left 1
   refine ⟨_, calx_pure (by rfl) (fun u => by go_simp; rfl), ?_⟩
   simp only [Act.put, tA, tS, tZ]
   exact rfl
 rotate_left 1
 focus
   refine x1_call rfl (by rfl) (fun u => by go_simp) e0 fun x0 dx ex => (D1.out x0 (hm.dn (HD.out.of_dx ex hbl)) (T.dn (HD.out.of_dx ex hbl))).mono ?_
   rintro e y0 ⟨tq1, rfl, tv1, d'⟩
   refine ⟨d', _, rfl, ?_⟩
   replace e0 := ex.trans (Dn.dx d')
   have tv1 := Lib.hid tv1.out
   clear dx ex d'
   simp only [Act.put, tA, tS, tZ]
   refine wpX_one 0 (by kernel_rfl) ?_
   refine x1_noT rfl e0 fun b_tl y1 dy tl e1 => ?_
   replace tv1 := Lib.hid (tv1.out.dn dy)
   replace tl := Lib.hid tl
   replace e0 := e1
   clear dy e1
   simp only [Act.put, tA, tS, tZ]
   refine wpX_one 5 (by kernel_rfl) ?_
   refine x1_appT rfl tl.out tv1.out (by have := ql.out; simp only [List.length_nil]; omega) (Nat.le_refl _) e0.size rfl rfl e0 fun va y1 ta dv e1 => ?_
   replace ta := Lib.hid ta
   replace e0 := e1
   clear dv e1 tl tv1
   simp only [Act.put, tA, tS, tZ]
   refine wpX_one 9 (by kernel_rfl) ?_
   refine x1_call rfl (by rfl) (fun u => by go_simp) e0 fun x0 dx ex => (D2.out x0 m1 (o_m1.out.dx ex hbs) e_m1.out (T.dn (HD.out.of_dx ex hbl))).mono ?_
   rintro e y0 ⟨tq2, rfl, tv2, d'⟩
   refine ⟨d', _, rfl, ?_⟩
   replace e0 := ex.trans (Dn.dx d')
   replace ta := Lib.hid ((ta.out.dn dx).dn d')
   have tv2 := Lib.hid tv2.out
   clear dx ex d'
   simp only [Act.put, tA, tS, tZ]
   refine wpX_one 10 (by kernel_rfl) ?_
   refine x1_appT rfl ta.out tv2.out (by have := ql.out; simp only [List.length_nil, List.length_append]; omega) (Nat.le_refl _) e0.size rfl rfl e0 fun vb y1 tb dv e1 => ?_
   replace tb := Lib.hid tb
   replace e0 := e1
   clear dv e1 ta tv2
   simp only [Act.put, tA, tS, tZ]
   refine wpX_pick2 (by kernel_rfl) e0 [11] 0 rfl (by kernel_rfl) ?_
   simp only [pickL, List.drop_succ_cons, List.drop_zero, List.take_succ_cons, List.take_zero, List.cons_append, List.nil_append]
   refine ⟨?_, ?_, ?_⟩
   rotate_left 1
   refine ⟨_, calx_pure (by rfl) (fun u => by go_simp; rfl), ?_⟩
   simp only [Act.put, tA, tS, tZ]
   exact rfl
 rotate_left 1
 all_goals
   refine wpX_end (by kernel_rfl) fun w' dx => NoPanic.normal ?_
   have D := e0.trans (Dn.dx dx)
   replace tb := Lib.hid (tb.out.dn dx)
   clear e0 dx
   replace v3 := v3.dx D nx_v3
   replace v7 := v7.dx D nx_v7
   replace v9 := v9.dx D nx_v9
   replace v11 := v11.dx D nx_v11
   replace o_m1 := Lib.hid (o_m1.out.dx D hbs)
   replace o_m2 := Lib.hid (o_m2.out.dx D hbs)
   replace o_m3 := Lib.hid (o_m3.out.dx D hbs)
   replace HD := Lib.hid (HD.out.of_dx D hbl)
   clear D hbs hbl nx_v3 nx_v7 nx_v9 nx_v11
   replace tb : Hid (Tr w' _ vb l3) := Lib.hid (by have h := tb.out; rw [List.nil_append, El.out] at h; exact h)
   obtain ⟨A9, c9, rfl⟩ := tb.out.form
   go_wp2_with (first | ((with_reducible refine load33 v3 hm.len ?_ ?_ ?_); rfl; rfl) | (go_at_call 16; (with_reducible refine (D3.out _ (hm.dn HD.out) (T.dn HD.out)).mono ?_); rintro e w' ⟨tq3, rfl, tv3, d'⟩; refine Hid.out ?_))
   refine Lib.hid ?_
   replace v3 := v3.dn d'
   replace v7 := v7.dn d'
   replace v9 := v9.dn d'
   replace v11 := v11.dn d'
   replace o_m1 := Lib.hid (o_m1.out.dn d')
   replace o_m2 := Lib.hid (o_m2.out.dn d')
   replace o_m3 := Lib.hid (o_m3.out.dn d')
   replace tb := Lib.hid (tb.out.dn d')
   replace HD := hT HD d'
   clear d'
   have tv3 := Lib.hid tv3.out
   go_wp2_with (first | (go_at_call 15; (with_reducible refine (C7.out _ _ _ _ _ tb.out tv3.out).mono ?_); rintro e w' ⟨rfl, d'⟩; refine Hid.out ?_))
   refine Lib.hid ?_
   replace v3 := v3.dn d'
   replace v7 := v7.dn d'
   replace v9 := v9.dn d'
   replace v11 := v11.dn d'
   replace o_m1 := Lib.hid (o_m1.out.dn d')
   replace o_m2 := Lib.hid (o_m2.out.dn d')
   replace o_m3 := Lib.hid (o_m3.out.dn d')
   replace tb := Lib.hid (tb.out.dn d')
   replace tv3 := Lib.hid (tv3.out.dn d')
   replace HD := hT HD d'
   clear d'
   go_wp2_with fail
   go_ret
   exact ⟨rfl, HD.out⟩
theorem rcoWalk (m : Mc) (n k : Int) (W : World) (hm : m.Ok W) (T : Env2 W) (hx : m.xs.length ≤ 9223372036854775807) (hy : m.ys.length ≤ 9223372036854775807) (n0 : 0 ≤ n) (n1 : n < 256) (k0 : 0 ≤ k) (k1 : k < 256) : Calls Tryz.prog 4 #[.agg (mach m), .int .u8 n, .int .u8 k] W fun e W' => e = .returned (.bool true) ∧ Dn W W' := by
 cases hf : decide (m.xs.length ≤ 600 ∧ m.ys.length ≤ 600)
 · exact rco_few m W hm T hx hy n k n0 n1 k0 k1 hf
 · by_cases h : 40 < n
   · exact rco_big0 m W hm T hx hy n k n0 n1 k0 k1 hf h
   · by_cases h2 : 40 < k
     · exact rco_big1 m W hm T hx hy n k n0 n1 k0 k1 hf h h2
     · by_cases h3 : (M.cntn n.toNat (M.st0 m) : Int) < n
       · exact rco_e m W hm T hx hy n k n0 n1 k0 k1 hf (by omega) (by omega) (fun N e => e ▸ h3)
       · exact rco_l m W hm T hx hy n k n0 n1 k0 k1 hf (by omega) (by omega) (fun N e => e ▸ h3)
end Go.Proofs.YtclpdjpaaagkdaaGreatDoor
namespace Go.Proofs.YtclpdjpaaagkdaaGreatDoor.runsCompose
open Go.ChangeShapes Go.WideShapes Go.ChangeAt Go.RowKit
set_option linter.unusedVariables false


theorem readable : ∀ t ∈ Tryz.f4.params.toList, Tryz.prog.readableRec t = true ∧ t < Tryz.prog.types.size := by
 rw [Tryz.params4]
 intro t ht
 have hall : ([30, 5, 5].all fun t => Tryz.prog.readableRec t && decide (t < Tryz.prog.types.size)) = true := by kernel_rfl
 have h := List.all_eq_true.1 hall t ht
 simp only [Bool.and_eq_true, decide_eq_true_eq] at h
 exact h

theorem said (H : Type) (ds : List (DataW H)) (hl : ds.length = Tryz.f4.params.size) : (Rows.runsComposeSpec.fn H ds).results = [.lit (.bool true)] ∧ (Rows.runsComposeSpec.fn H ds).args = ds ∧ (Rows.runsComposeSpec.fn H ds).vars = [] := by
 rw [Tryz.params4] at hl
 match ds, hl with
 | [d0, d1, d2], _ => exact ⟨rfl, rfl, rfl⟩

set_option maxRecDepth 100000 in
theorem walk {H : Type} {enc : TypeId × Value → H} (W : World) (base : Nat) (args : Array Value) (ds : List (DataW H)) (ps : List MemPlace) (E : Env W)
   (hval : ∀ (j : Nat) t v, Tryz.f4.params[j]? = some t → args[j]? = some v → Value.okWide Tryz.prog W .any base t v)
   (hA : DataW.TrodAll enc Tryz.prog W 0 (fun _ => true) true Tryz.f4.params.toList args.toList ds ps) :
   Calls Tryz.prog 4 args W fun e W' => e = .returned (.bool true) ∧ Dn W W' := by
 rw [Tryz.params4] at hA hval
 obtain ⟨v0, vs0, d0, ds0, p0, q0, hargs, rfl, rfl, h0, r0⟩ := trodAll_cons hA
 obtain ⟨v1, vs1, d1, ds1, p1, q1, rfl, rfl, rfl, h1, r1⟩ := trodAll_cons r0
 obtain ⟨v2, vs2, d2, ds2, p2, q2, rfl, rfl, rfl, h2, r2⟩ := trodAll_cons r1
 obtain ⟨rfl, rfl, rfl⟩ := trodAll_nil r2
 obtain rfl : args = #[v0, v1, v2] := by cases args; simp_all
 obtain ⟨m0, rfl, o0, l0, y0⟩ := open33 (hval 0 30 v0 rfl rfl) h0
 obtain ⟨x1, rfl, rfl, rfl, w1⟩ := open_int Tryz.underlying5 (hval 1 5 v1 rfl rfl) h1
 have bd1 := bounds_u8 w1
 obtain ⟨x2, rfl, rfl, rfl, w2⟩ := open_int Tryz.underlying5 (hval 2 5 v2 rfl rfl) h2
 have bd2 := bounds_u8 w2
 exact rcoWalk m0 x1 x2 W o0 E.two  l0 y0 (by omega) (by omega) (by omega) (by omega) 

set_option maxRecDepth 100000 in
theorem lifted (os : Os) (started : os.Started) (H : Type) (enc : TypeId × Value → H) :
   ReturnsInHanded {} Tryz.checked os 4 .any (fun w args => (Rows.runsComposeSpec.pre enc Tryz.prog Tryz.f4 [] false w args ∧ laidMetH Tryz.prog laidL w) ∧ sizedMet enc Tryz.prog Tryz.f4 (OpenSpec.ofChange Rows.runsComposeSpec) false w args)
     (Rows.runsComposeSpec.post enc Tryz.prog Tryz.f4 false true false false) :=
 returns_of_walk (C := Tryz.checked) rfl own started (by kernel_rfl) Tryz.func4 rfl readable (by kernel_rfl) said
   (ChangeSpec.witness_shaped (enc := enc) (C := Tryz.checked) (os := os) (X := fun w _ => laidMetH Tryz.prog laidL w) false (World.laidAll Tryz.prog os laidL) #[.agg #[.int .u32 0, .int .u32 0, .int .u32 0, .int .u32 0, .int .u32 0, .int .u32 0, .int .u32 0, .int .u32 0, .int .u32 0, .int .u32 0, .int .u32 0, .int .u32 0, .int .u32 0, .int .u32 0, .int .u32 0, .int .u32 0, .int .u32 0, .int .u32 0, .int .u32 0, .int .u32 0, .int .u32 0, .int .u32 0, .int .u32 0, .int .u32 0, .int .u32 0, .int .u32 0, .int .u32 0, .int .u32 0, .int .u32 0, .slice none 0 0, .int .u64 0, .slice none 0 0, .bool false], .int .u8 0, .int .u8 0] 8 (World.laidAll_os _ _ _)
     (start_shaped os _) (by kernel_rfl) (by kernel_rfl) (by kernel_rfl) (start_met os _)) walk

theorem over : Rows.RunsComposeSaid :=
 OpenClaim.holds_of_wide 4 Tryz.f4 rfl rfl rfl rfl rfl rfl rfl ⟨rfl, rfl, rfl, rfl, rfl⟩ rfl rfl rfl rfl rfl (by kernel_rfl) Tryz.func4 (by kernel_rfl)
   (of_decide_eq_true (by kernel_rfl)) (by unfold Func.isWrapper; first | (rw [if_pos (by decide +kernel)]; kernel_rfl) | (rw [if_neg (by decide +kernel)]; exact ⟨rfl, rfl⟩))
   (fun os started H enc _ => lifted os started H enc)

theorem proved : Rows.RunsComposeCardSaid :=
 Claim7.holds_tied_plain_at .later [] [.data, .data, .data] true (true, "00447fa595675de86dbacc44586d93df9b9cc5cda1eaed7296832adaa0b000a3") false
   over (fun _ h => by cases h) (by kernel_rfl) (fun _ h => by cases h) runsCompose_row_tie rfl ⟨rfl, rfl⟩ (by kernel_rfl) rfl
   (fun f fn hf hfn => by
     obtain rfl : f = 4 := Option.some.inj ((show Tryz.prog.funcNamed "gaoler/gaolerlaw14.RunsCompose" = some 4 by kernel_rfl).symm.trans hf) |>.symm
     obtain rfl : fn = Tryz.f4 := (Option.some.inj (Tryz.func4.symm.trans hfn)).symm
     exact ⟨by kernel_rfl, fun j t ht => by
       rw [Tryz.params4] at ht
       have hm : t ∈ [30, 5, 5] := by simpa using Array.mem_of_getElem? ht
       have hall : ([30, 5, 5].all fun u => !Tryz.prog.wantsStandIn u) = true := by kernel_rfl
       exact (show Tryz.prog.wantsStandIn t = false by simpa using List.all_eq_true.1 hall t hm)⟩)
   (by kernel_rfl)
#print axioms proved
end Go.Proofs.YtclpdjpaaagkdaaGreatDoor.runsCompose
