/-
  The law RunMatchesReference of the law package returns true at every input, and each argument reads as it did; conditions: the listed package variables hold what the program's text lays there (the card ties them to it).
-/
import Derived.Test.YtclpdjpaaagkdaaGreatDoorCards
import Derived.Test.YtclpdjpaaagkdaaGreatDoorTie
import Derived.Test.YtclpdjpaaagkdaaGreatDoorPmJ
import Derived.Test.YtclpdjpaaagkdaaGreatDoorPmQ
import Derived.Test.YtclpdjpaaagkdaaGreatDoorPmW
import Derived.Test.YtclpdjpaaagkdaaGreatDoorPmG
namespace Go.Proofs.YtclpdjpaaagkdaaGreatDoor
open Go.ChangeShapes Go.WideShapes Go.ChangeAt Go.RowKit Go.Sort
set_option linter.unusedVariables false

theorem trc {f : FuncId} {args : Array Value} {w : World} {l : List (Int × Int)} (h : Calls Tryz.prog f args w fun e W' => ∃ v, e = .returned v ∧ Hid (Tr W' w.heap.size v l) ∧ Dn w W') : Calls Tryz.prog f args w fun e W' => ∃ v, e = .returned v ∧ Hid (Tr W' 0 v l) ∧ Dn w W' :=
 h.mono fun e W' h => by
   obtain ⟨v, e1, t, d⟩ := h
   exact ⟨v, e1, Lib.hid (t.out.mono (Nat.zero_le _)), d⟩
set_option maxRecDepth 100000 in
set_option maxHeartbeats 2000000 in
theorem rmr_few (m : Mc) (W : World) (hm : m.Ok W) (T : Env2 W) (hx : m.xs.length ≤ 9223372036854775807) (hy : m.ys.length ≤ 9223372036854775807) (n p : Int) (n0 : -9223372036854775808 ≤ n) (n1 : n < 9223372036854775808) (p0 : 0 ≤ p) (p1 : p < 4294967296) (hf : decide (m.xs.length ≤ 600 ∧ m.ys.length ≤ 600) = false) :
   Calls Tryz.prog 3 #[.agg (mach m), .int .i64 n, .int .u32 p] W fun e W' => e = .returned (.bool true) ∧ Dn W W' := by
 have C0 := Lib.hid fun w => fun (t : Env2 w) => awakeR w t
 have CF := Lib.hid fun w => fun (ow : m.Ok w) => rfew m false w ow hx hy hf
 clear hf
 have HD := Lib.hid (Dn.refl W)
 go_enter Tryz.func3, Tryz.ntmps3
 go_wp2_with (first | ((with_reducible refine wpList_box (vs := (mach m)) ?_ ?_ ?_); rfl; rfl; intro b_v3 w' nn; refine Hid.out ?_))
 refine Lib.hid ?_
 have d' := nn.dn
 replace HD := hT HD d'
 have v3 := nn.blk
 clear d' nn
 go_wp2_with (first | (go_at_call 8; (with_reducible refine (C0.out _ (T.dn HD.out)).mono ?_); rintro e w' ⟨rfl, d'⟩; refine Hid.out ?_))
 refine Lib.hid ?_
 replace v3 := v3.dn d'
 replace HD := hT HD d'
 clear d'
 go_wp2_with (first | ((with_reducible refine load33 v3 hm.len ?_ ?_ ?_); rfl; rfl) | (go_at_call 9; (with_reducible refine (CF.out _ (hm.dn HD.out)).mono ?_); rintro e w' ⟨rfl, d'⟩; refine Hid.out ?_))
 refine Lib.hid ?_
 replace v3 := v3.dn d'
 replace HD := hT HD d'
 clear d'
 go_wp2_with (first | (go_at_call 8; (with_reducible refine (C0.out _ (T.dn HD.out)).mono ?_); rintro e w' ⟨rfl, d'⟩; refine Hid.out ?_))
 refine Lib.hid ?_
 replace v3 := v3.dn d'
 replace HD := hT HD d'
 clear d'
 go_wp2_with fail
 go_ret
 exact ⟨rfl, HD.out⟩
set_option maxRecDepth 100000 in
set_option maxHeartbeats 2000000 in
theorem rmr_big (m : Mc) (W : World) (hm : m.Ok W) (T : Env2 W) (hx : m.xs.length ≤ 9223372036854775807) (hy : m.ys.length ≤ 9223372036854775807) (n p : Int) (n0 : -9223372036854775808 ≤ n) (n1 : n < 9223372036854775808) (p0 : 0 ≤ p) (p1 : p < 4294967296) (hf : decide (m.xs.length ≤ 600 ∧ m.ys.length ≤ 600) = true) (hn60 : 60 < n) :
   Calls Tryz.prog 3 #[.agg (mach m), .int .i64 n, .int .u32 p] W fun e W' => e = .returned (.bool true) ∧ Dn W W' := by
 have C0 := Lib.hid fun w => fun (t : Env2 w) => awakeR w t
 have CF := Lib.hid fun w => fun (ow : m.Ok w) => rfew m true w ow hx hy hf
 clear hf
 have HD := Lib.hid (Dn.refl W)
 go_enter Tryz.func3, Tryz.ntmps3
 go_wp2_with (first | ((with_reducible refine wpList_box (vs := (mach m)) ?_ ?_ ?_); rfl; rfl; intro b_v3 w' nn; refine Hid.out ?_))
 refine Lib.hid ?_
 have d' := nn.dn
 replace HD := hT HD d'
 have v3 := nn.blk
 clear d' nn
 go_wp2_with (first | (go_at_call 8; (with_reducible refine (C0.out _ (T.dn HD.out)).mono ?_); rintro e w' ⟨rfl, d'⟩; refine Hid.out ?_))
 refine Lib.hid ?_
 replace v3 := v3.dn d'
 replace HD := hT HD d'
 clear d'
 go_wp2_with (first | ((with_reducible refine load33 v3 hm.len ?_ ?_ ?_); rfl; rfl) | (go_at_call 9; (with_reducible refine (CF.out _ (hm.dn HD.out)).mono ?_); rintro e w' ⟨rfl, d'⟩; refine Hid.out ?_))
 refine Lib.hid ?_
 replace v3 := v3.dn d'
 replace HD := hT HD d'
 clear d'
 go_wp2_with (first | (go_at_call 8; (with_reducible refine (C0.out _ (T.dn HD.out)).mono ?_); rintro e w' ⟨rfl, d'⟩; refine Hid.out ?_))
 refine Lib.hid ?_
 replace v3 := v3.dn d'
 replace HD := hT HD d'
 clear d'
 go_wp2_with fail
 go_ret
 exact ⟨rfl, HD.out⟩
set_option maxRecDepth 100000 in
set_option maxHeartbeats 2000000 in
theorem rmr_main (m : Mc) (W : World) (hm : m.Ok W) (T : Env2 W) (hx : m.xs.length ≤ 9223372036854775807) (hy : m.ys.length ≤ 9223372036854775807) (n p : Int) (n0 : -9223372036854775808 ≤ n) (n1 : n < 9223372036854775808) (p0 : 0 ≤ p) (p1 : p < 4294967296) (hf : decide (m.xs.length ≤ 600 ∧ m.ys.length ≤ 600) = true) (hn60 : n ≤ 60) :
   Calls Tryz.prog 3 #[.agg (mach m), .int .i64 n, .int .u32 p] W fun e W' => e = .returned (.bool true) ∧ Dn W W' := by
 have hl := hm.len
 have hs : m.xs.length ≤ 600 := by simp only [decide_eq_true_eq] at hf; omega
 have hn : m.ys.length ≤ 600 := by simp only [decide_eq_true_eq] at hf; omega
 obtain ⟨s, es⟩ : ∃ s, M.st0 m = s := ⟨_, rfl⟩
 obtain ⟨N, eN⟩ : ∃ N, M.cntn n.toNat s = N := ⟨_, rfl⟩
 obtain ⟨r, er⟩ : ∃ r, M.gon n.toNat s = r := ⟨_, rfl⟩
 obtain ⟨K, eK⟩ : ∃ K, (M.unt p n.toNat s).2.1 = K := ⟨_, rfl⟩
 obtain ⟨b, eb⟩ : ∃ b, (M.unt p n.toNat s).2.2 = b := ⟨_, rfl⟩
 obtain ⟨q, eq⟩ : ∃ q, (M.unt p n.toNat s).1 = q := ⟨_, rfl⟩
 obtain ⟨l, el⟩ : ∃ l, M.trn n.toNat s = l := ⟨_, rfl⟩
 have C0 := Lib.hid fun w => fun (t : Env2 w) => awakeR w t
 have CF := Lib.hid fun w => fun (ow : m.Ok w) => rfew m true w ow hx hy hf
 clear hf
 have C1 := Lib.hid fun w => fun (ow : m.Ok w) (t : Env2 w) => rnRunL m n s es N eN r er w ow (by omega) (by omega) n0 n1 t
 have C2 := Lib.hid fun w => fun (ow : m.Ok w) => rRunL m n s es N eN r er w ow (by omega) (by omega) n0 n1
 have C3 := Lib.hid fun w => fun (ow : m.Ok w) (t : Env2 w) => rnUntilL m n p s es K eK b eb q eq w ow (by omega) (by omega) n0 n1 t
 have C4 := Lib.hid fun w => fun (ow : m.Ok w) => rUntilL m n p s es K eK b eb q eq w ow (by omega) (by omega) n0 n1
 have C5 := Lib.hid fun w => fun (ow : m.Ok w) (t : Env2 w) => trc (rnTrapsL m n s es l el w ow (by omega) (by omega) n0 n1 t)
 have C6 := Lib.hid fun w => fun (ow : m.Ok w) => trc (rTrapsL m n s es l el w ow (by omega) (by omega) n0 n1)
 have hq : r.z.length ≤ 100000 ∧ r.ys.length ≤ 100000 ∧ q.z.length ≤ 100000 ∧ q.ys.length ≤ 100000 ∧ l.length ≤ 100000 := by
   have h1 := M.gon_len n.toNat s
   have h2 := M.unt_run p n.toNat s
   have h3 := M.gon_len (M.unt p n.toNat s).2.1 s
   have h4 := M.trn_len n.toNat s
   have h5 := M.cntn_le n.toNat s
   have h6 : s.z.length = m.xs.length ∧ s.ys.length = m.ys.length := by rw [← es]; exact ⟨rfl, rfl⟩
   rw [← h2.2.1, eq] at h3
   rw [er] at h1
   rw [el] at h4
   have h7 := h2.1
   omega
 have a1 : Hid (r.z.length ≤ 100000 ∧ r.ys.length ≤ 100000) := Lib.hid ⟨hq.1, hq.2.1⟩
 have a2 : Hid (q.z.length ≤ 100000 ∧ q.ys.length ≤ 100000) := Lib.hid ⟨hq.2.2.1, hq.2.2.2.1⟩
 have al := Lib.hid hq.2.2.2.2
 have CS := Lib.hid fun (w : World) (r : M.SRes) (m1 m2 : Mc) (o1 : m1.Ok w) (o2 : m2.Ok w) (f1 : Sd r m1) (f2 : Sd r m2) (a : r.z.length ≤ 100000) (b : r.ys.length ≤ 100000) => rsame_s w o1 o2 f1 f2 rfl rfl rfl rfl rfl a b
 have C7 := Lib.hid fun (w : World) (v u : Value) (tv : Tr w 0 v l) (tu : Tr w 0 u l) => rSame14 tv tu al.out
 clear es eN er eK eb eq el hq n0 n1 hs hn
 have hN : ((N : Int) == N) = true := by simp
 have hK : ((K : Int) == K) = true := by simp
 have hb : (b == b) = true := by simp
 have HD := Lib.hid (Dn.refl W)
 go_enter Tryz.func3, Tryz.ntmps3
 go_wp2_with (first | ((with_reducible refine wpList_box (vs := (mach m)) ?_ ?_ ?_); rfl; rfl; intro b_v3 w' nn; refine Hid.out ?_))
 refine Lib.hid ?_
 have d' := nn.dn
 replace HD := hT HD d'
 have v3 := nn.blk
 clear d' nn
 go_wp2_with (first | (go_at_call 8; (with_reducible refine (C0.out _ (T.dn HD.out)).mono ?_); rintro e w' ⟨rfl, d'⟩; refine Hid.out ?_))
 refine Lib.hid ?_
 replace v3 := v3.dn d'
 replace HD := hT HD d'
 clear d'
 go_wp2_with (first | ((with_reducible refine load33 v3 hm.len ?_ ?_ ?_); rfl; rfl) | (go_at_call 9; (with_reducible refine (CF.out _ (hm.dn HD.out)).mono ?_); rintro e w' ⟨rfl, d'⟩; refine Hid.out ?_))
 refine Lib.hid ?_
 replace v3 := v3.dn d'
 replace HD := hT HD d'
 clear d'
 go_wp2_with (first | ((with_reducible refine load33 v3 hm.len ?_ ?_ ?_); rfl; rfl) | (go_at_call 10; (with_reducible refine (C1.out _ (hm.dn HD.out) (T.dn HD.out)).mono ?_); rintro e w' ⟨m1, rfl, o_m1, e_m1, d'⟩; refine Hid.out ?_))
 refine Lib.hid ?_
 replace v3 := v3.dn d'
 replace HD := hT HD d'
 clear d'
 have l_m1 := o_m1.out.len
 have o_m1 := Lib.hid o_m1.out
 go_wp2_with (first | ((with_reducible refine wpList_alloc zeroMach ?_ ?_); rfl; intro b_v7 w' nn; refine Hid.out ?_))
 refine Lib.hid ?_
 have n_v3_v7 := Lib.hid (nn.ne _ v3.lt)
 have HL_v7 : Hid (W.heap.size ≤ b_v7) := Lib.hid (Blk.hi nn HD.out.size)
 have d' := nn.dn
 replace v3 := v3.dn d'
 replace o_m1 := Lib.hid (o_m1.out.dn d')
 replace HD := hT HD d'
 have v7 := nn.blk
 clear d' nn
 go_wp2_with (first | ((with_reducible refine store33 m1 l_m1 v7 zlen ?_ ?_ ?_ ?_); rfl; rfl; rfl; intro w' r' t'; refine Hid.out ?_))
 refine Lib.hid ?_
 replace o_m1 := Lib.hid (o_m1.out.trn v7 (NoU8.mach _) t')
 replace v3 := v3.trn t' n_v3_v7.out
 replace HD := Lib.hid (HD.out.trn HL_v7.out t')
 clear t' v7
 have v7 := r'
 clear r'
 go_wp2_with (first | ((with_reducible refine load33 v3 hm.len ?_ ?_ ?_); rfl; rfl) | (go_at_call 11; (with_reducible refine (C2.out _ (hm.dn HD.out)).mono ?_); rintro e w' ⟨m2, rfl, o_m2, e_m2, d'⟩; refine Hid.out ?_))
 refine Lib.hid ?_
 replace v3 := v3.dn d'
 replace v7 := v7.dn d'
 replace o_m1 := Lib.hid (o_m1.out.dn d')
 replace HD := hT HD d'
 clear d'
 have l_m2 := o_m2.out.len
 have o_m2 := Lib.hid o_m2.out
 go_wp2_with (first | ((with_reducible refine wpList_alloc zeroMach ?_ ?_); rfl; intro b_v9 w' nn; refine Hid.out ?_))
 refine Lib.hid ?_
 have n_v3_v9 := Lib.hid (nn.ne _ v3.lt)
 have n_v7_v9 := Lib.hid (nn.ne _ v7.lt)
 have HL_v9 : Hid (W.heap.size ≤ b_v9) := Lib.hid (Blk.hi nn HD.out.size)
 have d' := nn.dn
 replace v3 := v3.dn d'
 replace v7 := v7.dn d'
 replace o_m1 := Lib.hid (o_m1.out.dn d')
 replace o_m2 := Lib.hid (o_m2.out.dn d')
 replace HD := hT HD d'
 have v9 := nn.blk
 clear d' nn
 go_wp2_with (first | ((with_reducible refine store33 m2 l_m2 v9 zlen ?_ ?_ ?_ ?_); rfl; rfl; rfl; intro w' r' t'; refine Hid.out ?_))
 refine Lib.hid ?_
 replace o_m1 := Lib.hid (o_m1.out.trn v9 (NoU8.mach _) t')
 replace o_m2 := Lib.hid (o_m2.out.trn v9 (NoU8.mach _) t')
 replace v3 := v3.trn t' n_v3_v9.out
 replace v7 := v7.trn t' n_v7_v9.out
 replace HD := Lib.hid (HD.out.trn HL_v9.out t')
 clear t' v9
 have v9 := r'
 clear r'
 go_wp2_with (first | ((with_reducible refine load33 v3 hm.len ?_ ?_ ?_); rfl; rfl) | (go_at_call 12; (with_reducible refine (C3.out _ (hm.dn HD.out) (T.dn HD.out)).mono ?_); rintro e w' ⟨m3, rfl, o_m3, e_m3, d'⟩; refine Hid.out ?_))
 refine Lib.hid ?_
 replace v3 := v3.dn d'
 replace v7 := v7.dn d'
 replace v9 := v9.dn d'
 replace o_m1 := Lib.hid (o_m1.out.dn d')
 replace o_m2 := Lib.hid (o_m2.out.dn d')
 replace HD := hT HD d'
 clear d'
 have l_m3 := o_m3.out.len
 have o_m3 := Lib.hid o_m3.out
 go_wp2_with (first | ((with_reducible refine wpList_alloc zeroMach ?_ ?_); rfl; intro b_v11 w' nn; refine Hid.out ?_))
 refine Lib.hid ?_
 have n_v3_v11 := Lib.hid (nn.ne _ v3.lt)
 have n_v7_v11 := Lib.hid (nn.ne _ v7.lt)
 have n_v9_v11 := Lib.hid (nn.ne _ v9.lt)
 have HL_v11 : Hid (W.heap.size ≤ b_v11) := Lib.hid (Blk.hi nn HD.out.size)
 have d' := nn.dn
 replace v3 := v3.dn d'
 replace v7 := v7.dn d'
 replace v9 := v9.dn d'
 replace o_m1 := Lib.hid (o_m1.out.dn d')
 replace o_m2 := Lib.hid (o_m2.out.dn d')
 replace o_m3 := Lib.hid (o_m3.out.dn d')
 replace HD := hT HD d'
 have v11 := nn.blk
 clear d' nn
 go_wp2_with (first | ((with_reducible refine store33 m3 l_m3 v11 zlen ?_ ?_ ?_ ?_); rfl; rfl; rfl; intro w' r' t'; refine Hid.out ?_))
 refine Lib.hid ?_
 replace o_m1 := Lib.hid (o_m1.out.trn v11 (NoU8.mach _) t')
 replace o_m2 := Lib.hid (o_m2.out.trn v11 (NoU8.mach _) t')
 replace o_m3 := Lib.hid (o_m3.out.trn v11 (NoU8.mach _) t')
 replace v3 := v3.trn t' n_v3_v11.out
 replace v7 := v7.trn t' n_v7_v11.out
 replace v9 := v9.trn t' n_v9_v11.out
 replace HD := Lib.hid (HD.out.trn HL_v11.out t')
 clear t' v11
 have v11 := r'
 clear r'
 go_wp2_with (first | ((with_reducible refine load33 v3 hm.len ?_ ?_ ?_); rfl; rfl) | (go_at_call 13; (with_reducible refine (C4.out _ (hm.dn HD.out)).mono ?_); rintro e w' ⟨m4, rfl, o_m4, e_m4, d'⟩; refine Hid.out ?_))
 refine Lib.hid ?_
 replace v3 := v3.dn d'
 replace v7 := v7.dn d'
 replace v9 := v9.dn d'
 replace v11 := v11.dn d'
 replace o_m1 := Lib.hid (o_m1.out.dn d')
 replace o_m2 := Lib.hid (o_m2.out.dn d')
 replace o_m3 := Lib.hid (o_m3.out.dn d')
 replace HD := hT HD d'
 clear d'
 have l_m4 := o_m4.out.len
 have o_m4 := Lib.hid o_m4.out
 go_wp2_with (first | ((with_reducible refine wpList_alloc zeroMach ?_ ?_); rfl; intro b_v14 w' nn; refine Hid.out ?_))
 refine Lib.hid ?_
 have n_v3_v14 := Lib.hid (nn.ne _ v3.lt)
 have n_v7_v14 := Lib.hid (nn.ne _ v7.lt)
 have n_v9_v14 := Lib.hid (nn.ne _ v9.lt)
 have n_v11_v14 := Lib.hid (nn.ne _ v11.lt)
 have HL_v14 : Hid (W.heap.size ≤ b_v14) := Lib.hid (Blk.hi nn HD.out.size)
 have d' := nn.dn
 replace v3 := v3.dn d'
 replace v7 := v7.dn d'
 replace v9 := v9.dn d'
 replace v11 := v11.dn d'
 replace o_m1 := Lib.hid (o_m1.out.dn d')
 replace o_m2 := Lib.hid (o_m2.out.dn d')
 replace o_m3 := Lib.hid (o_m3.out.dn d')
 replace o_m4 := Lib.hid (o_m4.out.dn d')
 replace HD := hT HD d'
 have v14 := nn.blk
 clear d' nn
 go_wp2_with (first | ((with_reducible refine store33 m4 l_m4 v14 zlen ?_ ?_ ?_ ?_); rfl; rfl; rfl; intro w' r' t'; refine Hid.out ?_))
 refine Lib.hid ?_
 replace o_m1 := Lib.hid (o_m1.out.trn v14 (NoU8.mach _) t')
 replace o_m2 := Lib.hid (o_m2.out.trn v14 (NoU8.mach _) t')
 replace o_m3 := Lib.hid (o_m3.out.trn v14 (NoU8.mach _) t')
 replace o_m4 := Lib.hid (o_m4.out.trn v14 (NoU8.mach _) t')
 replace v3 := v3.trn t' n_v3_v14.out
 replace v7 := v7.trn t' n_v7_v14.out
 replace v9 := v9.trn t' n_v9_v14.out
 replace v11 := v11.trn t' n_v11_v14.out
 replace HD := Lib.hid (HD.out.trn HL_v14.out t')
 clear t' v14
 have v14 := r'
 clear r'
 go_wp2_with fail
 have nx_v3 : b_v3 ∉ [] := (by simp)
 have nx_v7 : b_v7 ∉ [] := (by simp)
 have nx_v9 : b_v9 ∉ [] := (by simp)
 have nx_v11 : b_v11 ∉ [] := (by simp)
 have nx_v14 : b_v14 ∉ [] := (by simp)
 have hbs : ∀ b ∈ ([] : List Nat), ∃ t cs, Blk w' b t cs ∧ NoU8 cs := fun b hb => absurd hb (by simp)
 have hbl : ∀ b ∈ ([] : List Nat), W.heap.size ≤ b := fun b hb => absurd hb (by simp)
 refine wp_region_picks [] [0, 1, 2, 3, 4, 5, 6, 7, 8, 9, 10, 12, 13] 20 (by kernel_rfl) (by kernel_rfl) rfl (by kernel_rfl) ?_
 simp only [pickL, List.drop_succ_cons, List.drop_zero, List.take_succ_cons, List.take_zero, List.cons_append, List.nil_append]
 refine ⟨?_, ?_, ?_⟩
 rotate_left 1
 refine ⟨_, calx33 v7 l_m1 nx_v7 (by rfl) rfl, ?_⟩
 simp only [Act.put, tA, tS, tZ]
 refine ⟨_, calx33 v9 l_m2 nx_v9 (by rfl) rfl, ?_⟩
 simp only [Act.put, tA, tS, tZ]
 refine ⟨_, calx_call (fun u du => CS.out u r m1 m2 (o_m1.out.dx du hbs) (o_m2.out.dx du hbs) e_m1.out e_m2.out a1.out.1 a1.out.2) (by rfl) (fun u => by go_simp), ?_⟩
 simp only [Act.put, tA, tS, tZ]
 refine ⟨_, calx_pure (by rfl) (fun u => by go_simp; rfl), ?_⟩
 simp only [Act.put, tA, tS, tZ]
 refine ⟨_, calx_pure (by rfl) (fun u => by go_simp; rfl), ?_⟩
 simp only [Act.put, tA, tS, tZ]
 refine ⟨_, calx_pure (by rfl) (fun u => by go_simp; rfl), ?_⟩
 simp only [Act.put, tA, tS, tZ]
 refine ⟨_, calx_pure (by rfl) (fun u => by go_simp; rfl), ?_⟩
 simp only [Act.put, tA, tS, tZ]
 refine ⟨_, calx_pure (by rfl) (fun u => by go_simp; rfl), ?_⟩
 simp only [Act.put, tA, tS, tZ]
 refine ⟨_, calx_pure (by rfl) (fun u => by go_simp; rfl), ?_⟩
 simp only [Act.put, tA, tS, tZ]
 refine ⟨_, calx33 v3 hm.len nx_v3 (by rfl) rfl, ?_⟩
 simp only [Act.put, tA, tS, tZ]
 refine ⟨_, calx_pure (by rfl) (fun u => by go_simp; rfl), ?_⟩
 simp only [Act.put, tA, tS, tZ]
 refine ⟨_, calx33 v3 hm.len nx_v3 (by rfl) rfl, ?_⟩
 simp only [Act.put, tA, tS, tZ]
 refine ⟨_, calx_pure (by rfl) (fun u => by go_simp; rfl), ?_⟩
 simp only [Act.put, tA, tS, tZ]
 exact rfl
 have e0 : Dx [] w' w'.drew := Dn.dx (Dn.drawn _)
 refine wpX_one 11 (by kernel_rfl) ?_
 refine x1_call rfl (by rfl) (fun u => by go_simp) e0 fun x0 dx ex => (C5.out x0 (hm.dn (HD.out.of_dx ex hbl)) (T.dn (HD.out.of_dx ex hbl))).mono ?_
 rintro e y0 ⟨v1, rfl, tv1, d'⟩
 refine ⟨d', _, rfl, ?_⟩
 replace e0 := ex.trans (Dn.dx d')
 have tv1 := Lib.hid tv1.out
 clear dx ex d'
 simp only [Act.put, tA, tS, tZ]
 refine wpX_one 14 (by kernel_rfl) ?_
 refine x1_call rfl (by rfl) (fun u => by go_simp) e0 fun x0 dx ex => (C6.out x0 (hm.dn (HD.out.of_dx ex hbl))).mono ?_
 rintro e y0 ⟨v2, rfl, tv2, d'⟩
 refine ⟨d', _, rfl, ?_⟩
 replace e0 := ex.trans (Dn.dx d')
 replace tv1 := Lib.hid ((tv1.out.dn dx).dn d')
 have tv2 := Lib.hid tv2.out
 clear dx ex d'
 simp only [Act.put, tA, tS, tZ]
 refine wpX_one 15 (by kernel_rfl) ?_
 refine x1_call rfl (by rfl) (fun u => by go_simp) e0 fun x0 dx ex => (C7.out x0 v1 v2 (tv1.out.dn dx) (tv2.out.dn dx)).mono ?_
 rintro e y0 ⟨rfl, d'⟩
 refine ⟨d', _, rfl, ?_⟩
 replace e0 := ex.trans (Dn.dx d')
 replace tv1 := Lib.hid ((tv1.out.dn dx).dn d')
 replace tv2 := Lib.hid ((tv2.out.dn dx).dn d')
 clear dx ex d'
 simp only [Act.put, tA, tS, tZ]
 refine wpX_pick2 (by kernel_rfl) e0 [16, 17, 18, 19, 20, 21, 22, 23, 24, 25, 26, 27, 28, 29, 30, 31, 32] 0 rfl (by kernel_rfl) ?_
 simp only [pickL, List.drop_succ_cons, List.drop_zero, List.take_succ_cons, List.take_zero, List.cons_append, List.nil_append]
 refine ⟨?_, ?_, ?_⟩
 rotate_left 1
 refine ⟨_, calx_pure (by rfl) (fun u => by go_simp; rfl), ?_⟩
 simp only [Act.put, tA, tS, tZ]
 refine ⟨_, calx_pure (by rfl) (fun u => by go_simp; rfl), ?_⟩
 simp only [Act.put, tA, tS, tZ]
 refine ⟨_, calx33 v11 l_m3 nx_v11 (by rfl) rfl, ?_⟩
 simp only [Act.put, tA, tS, tZ]
 refine ⟨_, calx33 v14 l_m4 nx_v14 (by rfl) rfl, ?_⟩
 simp only [Act.put, tA, tS, tZ]
 refine ⟨_, calx_call (fun u du => CS.out u q m3 m4 (o_m3.out.dx du hbs) (o_m4.out.dx du hbs) e_m3.out e_m4.out a2.out.1 a2.out.2) (by rfl) (fun u => by go_simp), ?_⟩
 simp only [Act.put, tA, tS, tZ]
 refine ⟨_, calx_pure (by rfl) (fun u => by go_simp; rfl), ?_⟩
 simp only [Act.put, tA, tS, tZ]
 refine ⟨_, calx_pure (by rfl) (fun u => by go_simp; rfl), ?_⟩
 simp only [Act.put, tA, tS, tZ]
 refine ⟨_, calx_pure (by rfl) (fun u => by go_simp; rfl), ?_⟩
 simp only [Act.put, tA, tS, tZ]
 refine ⟨_, calx_pure (by rfl) (fun u => by go_simp; rfl), ?_⟩
 simp only [Act.put, tA, tS, tZ]
 refine ⟨_, calx_pure (by rfl) (fun u => by go_simp; rfl), ?_⟩
 simp only [Act.put, tA, tS, tZ]
 refine ⟨_, calx_pure (by rfl) (fun u => by go_simp; rfl), ?_⟩
 simp only [Act.put, tA, tS, tZ]
 refine ⟨_, calx_pure (by rfl) (fun u => by go_simp; rfl), ?_⟩
 simp only [Act.put, tA, tS, tZ]
 refine ⟨_, calx_pure (by rfl) (fun u => by go_simp; rfl), ?_⟩
 simp only [Act.put, tA, tS, tZ]
 refine ⟨_, calx_pure (by rfl) (fun u => by go_simp; rfl), ?_⟩
 simp only [Act.put, tA, tS, tZ]
 refine ⟨_, calx_pure (by rfl) (fun u => by go_simp; rfl), ?_⟩
 simp only [Act.put, tA, tS, tZ]
 refine ⟨_, calx_pure (by rfl) (fun u => by go_simp; rfl), ?_⟩
 simp only [Act.put, tA, tS, tZ]
 refine ⟨_, calx_pure (by rfl) (fun u => by go_simp; rfl), ?_⟩
 simp only [Act.put, tA, tS, tZ]
 exact rfl
 refine wpX_end (by kernel_rfl) fun w' dx => NoPanic.normal ?_
 have D := e0.trans (Dn.dx dx)
 replace tv1 := Lib.hid (tv1.out.dn dx)
 replace tv2 := Lib.hid (tv2.out.dn dx)
 clear e0 dx
 replace v3 := v3.dx D nx_v3
 replace v7 := v7.dx D nx_v7
 replace v9 := v9.dx D nx_v9
 replace v11 := v11.dx D nx_v11
 replace v14 := v14.dx D nx_v14
 replace o_m1 := Lib.hid (o_m1.out.dx D hbs)
 replace o_m2 := Lib.hid (o_m2.out.dx D hbs)
 replace o_m3 := Lib.hid (o_m3.out.dx D hbs)
 replace o_m4 := Lib.hid (o_m4.out.dx D hbs)
 replace HD := Lib.hid (HD.out.of_dx D hbl)
 clear D hbs hbl nx_v3 nx_v7 nx_v9 nx_v11 nx_v14
 go_wp2_with fail
 go_ret
 exact ⟨rfl, HD.out⟩
theorem rmrWalk (m : Mc) (n p : Int) (W : World) (hm : m.Ok W) (T : Env2 W) (hx : m.xs.length ≤ 9223372036854775807) (hy : m.ys.length ≤ 9223372036854775807) (n0 : -9223372036854775808 ≤ n) (n1 : n < 9223372036854775808) (p0 : 0 ≤ p) (p1 : p < 4294967296) : Calls Tryz.prog 3 #[.agg (mach m), .int .i64 n, .int .u32 p] W fun e W' => e = .returned (.bool true) ∧ Dn W W' := by
 cases hf : decide (m.xs.length ≤ 600 ∧ m.ys.length ≤ 600)
 · exact rmr_few m W hm T hx hy n p n0 n1 p0 p1 hf
 · by_cases h : n ≤ 60
   · exact rmr_main m W hm T hx hy n p n0 n1 p0 p1 hf h
   · exact rmr_big m W hm T hx hy n p n0 n1 p0 p1 hf (by omega)
end Go.Proofs.YtclpdjpaaagkdaaGreatDoor
namespace Go.Proofs.YtclpdjpaaagkdaaGreatDoor.runMatchesReference
open Go.ChangeShapes Go.WideShapes Go.ChangeAt Go.RowKit
set_option linter.unusedVariables false


theorem readable : ∀ t ∈ Tryz.f3.params.toList, Tryz.prog.readableRec t = true ∧ t < Tryz.prog.types.size := by
 rw [Tryz.params3]
 intro t ht
 have hall : ([30, 3, 22].all fun t => Tryz.prog.readableRec t && decide (t < Tryz.prog.types.size)) = true := by kernel_rfl
 have h := List.all_eq_true.1 hall t ht
 simp only [Bool.and_eq_true, decide_eq_true_eq] at h
 exact h

theorem said (H : Type) (ds : List (DataW H)) (hl : ds.length = Tryz.f3.params.size) : (Rows.runMatchesReferenceSpec.fn H ds).results = [.lit (.bool true)] ∧ (Rows.runMatchesReferenceSpec.fn H ds).args = ds ∧ (Rows.runMatchesReferenceSpec.fn H ds).vars = [] := by
 rw [Tryz.params3] at hl
 match ds, hl with
 | [d0, d1, d2], _ => exact ⟨rfl, rfl, rfl⟩

set_option maxRecDepth 100000 in
theorem walk {H : Type} {enc : TypeId × Value → H} (W : World) (base : Nat) (args : Array Value) (ds : List (DataW H)) (ps : List MemPlace) (E : Env W)
   (hval : ∀ (j : Nat) t v, Tryz.f3.params[j]? = some t → args[j]? = some v → Value.okWide Tryz.prog W .any base t v)
   (hA : DataW.TrodAll enc Tryz.prog W 0 (fun _ => true) true Tryz.f3.params.toList args.toList ds ps) :
   Calls Tryz.prog 3 args W fun e W' => e = .returned (.bool true) ∧ Dn W W' := by
 rw [Tryz.params3] at hA hval
 obtain ⟨v0, vs0, d0, ds0, p0, q0, hargs, rfl, rfl, h0, r0⟩ := trodAll_cons hA
 obtain ⟨v1, vs1, d1, ds1, p1, q1, rfl, rfl, rfl, h1, r1⟩ := trodAll_cons r0
 obtain ⟨v2, vs2, d2, ds2, p2, q2, rfl, rfl, rfl, h2, r2⟩ := trodAll_cons r1
 obtain ⟨rfl, rfl, rfl⟩ := trodAll_nil r2
 obtain rfl : args = #[v0, v1, v2] := by cases args; simp_all
 obtain ⟨m0, rfl, o0, l0, y0⟩ := open33 (hval 0 30 v0 rfl rfl) h0
 obtain ⟨x1, rfl, rfl, rfl, w1⟩ := open_int Tryz.underlying3 (hval 1 3 v1 rfl rfl) h1
 have bd1 := bounds_i64 w1
 obtain ⟨x2, rfl, rfl, rfl, w2⟩ := open_int Tryz.underlying22 (hval 2 22 v2 rfl rfl) h2
 have bd2 := bounds_u32 w2
 exact rmrWalk m0 x1 x2 W o0 E.two  l0 y0 (by omega) (by omega) (by omega) (by omega) 

set_option maxRecDepth 100000 in
theorem lifted (os : Os) (started : os.Started) (H : Type) (enc : TypeId × Value → H) :
   ReturnsInHanded {} Tryz.checked os 3 .any (fun w args => (Rows.runMatchesReferenceSpec.pre enc Tryz.prog Tryz.f3 [] false w args ∧ laidMetH Tryz.prog laidL w) ∧ sizedMet enc Tryz.prog Tryz.f3 (OpenSpec.ofChange Rows.runMatchesReferenceSpec) false w args)
     (Rows.runMatchesReferenceSpec.post enc Tryz.prog Tryz.f3 false true false false) :=
 returns_of_walk (C := Tryz.checked) rfl own started (by kernel_rfl) Tryz.func3 rfl readable (by kernel_rfl) said
   (ChangeSpec.witness_shaped (enc := enc) (C := Tryz.checked) (os := os) (X := fun w _ => laidMetH Tryz.prog laidL w) false (World.laidAll Tryz.prog os laidL) #[.agg #[.int .u32 0, .int .u32 0, .int .u32 0, .int .u32 0, .int .u32 0, .int .u32 0, .int .u32 0, .int .u32 0, .int .u32 0, .int .u32 0, .int .u32 0, .int .u32 0, .int .u32 0, .int .u32 0, .int .u32 0, .int .u32 0, .int .u32 0, .int .u32 0, .int .u32 0, .int .u32 0, .int .u32 0, .int .u32 0, .int .u32 0, .int .u32 0, .int .u32 0, .int .u32 0, .int .u32 0, .int .u32 0, .int .u32 0, .slice none 0 0, .int .u64 0, .slice none 0 0, .bool false], .int .i64 0, .int .u32 0] 8 (World.laidAll_os _ _ _)
     (start_shaped os _) (by kernel_rfl) (by kernel_rfl) (by kernel_rfl) (start_met os _)) walk

theorem over : Rows.RunMatchesReferenceSaid :=
 OpenClaim.holds_of_wide 3 Tryz.f3 rfl rfl rfl rfl rfl rfl rfl ⟨rfl, rfl, rfl, rfl, rfl⟩ rfl rfl rfl rfl rfl (by kernel_rfl) Tryz.func3 (by kernel_rfl)
   (of_decide_eq_true (by kernel_rfl)) (by unfold Func.isWrapper; first | (rw [if_pos (by decide +kernel)]; kernel_rfl) | (rw [if_neg (by decide +kernel)]; exact ⟨rfl, rfl⟩))
   (fun os started H enc _ => lifted os started H enc)

theorem proved : Rows.RunMatchesReferenceCardSaid :=
 Claim7.holds_tied_plain_at .later [] [.data, .data, .data] true (true, "00447fa595675de86dbacc44586d93df9b9cc5cda1eaed7296832adaa0b000a3") false
   over (fun _ h => by cases h) (by kernel_rfl) (fun _ h => by cases h) runMatchesReference_row_tie rfl ⟨rfl, rfl⟩ (by kernel_rfl) rfl
   (fun f fn hf hfn => by
     obtain rfl : f = 3 := Option.some.inj ((show Tryz.prog.funcNamed "gaoler/gaolerlaw14.RunMatchesReference" = some 3 by kernel_rfl).symm.trans hf) |>.symm
     obtain rfl : fn = Tryz.f3 := (Option.some.inj (Tryz.func3.symm.trans hfn)).symm
     exact ⟨by kernel_rfl, fun j t ht => by
       rw [Tryz.params3] at ht
       have hm : t ∈ [30, 3, 22] := by simpa using Array.mem_of_getElem? ht
       have hall : ([30, 3, 22].all fun u => !Tryz.prog.wantsStandIn u) = true := by kernel_rfl
       exact (show Tryz.prog.wantsStandIn t = false by simpa using List.all_eq_true.1 hall t hm)⟩)
   (by kernel_rfl)
#print axioms proved
end Go.Proofs.YtclpdjpaaagkdaaGreatDoor.runMatchesReference
