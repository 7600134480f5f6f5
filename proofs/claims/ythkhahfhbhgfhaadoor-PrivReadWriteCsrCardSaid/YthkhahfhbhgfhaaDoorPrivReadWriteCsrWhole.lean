/-
  The law PrivReadWriteCsr of the law package returns true at every input, and each argument reads as it did; conditions: the listed package variables hold what the program's text lays there (the card ties them to it).
-/
import Derived.Test.YthkhahfhbhgfhaaDoorCards
import Derived.Test.YthkhahfhbhgfhaaDoorTie
import Derived.Test.YthkhahfhbhgfhaaDoorPkW
import Derived.Test.YthkhahfhbhgfhaaDoorPkG
namespace Go.Proofs.YthkhahfhbhgfhaaDoor
open Go.ChangeShapes Go.WideShapes Go.ChangeAt Go.RowKit Go.Sort
set_option linter.unusedVariables false

theorem eq12p {c d : List Int} (hc : c.length = 12) (hd : d.length = 12) (w : World) : (Op.equalIn 10000 24 (.agg (ints .u32 c)) (.agg (ints .u32 d))).run Tryd.prog w = .ok (c == d) w :=
  equal_ints 9998 Tryd.underlying24 Tryd.underlying22 infoW c d hc hd w
theorem M.dropSet16 (c : List Int) (i : Nat) (x : Int) (hi : i < 17) : (c.set i x).drop 17 = c.drop 17 := by rw [List.drop_set, if_pos hi]
theorem M.dropAdv (c : List Int) (d : Int) : (M.adv c d).drop 17 = c.drop 17 := M.dropSet16 _ _ _ (by decide)
theorem M.dropReg (c : List Int) (r v : Int) : (M.setreg c r v).drop 17 = c.drop 17 := by
  unfold M.setreg
  split
  · rename_i h
    have := (M.stored_iff r).1 h
    exact M.dropSet16 _ _ _ (by omega)
  · rfl
theorem M.reg16 (c : List Int) (r v : Int) : (M.setreg c r v).getD 16 0 = c.getD 16 0 := by
  unfold M.setreg
  split
  · rename_i h
    have := (M.stored_iff r).1 h
    rw [M.getD_set, if_neg (by omega)]
  · rfl
theorem M.adv16 {c : List Int} (h : c.length = 29) (d : Int) : (M.adv c d).getD 16 0 = (c.getD 16 0 + d) % 4294967296 := M.pc_adv h d
set_option maxRecDepth 100000 in
set_option maxHeartbeats 2000000 in
theorem rw_few (m : Mc) (n_ v : Int) (W : World) (hm : m.Ok W) (T : Cs.CsrTabs W) (hx : m.xs.length ≤ 9223372036854775807) (hy : m.ys.length ≤ 9223372036854775807) (a0 : 0 ≤ n_) (a1 : n_ < 256) (v0 : 0 ≤ v) (v1 : v < 4294967296) (hf : decide (m.xs.length ≤ 600 ∧ m.ys.length ≤ 600) = false) :
    Calls Tryd.prog 6 #[.agg (mach m), .int .u8 n_, .int .u32 v] W fun e W' => e = .returned (.bool true) ∧ Dn W W' := by
  have C0 := Lib.hid fun w => fun (t : Cs.CsrTabs w) => awakeP w t
  have CF := Lib.hid fun w => fun (ow : m.Ok w) => rfew m false w ow hx hy hf
  clear hf
  have HD := Lib.hid (Dn.refl W)
  go_enter Tryd.func6, Tryd.ntmps6
  go_wp2_with (first | ((with_reducible refine wpList_box (vs := (mach m)) ?_ ?_ ?_); rfl; rfl; intro b_v3 w' nn; refine Hid.out ?_))
  refine Lib.hid ?_
  have HL_v3 : Hid (W.heap.size ≤ b_v3) := Lib.hid (Blk.hi nn HD.out.size)
  have d' := nn.dn
  replace HD := Lib.hid (HD.out.trans d')
  have v3 := nn.blk
  clear d' nn
  go_wp2_with (first | (go_at_call 15; (with_reducible refine (C0.out _ (T.dn HD.out)).mono ?_); rintro e w' ⟨rfl, d'⟩; refine Hid.out ?_))
  refine Lib.hid ?_
  replace v3 := v3.dn d'
  replace HD := Lib.hid (HD.out.trans d')
  clear d'
  go_wp2_with (first | ((with_reducible refine load33 v3 hm.len ?_ ?_ ?_); rfl; rfl) | (go_at_call 10; (with_reducible refine (CF.out _ (hm.dn HD.out)).mono ?_); rintro e w' ⟨rfl, d'⟩; refine Hid.out ?_))
  refine Lib.hid ?_
  replace v3 := v3.dn d'
  replace HD := Lib.hid (HD.out.trans d')
  clear d'
  go_wp2_with (first | (go_at_call 15; (with_reducible refine (C0.out _ (T.dn HD.out)).mono ?_); rintro e w' ⟨rfl, d'⟩; refine Hid.out ?_))
  refine Lib.hid ?_
  replace v3 := v3.dn d'
  replace HD := Lib.hid (HD.out.trans d')
  clear d'
  go_wp2_with fail
  go_ret
  exact ⟨rfl, HD.out⟩
set_option maxRecDepth 100000 in
set_option maxHeartbeats 2000000 in
theorem rw_main (m : Mc) (n_ v : Int) (W : World) (hm : m.Ok W) (T : Cs.CsrTabs W) (hx : m.xs.length ≤ 9223372036854775807) (hy : m.ys.length ≤ 9223372036854775807) (a0 : 0 ≤ n_) (a1 : n_ < 256) (v0 : 0 ≤ v) (v1 : v < 4294967296) (hf : decide (m.xs.length ≤ 600 ∧ m.ys.length ≤ 600) = true) (p : Int) (hpc : m.c.getD 16 0 = p) (c1 c2 c3 c4 cl ch : List Int) (m1 : Mc) (e1 : m1 = { m with c := M.setreg m.c 6 v }) (hi lo : Int) (q0 : 0 ≤ lo) (q1 : lo < 4294967296) (q2 : 0 ≤ hi) (q3 : hi < 4294967296) (qq : (hi * 4294967296 + lo == m.t) = true)
    (h1 : M.px m.c m.ys m.h m.t 21 5 0 (n_ % 12) = ⟨c1, m.ys, m.h⟩) (h2 : M.px c1 m.ys m.h m.t 22 0 5 (n_ % 12) = ⟨c2, m.ys, m.h⟩) (h3 : M.px m1.c m.ys m.h m.t 22 0 6 11 = ⟨c3, m.ys, m.h⟩) (h4 : M.px c3 m.ys m.h m.t 21 7 0 11 = ⟨c4, m.ys, m.h⟩) (h5 : M.px m1.c m.ys m.h m.t 21 7 0 7 = ⟨cl, m.ys, m.h⟩) (h6 : M.px m1.c m.ys m.h m.t 21 7 0 8 = ⟨ch, m.ys, m.h⟩)
    (g2 : c2.drop 17 = m.c.drop 17) (gp : c2.getD 16 0 = (p + 8) % 4294967296) (g4 : c4.getD 7 0 = v) (g5 : cl.getD 7 0 = lo) (g6 : ch.getD 7 0 = hi) :
    Calls Tryd.prog 6 #[.agg (mach m), .int .u8 n_, .int .u32 v] W fun e W' => e = .returned (.bool true) ∧ Dn W W' := by
  have hl := hm.len
  have hc := hm.core
  have hs : m.xs.length ≤ 600 := by simp only [decide_eq_true_eq] at hf; omega
  have hn : m.ys.length ≤ 600 := by simp only [decide_eq_true_eq] at hf; omega
  have C0 := Lib.hid fun w => fun (t : Cs.CsrTabs w) => awakeP w t
  have CF := Lib.hid fun w => fun (ow : m.Ok w) => rfew m true w ow hx hy hf
  have p0 := (M.core_pc hc).1
  have p1 := (M.core_pc hc).2
  rw [show M.pc m.c = p from hpc] at p0 p1
  have t0 := hm.t0
  have t1 := hm.t1
  have j0 : 0 ≤ n_ % 12 := by omega
  have j1 : n_ % 12 < 12 := by omega
  have k1 : M.Core (M.setreg m.c 6 v) := hc.setreg 6 ⟨v0, v1⟩
  have l1 : m1.c.length = 29 := by rw [e1]; exact k1.len
  have ok1 : m1.Ok W := by rw [e1]; exact ⟨k1, hm.mem, hm.out, hm.t0, hm.t1⟩
  have y1 : m1.ys = m.ys := by rw [e1]
  have b1 : m1.h = m.h := by rw [e1]
  have nt1 : m1.t = m.t := by rw [e1]
  have he : (M.setreg (m.c.take 16) 6 v).length = 16 := by rw [M.setreg_len, List.length_take, hl]; rfl
  have HE : Hid (({ m with c := M.setreg (m.c.take 16) 6 v ++ m.c.drop 16 } : Mc) = m1) := Lib.hid (by rw [M.setreg_take m.c hl, e1])
  have CQ := Lib.hid fun w => refPut (m.c.take 16) 6 v w (take16 hl)
  generalize M.setreg (m.c.take 16) 6 v = e at he HE CQ
  have C1 := Lib.hid fun w => fun (ow : m.Ok w) (t : Cs.CsrTabs w) => xRunP m 21 5 0 0 (n_ % 12) _ _ _ _ rfl rfl rfl rfl ⟨c1, m.ys, m.h⟩ h1 (by omega) (by omega) (by omega) (by decide) w ow t
  have C2 := Lib.hid fun (w : World) (ma : Mc) (n : Nat) (f : Pd m ⟨c1, m.ys, m.h⟩ n ma) (ow : ma.Ok w) (t : Cs.CsrTabs w) => xRunP ma 22 0 5 0 (n_ % 12) c1 m.ys m.h m.t f.c f.ys f.h f.t ⟨c2, m.ys, m.h⟩ h2 (by omega) (by omega) (by omega) (by decide) w ow t
  have C3 := Lib.hid fun w => fun (ow : m1.Ok w) (t : Cs.CsrTabs w) => xRunP m1 22 0 6 0 11 _ m.ys m.h m.t rfl y1 b1 nt1 ⟨c3, m.ys, m.h⟩ h3 (by omega) (by decide) (by decide) (by decide) w ow t
  have C4 := Lib.hid fun (w : World) (mc : Mc) (n : Nat) (f : Pd m1 ⟨c3, m.ys, m.h⟩ n mc) (ow : mc.Ok w) (t : Cs.CsrTabs w) => xRunP mc 21 7 0 0 11 c3 m.ys m.h m.t f.c f.ys f.h (f.t.trans nt1) ⟨c4, m.ys, m.h⟩ h4 (by omega) (by decide) (by decide) (by decide) w ow t
  have C5 := Lib.hid fun w => fun (ow : m1.Ok w) (t : Cs.CsrTabs w) => xRunP m1 21 7 0 0 7 _ m.ys m.h m.t rfl y1 b1 nt1 ⟨cl, m.ys, m.h⟩ h5 (by omega) (by decide) (by decide) (by decide) w ow t
  have C6 := Lib.hid fun w => fun (ow : m1.Ok w) (t : Cs.CsrTabs w) => xRunP m1 21 7 0 0 8 _ m.ys m.h m.t rfl y1 b1 nt1 ⟨ch, m.ys, m.h⟩ h6 (by omega) (by decide) (by decide) (by decide) w ow t
  have G2 := Lib.hid g2
  have GP := Lib.hid gp
  have G4 := Lib.hid g4
  have G5 := Lib.hid g5
  have G6 := Lib.hid g6
  have hwr : IntKind.u32.wrap (p + 8) = (p + 8) % 4294967296 := rfl
  clear hf e1 h1 h2 h3 h4 h5 h6 g2 gp g4 g5 g6 y1 b1
  have HD := Lib.hid (Dn.refl W)
  go_enter Tryd.func6, Tryd.ntmps6
  go_wp2_with (first | ((with_reducible refine wpList_box (vs := (mach m)) ?_ ?_ ?_); rfl; rfl; intro b_v3 w' nn; refine Hid.out ?_))
  refine Lib.hid ?_
  have HL_v3 : Hid (W.heap.size ≤ b_v3) := Lib.hid (Blk.hi nn HD.out.size)
  have d' := nn.dn
  replace HD := Lib.hid (HD.out.trans d')
  have v3 := nn.blk
  clear d' nn
  go_wp2_with (first | (go_at_call 15; (with_reducible refine (C0.out _ (T.dn HD.out)).mono ?_); rintro e w' ⟨rfl, d'⟩; refine Hid.out ?_))
  refine Lib.hid ?_
  replace v3 := v3.dn d'
  replace HD := Lib.hid (HD.out.trans d')
  clear d'
  go_wp2_with (first | ((with_reducible refine load33 v3 hl ?_ ?_ ?_); rfl; rfl) | (go_at_call 10; (with_reducible refine (CF.out _ (hm.dn HD.out)).mono ?_); rintro e w' ⟨rfl, d'⟩; refine Hid.out ?_))
  refine Lib.hid ?_
  replace v3 := v3.dn d'
  replace HD := Lib.hid (HD.out.trans d')
  clear d'
  go_wp2_with (first | ((with_reducible refine load33 v3 hl ?_ ?_ ?_); rfl; rfl) | (go_at_call 19; (with_reducible refine (C1.out _ (hm.dn HD.out) (T.dn HD.out)).mono ?_); rintro e w' ⟨ma, rfl, oa', ua, d'⟩; refine Hid.out ?_))
  refine Lib.hid ?_
  replace v3 := v3.dn d'
  replace HD := Lib.hid (HD.out.trans d')
  clear d'
  have lma := oa'.out.len
  have oa := Lib.hid oa'.out
  go_wp2_with (first | ((with_reducible refine wpList_alloc zeroMach ?_ ?_); rfl; intro b_v8 w' nn; refine Hid.out ?_))
  refine Lib.hid ?_
  have n_v3_v8 := Lib.hid (nn.ne _ v3.lt)
  have HL_v8 : Hid (W.heap.size ≤ b_v8) := Lib.hid (Blk.hi nn HD.out.size)
  have d' := nn.dn
  replace v3 := v3.dn d'
  replace oa := Lib.hid (oa.out.dn d')
  replace HD := Lib.hid (HD.out.trans d')
  have v8 := nn.blk
  clear d' nn
  go_wp2_with (first | ((with_reducible refine store33 ma lma v8 zlen ?_ ?_ ?_ ?_); rfl; rfl; rfl; intro w' r' t'; refine Hid.out ?_))
  refine Lib.hid ?_
  replace oa := Lib.hid (oa.out.trn v8 (NoU8.mach _) t')
  replace v3 := v3.trn t' n_v3_v8.out
  replace HD := Lib.hid (HD.out.trn HL_v8.out t')
  clear t' v8
  have v8 := r'
  clear r'
  go_wp2_with (first | ((with_reducible refine load33 v8 lma ?_ ?_ ?_); rfl; rfl) | (go_at_call 19; (with_reducible refine (C2.out _ ma _ ua.out oa.out (T.dn HD.out)).mono ?_); rintro e w' ⟨mb, rfl, ob', ub, d'⟩; refine Hid.out ?_))
  refine Lib.hid ?_
  replace v3 := v3.dn d'
  replace v8 := v8.dn d'
  replace oa := Lib.hid (oa.out.dn d')
  replace HD := Lib.hid (HD.out.trans d')
  clear d'
  have lmb := ob'.out.len
  have nb : mb.c.getD 16 0 = (p + 8) % 4294967296 := by rw [ub.out.c]; exact GP.out
  have q12 : ∀ w, (Op.equalIn 10000 24 (.agg (ints .u32 (mb.c.drop 17))) (.agg (ints .u32 (m.c.drop 17)))).run Tryd.prog w = .ok true w := fun w => by rw [show mb.c.drop 17 = m.c.drop 17 by rw [ub.out.c]; exact G2.out, eq12p (drop17 hl) (drop17 hl), beq_self_eq_true]
  have ob := Lib.hid ob'.out
  go_wp2_with (first | ((with_reducible refine wpList_alloc zeroMach ?_ ?_); rfl; intro b_v9 w' nn; refine Hid.out ?_))
  refine Lib.hid ?_
  have n_v3_v9 := Lib.hid (nn.ne _ v3.lt)
  have n_v8_v9 := Lib.hid (nn.ne _ v8.lt)
  have HL_v9 : Hid (W.heap.size ≤ b_v9) := Lib.hid (Blk.hi nn HD.out.size)
  have d' := nn.dn
  replace v3 := v3.dn d'
  replace v8 := v8.dn d'
  replace oa := Lib.hid (oa.out.dn d')
  replace ob := Lib.hid (ob.out.dn d')
  replace HD := Lib.hid (HD.out.trans d')
  have v9 := nn.blk
  clear d' nn
  go_wp2_with (first | ((with_reducible refine store33 mb lmb v9 zlen ?_ ?_ ?_ ?_); rfl; rfl; rfl; intro w' r' t'; refine Hid.out ?_))
  refine Lib.hid ?_
  replace oa := Lib.hid (oa.out.trn v9 (NoU8.mach _) t')
  replace ob := Lib.hid (ob.out.trn v9 (NoU8.mach _) t')
  replace v3 := v3.trn t' n_v3_v9.out
  replace v8 := v8.trn t' n_v8_v9.out
  replace HD := Lib.hid (HD.out.trn HL_v9.out t')
  clear t' v9
  have v9 := r'
  clear r'
  have ck0 := v9.word lmb 16 rfl
  rw [nb] at ck0
  have ck1 := v3.word hl 16 rfl
  rw [hpc] at ck1
  go_wp2_with (first | ((with_reducible refine loadCsr v9 lmb ?_ ?_ ?_); rfl; rfl) | ((with_reducible refine loadCsr v3 hl ?_ ?_ ?_); rfl; rfl) | ((with_reducible refine loadRegs v3 hl ?_ ?_ ?_); rfl; rfl) | (go_at_call 21; (with_reducible refine (CQ.out _).mono ?_); rintro e w' ⟨rfl, d'⟩; refine Hid.out ?_))
  refine Lib.hid ?_
  clear ck0 ck1
  replace v3 := v3.dn d'
  replace v8 := v8.dn d'
  replace v9 := v9.dn d'
  replace oa := Lib.hid (oa.out.dn d')
  replace ob := Lib.hid (ob.out.dn d')
  replace HD := Lib.hid (HD.out.trans d')
  clear d'
  go_wp2_with (first | ((with_reducible refine storeRegs e he v3 hl ?_ ?_ ?_ ?_); rfl; rfl; rfl; intro w' r' t'; refine Hid.out ?_))
  refine Lib.hid ?_
  replace oa := Lib.hid (oa.out.trn v3 (NoU8.mach _) t')
  replace ob := Lib.hid (ob.out.trn v3 (NoU8.mach _) t')
  replace v8 := v8.trn t' n_v3_v8.out.symm
  replace v9 := v9.trn t' n_v3_v9.out.symm
  rw [HE.out] at r'
  replace HD := Lib.hid (HD.out.trn HL_v3.out t')
  clear t' v3
  have v3 := r'
  clear r'
  go_wp2_with (first | ((with_reducible refine load33 v3 l1 ?_ ?_ ?_); rfl; rfl) | (go_at_call 19; (with_reducible refine (C3.out _ (ok1.dn HD.out) (T.dn HD.out)).mono ?_); rintro e w' ⟨mc, rfl, oc', uc, d'⟩; refine Hid.out ?_))
  refine Lib.hid ?_
  replace v3 := v3.dn d'
  replace v8 := v8.dn d'
  replace v9 := v9.dn d'
  replace oa := Lib.hid (oa.out.dn d')
  replace ob := Lib.hid (ob.out.dn d')
  replace HD := Lib.hid (HD.out.trans d')
  clear d'
  have lmc := oc'.out.len
  have oc := Lib.hid oc'.out
  go_wp2_with (first | ((with_reducible refine wpList_alloc zeroMach ?_ ?_); rfl; intro b_v10 w' nn; refine Hid.out ?_))
  refine Lib.hid ?_
  have n_v3_v10 := Lib.hid (nn.ne _ v3.lt)
  have n_v8_v10 := Lib.hid (nn.ne _ v8.lt)
  have n_v9_v10 := Lib.hid (nn.ne _ v9.lt)
  have HL_v10 : Hid (W.heap.size ≤ b_v10) := Lib.hid (Blk.hi nn HD.out.size)
  have d' := nn.dn
  replace v3 := v3.dn d'
  replace v8 := v8.dn d'
  replace v9 := v9.dn d'
  replace oa := Lib.hid (oa.out.dn d')
  replace ob := Lib.hid (ob.out.dn d')
  replace oc := Lib.hid (oc.out.dn d')
  replace HD := Lib.hid (HD.out.trans d')
  have v10 := nn.blk
  clear d' nn
  go_wp2_with (first | ((with_reducible refine store33 mc lmc v10 zlen ?_ ?_ ?_ ?_); rfl; rfl; rfl; intro w' r' t'; refine Hid.out ?_))
  refine Lib.hid ?_
  replace oa := Lib.hid (oa.out.trn v10 (NoU8.mach _) t')
  replace ob := Lib.hid (ob.out.trn v10 (NoU8.mach _) t')
  replace oc := Lib.hid (oc.out.trn v10 (NoU8.mach _) t')
  replace v3 := v3.trn t' n_v3_v10.out
  replace v8 := v8.trn t' n_v8_v10.out
  replace v9 := v9.trn t' n_v9_v10.out
  replace HD := Lib.hid (HD.out.trn HL_v10.out t')
  clear t' v10
  have v10 := r'
  clear r'
  go_wp2_with (first | ((with_reducible refine load33 v10 lmc ?_ ?_ ?_); rfl; rfl) | (go_at_call 19; (with_reducible refine (C4.out _ mc _ uc.out oc.out (T.dn HD.out)).mono ?_); rintro e w' ⟨md, rfl, od', ud, d'⟩; refine Hid.out ?_))
  refine Lib.hid ?_
  replace v3 := v3.dn d'
  replace v8 := v8.dn d'
  replace v9 := v9.dn d'
  replace v10 := v10.dn d'
  replace oa := Lib.hid (oa.out.dn d')
  replace ob := Lib.hid (ob.out.dn d')
  replace oc := Lib.hid (oc.out.dn d')
  replace HD := Lib.hid (HD.out.trans d')
  clear d'
  have lmd := od'.out.len
  have nd : md.c.getD 7 0 = v := by rw [ud.out.c]; exact G4.out
  have od := Lib.hid od'.out
  go_wp2_with (first | ((with_reducible refine wpList_alloc zeroMach ?_ ?_); rfl; intro b_v11 w' nn; refine Hid.out ?_))
  refine Lib.hid ?_
  have n_v3_v11 := Lib.hid (nn.ne _ v3.lt)
  have n_v8_v11 := Lib.hid (nn.ne _ v8.lt)
  have n_v9_v11 := Lib.hid (nn.ne _ v9.lt)
  have n_v10_v11 := Lib.hid (nn.ne _ v10.lt)
  have HL_v11 : Hid (W.heap.size ≤ b_v11) := Lib.hid (Blk.hi nn HD.out.size)
  have d' := nn.dn
  replace v3 := v3.dn d'
  replace v8 := v8.dn d'
  replace v9 := v9.dn d'
  replace v10 := v10.dn d'
  replace oa := Lib.hid (oa.out.dn d')
  replace ob := Lib.hid (ob.out.dn d')
  replace oc := Lib.hid (oc.out.dn d')
  replace od := Lib.hid (od.out.dn d')
  replace HD := Lib.hid (HD.out.trans d')
  have v11 := nn.blk
  clear d' nn
  go_wp2_with (first | ((with_reducible refine store33 md lmd v11 zlen ?_ ?_ ?_ ?_); rfl; rfl; rfl; intro w' r' t'; refine Hid.out ?_))
  refine Lib.hid ?_
  replace oa := Lib.hid (oa.out.trn v11 (NoU8.mach _) t')
  replace ob := Lib.hid (ob.out.trn v11 (NoU8.mach _) t')
  replace oc := Lib.hid (oc.out.trn v11 (NoU8.mach _) t')
  replace od := Lib.hid (od.out.trn v11 (NoU8.mach _) t')
  replace v3 := v3.trn t' n_v3_v11.out
  replace v8 := v8.trn t' n_v8_v11.out
  replace v9 := v9.trn t' n_v9_v11.out
  replace v10 := v10.trn t' n_v10_v11.out
  replace HD := Lib.hid (HD.out.trn HL_v11.out t')
  clear t' v11
  have v11 := r'
  clear r'
  go_wp2_with (first | ((with_reducible refine load33 v3 l1 ?_ ?_ ?_); rfl; rfl) | (go_at_call 19; (with_reducible refine (C5.out _ (ok1.dn HD.out) (T.dn HD.out)).mono ?_); rintro e w' ⟨me, rfl, oe', ue, d'⟩; refine Hid.out ?_))
  refine Lib.hid ?_
  replace v3 := v3.dn d'
  replace v8 := v8.dn d'
  replace v9 := v9.dn d'
  replace v10 := v10.dn d'
  replace v11 := v11.dn d'
  replace oa := Lib.hid (oa.out.dn d')
  replace ob := Lib.hid (ob.out.dn d')
  replace oc := Lib.hid (oc.out.dn d')
  replace od := Lib.hid (od.out.dn d')
  replace HD := Lib.hid (HD.out.trans d')
  clear d'
  have lme := oe'.out.len
  have nl : me.c.getD 7 0 = lo := by rw [ue.out.c]; exact G5.out
  have oe := Lib.hid oe'.out
  go_wp2_with (first | ((with_reducible refine wpList_alloc zeroMach ?_ ?_); rfl; intro b_v12 w' nn; refine Hid.out ?_))
  refine Lib.hid ?_
  have n_v3_v12 := Lib.hid (nn.ne _ v3.lt)
  have n_v8_v12 := Lib.hid (nn.ne _ v8.lt)
  have n_v9_v12 := Lib.hid (nn.ne _ v9.lt)
  have n_v10_v12 := Lib.hid (nn.ne _ v10.lt)
  have n_v11_v12 := Lib.hid (nn.ne _ v11.lt)
  have HL_v12 : Hid (W.heap.size ≤ b_v12) := Lib.hid (Blk.hi nn HD.out.size)
  have d' := nn.dn
  replace v3 := v3.dn d'
  replace v8 := v8.dn d'
  replace v9 := v9.dn d'
  replace v10 := v10.dn d'
  replace v11 := v11.dn d'
  replace oa := Lib.hid (oa.out.dn d')
  replace ob := Lib.hid (ob.out.dn d')
  replace oc := Lib.hid (oc.out.dn d')
  replace od := Lib.hid (od.out.dn d')
  replace oe := Lib.hid (oe.out.dn d')
  replace HD := Lib.hid (HD.out.trans d')
  have v12 := nn.blk
  clear d' nn
  go_wp2_with (first | ((with_reducible refine store33 me lme v12 zlen ?_ ?_ ?_ ?_); rfl; rfl; rfl; intro w' r' t'; refine Hid.out ?_))
  refine Lib.hid ?_
  replace oa := Lib.hid (oa.out.trn v12 (NoU8.mach _) t')
  replace ob := Lib.hid (ob.out.trn v12 (NoU8.mach _) t')
  replace oc := Lib.hid (oc.out.trn v12 (NoU8.mach _) t')
  replace od := Lib.hid (od.out.trn v12 (NoU8.mach _) t')
  replace oe := Lib.hid (oe.out.trn v12 (NoU8.mach _) t')
  replace v3 := v3.trn t' n_v3_v12.out
  replace v8 := v8.trn t' n_v8_v12.out
  replace v9 := v9.trn t' n_v9_v12.out
  replace v10 := v10.trn t' n_v10_v12.out
  replace v11 := v11.trn t' n_v11_v12.out
  replace HD := Lib.hid (HD.out.trn HL_v12.out t')
  clear t' v12
  have v12 := r'
  clear r'
  go_wp2_with (first | ((with_reducible refine load33 v3 l1 ?_ ?_ ?_); rfl; rfl) | (go_at_call 19; (with_reducible refine (C6.out _ (ok1.dn HD.out) (T.dn HD.out)).mono ?_); rintro e w' ⟨mf, rfl, of', uf, d'⟩; refine Hid.out ?_))
  refine Lib.hid ?_
  replace v3 := v3.dn d'
  replace v8 := v8.dn d'
  replace v9 := v9.dn d'
  replace v10 := v10.dn d'
  replace v11 := v11.dn d'
  replace v12 := v12.dn d'
  replace oa := Lib.hid (oa.out.dn d')
  replace ob := Lib.hid (ob.out.dn d')
  replace oc := Lib.hid (oc.out.dn d')
  replace od := Lib.hid (od.out.dn d')
  replace oe := Lib.hid (oe.out.dn d')
  replace HD := Lib.hid (HD.out.trans d')
  clear d'
  have lmf := of'.out.len
  have nh : mf.c.getD 7 0 = hi := by rw [uf.out.c]; exact G6.out
  have of := Lib.hid of'.out
  go_wp2_with (first | ((with_reducible refine wpList_alloc zeroMach ?_ ?_); rfl; intro b_v13 w' nn; refine Hid.out ?_))
  refine Lib.hid ?_
  have n_v3_v13 := Lib.hid (nn.ne _ v3.lt)
  have n_v8_v13 := Lib.hid (nn.ne _ v8.lt)
  have n_v9_v13 := Lib.hid (nn.ne _ v9.lt)
  have n_v10_v13 := Lib.hid (nn.ne _ v10.lt)
  have n_v11_v13 := Lib.hid (nn.ne _ v11.lt)
  have n_v12_v13 := Lib.hid (nn.ne _ v12.lt)
  have HL_v13 : Hid (W.heap.size ≤ b_v13) := Lib.hid (Blk.hi nn HD.out.size)
  have d' := nn.dn
  replace v3 := v3.dn d'
  replace v8 := v8.dn d'
  replace v9 := v9.dn d'
  replace v10 := v10.dn d'
  replace v11 := v11.dn d'
  replace v12 := v12.dn d'
  replace oa := Lib.hid (oa.out.dn d')
  replace ob := Lib.hid (ob.out.dn d')
  replace oc := Lib.hid (oc.out.dn d')
  replace od := Lib.hid (od.out.dn d')
  replace oe := Lib.hid (oe.out.dn d')
  replace of := Lib.hid (of.out.dn d')
  replace HD := Lib.hid (HD.out.trans d')
  have v13 := nn.blk
  clear d' nn
  go_wp2_with (first | ((with_reducible refine store33 mf lmf v13 zlen ?_ ?_ ?_ ?_); rfl; rfl; rfl; intro w' r' t'; refine Hid.out ?_))
  refine Lib.hid ?_
  replace oa := Lib.hid (oa.out.trn v13 (NoU8.mach _) t')
  replace ob := Lib.hid (ob.out.trn v13 (NoU8.mach _) t')
  replace oc := Lib.hid (oc.out.trn v13 (NoU8.mach _) t')
  replace od := Lib.hid (od.out.trn v13 (NoU8.mach _) t')
  replace oe := Lib.hid (oe.out.trn v13 (NoU8.mach _) t')
  replace of := Lib.hid (of.out.trn v13 (NoU8.mach _) t')
  replace v3 := v3.trn t' n_v3_v13.out
  replace v8 := v8.trn t' n_v8_v13.out
  replace v9 := v9.trn t' n_v9_v13.out
  replace v10 := v10.trn t' n_v10_v13.out
  replace v11 := v11.trn t' n_v11_v13.out
  replace v12 := v12.trn t' n_v12_v13.out
  replace HD := Lib.hid (HD.out.trn HL_v13.out t')
  clear t' v13
  have v13 := r'
  clear r'
  have ck0 := v11.word lmd 7 rfl
  rw [nd] at ck0
  have ck1 := v13.word lmf 7 rfl
  rw [nh] at ck1
  have ck2 := v12.word lme 7 rfl
  rw [nl] at ck2
  have ck3 := v3.time l1
  rw [nt1] at ck3
  go_wp2_with fail
  go_ret
  exact ⟨rfl, HD.out⟩
theorem rwWalk (m : Mc) (n_ v : Int) (W : World) (hm : m.Ok W) (T : Cs.CsrTabs W) (hx : m.xs.length ≤ 9223372036854775807) (hy : m.ys.length ≤ 9223372036854775807) (a0 : 0 ≤ n_) (a1 : n_ < 256) (v0 : 0 ≤ v) (v1 : v < 4294967296) : Calls Tryd.prog 6 #[.agg (mach m), .int .u8 n_, .int .u32 v] W fun e W' => e = .returned (.bool true) ∧ Dn W W' := by
  cases hf : decide (m.xs.length ≤ 600 ∧ m.ys.length ≤ 600)
  · exact rw_few m n_ v W hm T hx hy a0 a1 v0 v1 hf
  · have hc := hm.core
    have hl := hm.len
    have t0 := hm.t0
    have t1 := hm.t1
    have hv := M.csr_rd_rng hc (t := m.t) (n := n_ % 12) t0 t1
    have j0 : 0 ≤ n_ % 12 := by omega
    have j1 : n_ % 12 < 12 := by omega
    have hj : Cs.M.ex (n_ % 12) = true := (Cs.M.ex_iff _).2 ⟨j0, j1⟩
    have h1 := M.px_csrr m.c m.ys m.h m.t 5 0 (n_ % 12)
    have k1 : M.Core (M.adv (M.setreg m.c 5 (Cs.M.rd (m.c.drop 17) m.t (n_ % 12))) 4) := (hc.setreg 5 hv).adv 4
    have r1 : M.reg (M.adv (M.setreg m.c 5 (Cs.M.rd (m.c.drop 17) m.t (n_ % 12))) 4) 5 = Cs.M.rd (m.c.drop 17) m.t (n_ % 12) := by rw [M.reg_adv, M.reg_setreg hl (by decide) (by decide)]
    have d1 : (M.adv (M.setreg m.c 5 (Cs.M.rd (m.c.drop 17) m.t (n_ % 12))) 4).drop 17 = m.c.drop 17 := (M.dropAdv _ _).trans (M.dropReg _ _ _)
    have p1 : (M.adv (M.setreg m.c 5 (Cs.M.rd (m.c.drop 17) m.t (n_ % 12))) 4).getD 16 0 = (m.c.getD 16 0 + 4) % 4294967296 := by rw [M.adv16 (hc.setreg 5 hv).len, M.reg16]
    generalize M.adv (M.setreg m.c 5 (Cs.M.rd (m.c.drop 17) m.t (n_ % 12))) 4 = c1 at h1 k1 r1 d1 p1
    have h2 := M.px_csrw c1 m.ys m.h m.t 0 5 (n_ % 12)
    have same : Cs.M.wr (m.c.drop 17) (n_ % 12) (Cs.M.rd (m.c.drop 17) m.t (n_ % 12)) = m.c.drop 17 := by
      by_cases h7 : n_ % 12 = 7
      · exact Cs.M.wr_time (M.csr_ok hc) _ _ (.inl h7)
      · by_cases h8 : n_ % 12 = 8
        · exact Cs.M.wr_time (M.csr_ok hc) _ _ (.inr h8)
        · rw [Cs.M.rd_at _ _ _ h7 h8 hj]
          exact Cs.M.wr_same (M.csr_ok hc) _ hj
    have d2 : (M.adv (M.csw c1 (n_ % 12) (M.reg c1 5)) 4).drop 17 = m.c.drop 17 := by rw [M.dropAdv, M.csw_drop k1, r1, d1, same]
    have p2 : (M.adv (M.csw c1 (n_ % 12) (M.reg c1 5)) 4).getD 16 0 = (m.c.getD 16 0 + 8) % 4294967296 := by
      rw [M.adv16 (M.csw_len k1 _ _), M.csw_low k1 _ _ 16 (by decide), p1]; omega
    obtain ⟨m1, e1⟩ : ∃ m1 : Mc, m1 = { m with c := M.setreg m.c 6 v } := ⟨_, rfl⟩
    have kd : M.Core m1.c := by rw [e1]; exact hc.setreg 6 ⟨v0, v1⟩
    have rd : M.reg m1.c 6 = v := by rw [e1]; exact M.reg_setreg hl (by decide) (by decide) v
    have h3 := M.px_csrw m1.c m.ys m.h m.t 0 6 11
    have k3 : M.Core (M.adv (M.csw m1.c 11 (M.reg m1.c 6)) 4) := (kd.csw 11 _).adv 4
    have d3 : (M.adv (M.csw m1.c 11 (M.reg m1.c 6)) 4).drop 17 = Cs.M.wr (m1.c.drop 17) 11 v := by rw [M.dropAdv, M.csw_drop kd, rd]
    generalize M.adv (M.csw m1.c 11 (M.reg m1.c 6)) 4 = c3 at h3 k3 d3
    have h4 := M.px_csrr c3 m.ys m.h m.t 7 0 11
    have hrd : Cs.M.rd (c3.drop 17) m.t 11 = v := by
      rw [d3]
      show Cs.M.at_ (Cs.M.wr (m1.c.drop 17) 11 v) 11 = v
      rw [Cs.M.at_wr (M.csr_ok kd) 11 11 v rfl rfl, if_pos rfl]
      exact Cs.M.mix_full _ _ v0 v1
    have at7 : ∀ (c : List Int) (x : Int), c.length = 29 → (M.adv (M.setreg c 7 x) 4).getD 7 0 = x := fun c x h => by
      rw [M.adv_reg _ _ (by decide)]; exact M.setreg_at h (r := 7) (by decide) (by decide) x
    exact rw_main m n_ v W hm T hx hy a0 a1 v0 v1 hf (m.c.getD 16 0) rfl c1 _ c3 _ _ _ m1 e1 (m.t / 4294967296) (m.t % 4294967296) (by omega) (by omega) (by omega) (by omega) (by rw [beq_iff_eq]; omega)
      h1 h2 h3 h4 (M.px_csrr m1.c m.ys m.h m.t 7 0 7) (M.px_csrr m1.c m.ys m.h m.t 7 0 8) d2 p2 (by rw [at7 _ _ k3.len, hrd]) (at7 _ _ kd.len) (at7 _ _ kd.len)
end Go.Proofs.YthkhahfhbhgfhaaDoor
namespace Go.Proofs.YthkhahfhbhgfhaaDoor.privReadWriteCsr
open Go.ChangeShapes Go.WideShapes Go.ChangeAt Go.RowKit
set_option linter.unusedVariables false

theorem readable : ∀ t ∈ Tryd.f6.params.toList, Tryd.prog.readableRec t = true ∧ t < Tryd.prog.types.size := by
  rw [Tryd.params6]
  intro t ht
  have hall : ([30, 5, 22].all fun t => Tryd.prog.readableRec t && decide (t < Tryd.prog.types.size)) = true := by kernel_rfl
  have h := List.all_eq_true.1 hall t ht
  simp only [Bool.and_eq_true, decide_eq_true_eq] at h
  exact h

theorem said (H : Type) (ds : List (DataW H)) (hl : ds.length = Tryd.f6.params.size) : (Rows.privReadWriteCsrSpec.fn H ds).results = [.lit (.bool true)] ∧ (Rows.privReadWriteCsrSpec.fn H ds).args = ds ∧ (Rows.privReadWriteCsrSpec.fn H ds).vars = [] := by
  rw [Tryd.params6] at hl
  match ds, hl with
  | [d0, d1, d2], _ => exact ⟨rfl, rfl, rfl⟩

set_option maxRecDepth 100000 in
theorem walk {H : Type} {enc : TypeId × Value → H} (W : World) (base : Nat) (args : Array Value) (ds : List (DataW H)) (ps : List MemPlace) (E : Env W)
    (hval : ∀ (j : Nat) t v, Tryd.f6.params[j]? = some t → args[j]? = some v → Value.okWide Tryd.prog W .any base t v)
    (hA : DataW.TrodAll enc Tryd.prog W 0 (fun _ => true) true Tryd.f6.params.toList args.toList ds ps) :
    Calls Tryd.prog 6 args W fun e W' => e = .returned (.bool true) ∧ Dn W W' := by
  rw [Tryd.params6] at hA hval
  obtain ⟨v0, vs0, d0, ds0, p0, q0, hargs, rfl, rfl, h0, r0⟩ := trodAll_cons hA
  obtain ⟨v1, vs1, d1, ds1, p1, q1, rfl, rfl, rfl, h1, r1⟩ := trodAll_cons r0
  obtain ⟨v2, vs2, d2, ds2, p2, q2, rfl, rfl, rfl, h2, r2⟩ := trodAll_cons r1
  obtain ⟨rfl, rfl, rfl⟩ := trodAll_nil r2
  obtain rfl : args = #[v0, v1, v2] := by cases args; simp_all
  obtain ⟨m0, rfl, o0, l0, y0⟩ := open33 (hval 0 30 v0 rfl rfl) h0
  obtain ⟨x1, rfl, rfl, rfl, w1⟩ := open_int Tryd.underlying5 (hval 1 5 v1 rfl rfl) h1
  have bd1 := bounds_u8 w1
  obtain ⟨x2, rfl, rfl, rfl, w2⟩ := open_int Tryd.underlying22 (hval 2 22 v2 rfl rfl) h2
  have bd2 := bounds_u32 w2
  exact rwWalk m0 x1 x2 W o0 E  l0 y0 (by omega) (by omega) (by omega) (by omega)

set_option maxRecDepth 100000 in
theorem lifted (os : Os) (started : os.Started) (H : Type) (enc : TypeId × Value → H) :
    ReturnsInHanded {} Tryd.checked os 6 .any (fun w args => (Rows.privReadWriteCsrSpec.pre enc Tryd.prog Tryd.f6 [] false w args ∧ laidMetH Tryd.prog laidL w) ∧ sizedMet enc Tryd.prog Tryd.f6 (OpenSpec.ofChange Rows.privReadWriteCsrSpec) false w args)
      (Rows.privReadWriteCsrSpec.post enc Tryd.prog Tryd.f6 false true false false) :=
  returns_of_walk (C := Tryd.checked) rfl own started (by kernel_rfl) Tryd.func6 rfl readable (by kernel_rfl) said
    (ChangeSpec.witness_shaped (enc := enc) (C := Tryd.checked) (os := os) (X := fun w _ => laidMetH Tryd.prog laidL w) false (World.laidAll Tryd.prog os laidL) #[.agg #[.int .u32 0, .int .u32 0, .int .u32 0, .int .u32 0, .int .u32 0, .int .u32 0, .int .u32 0, .int .u32 0, .int .u32 0, .int .u32 0, .int .u32 0, .int .u32 0, .int .u32 0, .int .u32 0, .int .u32 0, .int .u32 0, .int .u32 0, .int .u32 0, .int .u32 0, .int .u32 0, .int .u32 0, .int .u32 0, .int .u32 0, .int .u32 0, .int .u32 0, .int .u32 0, .int .u32 0, .int .u32 0, .int .u32 0, .slice none 0 0, .int .u64 0, .slice none 0 0, .bool false], .int .u8 0, .int .u32 0] 8 (World.laidAll_os _ _ _)
      (start_shaped os _) (by kernel_rfl) (by kernel_rfl) (by kernel_rfl) (start_met os _)) walk

theorem over : Rows.PrivReadWriteCsrSaid :=
  OpenClaim.holds_of_wide 6 Tryd.f6 rfl rfl rfl rfl rfl rfl rfl ⟨rfl, rfl, rfl, rfl, rfl⟩ rfl rfl rfl rfl rfl (by kernel_rfl) Tryd.func6 (by kernel_rfl)
    (of_decide_eq_true (by kernel_rfl)) (by unfold Func.isWrapper; first | (rw [if_pos (by decide +kernel)]; kernel_rfl) | (rw [if_neg (by decide +kernel)]; exact ⟨rfl, rfl⟩))
    (fun os started H enc _ => lifted os started H enc)

/-- THE STATEMENT -/
theorem proved : Rows.PrivReadWriteCsrCardSaid :=
  Claim7.holds_tied_plain_at .later [] [.data] true (true, "d78811fdd0f342fbb2ba603c83f6eebd8ca321176a55a836c8fad2cf606a22cc") false
    over (fun _ h => by cases h) (by kernel_rfl) (fun _ h => by cases h) privReadWriteCsr_row_tie rfl ⟨rfl, rfl⟩ (by kernel_rfl) rfl
    (fun f fn hf hfn => by
      obtain rfl : f = 6 := Option.some.inj ((show Tryd.prog.funcNamed "gaoler/gaolerlaw12.PrivReadWriteCsr" = some 6 by kernel_rfl).symm.trans hf) |>.symm
      obtain rfl : fn = Tryd.f6 := (Option.some.inj (Tryd.func6.symm.trans hfn)).symm
      exact ⟨by kernel_rfl, fun j t ht => by
        rw [Tryd.params6] at ht
        have hm : t ∈ [30, 5, 22] := by simpa using Array.mem_of_getElem? ht
        have hall : ([30, 5, 22].all fun u => !Tryd.prog.wantsStandIn u) = true := by kernel_rfl
        exact (show Tryd.prog.wantsStandIn t = false by simpa using List.all_eq_true.1 hall t hm)⟩)
    (by kernel_rfl)
#print axioms proved
end Go.Proofs.YthkhahfhbhgfhaaDoor.privReadWriteCsr
