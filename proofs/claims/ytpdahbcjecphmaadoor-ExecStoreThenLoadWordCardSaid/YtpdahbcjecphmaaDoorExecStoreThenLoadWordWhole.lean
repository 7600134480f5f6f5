/-
  The law ExecStoreThenLoadWord of the law package returns true at every input, and each argument reads as it did; conditions: the listed package variables hold what the program's text lays there (the card ties them to it).
-/
import Derived.Test.YtpdahbcjecphmaaDoorCards
import Derived.Test.YtpdahbcjecphmaaDoorTie
import Derived.Test.YtpdahbcjecphmaaDoorPkB
import Derived.Test.YtpdahbcjecphmaaDoorPkZ
import Derived.Test.YtpdahbcjecphmaaDoorPkF
namespace Go.Proofs.YtpdahbcjecphmaaDoor.M
open Go.RowKit
set_option linter.unusedVariables false

/-- a load of the cell that was stored -/
theorem alv_asv {c xs : List Int} {a n v : Int} (hc : Core c) (h : acz c xs.length a n = 0) (a0 : 0 ≤ a) (n0 : 1 ≤ n) (v0 : 0 ≤ v) : alv c (asv c xs a n v) a n = v % 256 ^ n.toNat := by
  have hk := acz_hit h
  have hu := ub_rng hc
  unfold alv
  rw [asv_len, if_pos h]
  unfold asv
  rw [if_pos h]
  generalize hp : (ub c + a).toNat = p
  have hpn : p + n.toNat ≤ xs.length := by omega
  unfold st
  rw [if_pos hpn]
  unfold ld
  rw [wr_len (by rw [bytes_len]; exact hpn), if_pos hpn]
  have e := rd_wr (xs := xs) (bs := bytes v n.toNat) (a := p) (by omega)
  rw [bytes_len] at e
  rw [e, leval_bytes v0]
/-- a load of a word that was not -/
theorem alv_other {c xs : List Int} {a b n v : Int} (hc : Core c) (h : acz c xs.length a n = 0) (a0 : 0 ≤ a) (b0 : 0 ≤ b) (hn : n = 4 ∨ n = 1) (hb : b % 4 = 0) (hab : a / 4 ≠ b / 4) : alv c (asv c xs a n v) b 4 = alv c xs b 4 := by
  have hk := acz_hit h
  have hu := ub_rng hc
  unfold alv
  rw [asv_len]
  split
  · rename_i hB
    have hkb := acz_hit hB
    unfold asv
    rw [if_pos h]
    generalize hp : (ub c + a).toNat = p
    generalize hq : (ub c + b).toNat = q
    have hpn : p + n.toNat ≤ xs.length := by omega
    have hqn : q + (4 : Int).toNat ≤ xs.length := by omega
    unfold st
    rw [if_pos hpn]
    unfold ld
    rw [wr_len (by rw [bytes_len]; exact hpn), if_pos hqn, if_pos hqn]
    congr 1
    by_cases hlt : q < p
    · exact rd_wr_before (by omega) (by omega)
    · exact rd_wr_after (by omega) (by rw [bytes_len]; omega)
  · rfl

theorem csr_adv (c : List Int) (d : Int) (i : Nat) : csr (adv c d) i = csr c i := by
  unfold csr adv
  rw [getD_set, if_neg (by omega)]
theorem csr_setreg (c : List Int) (r v : Int) (i : Nat) : csr (setreg c r v) i = csr c i := by
  unfold csr setreg
  split
  · rename_i h
    have := (stored_iff r).1 h
    rw [getD_set, if_neg (by omega)]
  · rfl
theorem ub_adv (c : List Int) (d : Int) : ub (adv c d) = ub c := by unfold ub sup; rw [csr_adv, csr_adv]
theorem un_adv (c : List Int) (d s : Int) : un (adv c d) s = un c s := by unfold un sup; rw [csr_adv, csr_adv]
theorem acz_adv (c : List Int) (d s a n : Int) : acz (adv c d) s a n = acz c s a n := by unfold acz; rw [ub_adv, un_adv]
theorem alv_adv (c xs : List Int) (d a n : Int) : alv (adv c d) xs a n = alv c xs a n := by unfold alv; rw [acz_adv, ub_adv]
theorem reg_adv (c : List Int) (d i : Int) : reg (adv c d) i = reg c i := by
  unfold reg adv
  split
  · rename_i h
    have := (stored_iff i).1 h
    rw [getD_set, if_neg (by omega)]
  · rfl
theorem reg_zero (c : List Int) : reg c 0 = 0 := rfl
theorem ea_zero (c : List Int) {x : Int} (h0 : 0 ≤ x) (h1 : x < 4294967296) : ea c 0 x = x := by unfold ea iw; rw [reg_zero]; omega
theorem setreg_at {c : List Int} (h : c.length = 29) {r : Int} (r0 : 0 < r) (r1 : r < 16) (v : Int) : (setreg c r v).getD r.toNat 0 = v := by
  unfold setreg
  rw [if_pos ((stored_iff r).2 ⟨r0, r1⟩), getD_set, if_pos ⟨rfl, by omega⟩]
theorem reg_setreg {c : List Int} (h : c.length = 29) {r : Int} (r0 : 0 < r) (r1 : r < 16) (v : Int) : reg (setreg c r v) r = v := by
  rw [reg_in ((stored_iff r).2 ⟨r0, r1⟩), setreg_at h r0 r1]
theorem adv_reg (c : List Int) (d : Int) {i : Nat} (hi : i ≠ 16) : (adv c d).getD i 0 = c.getD i 0 := by unfold adv; rw [getD_set, if_neg (by omega)]
/-- in supervisor mode an address is its own place -/
theorem acz_sup {c : List Int} (h : csr c 0 = 1) (s a n : Int) : acz c s a n = 0 ↔ ¬ (n = 4 ∧ a % 4 ≠ 0) ∧ a + n ≤ s := by
  have hs : sup c = true := by unfold sup; rw [h]; rfl
  have h1 : ub c = 0 := by unfold ub; rw [if_pos hs]
  have h2 : un c s = s := by unfold un; rw [if_pos hs]
  rw [acz_iff, h1, h2]
  omega
end Go.Proofs.YtpdahbcjecphmaaDoor.M
namespace Go.Proofs.YtpdahbcjecphmaaDoor
open Go.ChangeShapes Go.WideShapes Go.ChangeAt Go.RowKit Go.Sort
set_option linter.unusedVariables false

theorem M.ok_at (op rd : Int) (x : Int) (ho : op = 11 ∨ op = 12 ∨ op = 13 ∨ op = 14) (hr : rd = 3 ∨ rd = 4) (x0 : 0 ≤ x) (x1 : x < 256) : Is.M.ok op rd 0 0 x = true := by
  have hF : Is.M.F x 18 = true := by
    unfold Is.M.F
    rw [decide_eq_true_eq]
    exact ⟨Int.le_trans (by decide) x0, Int.lt_of_lt_of_le x1 (by decide)⟩
  rcases ho with rfl | rfl | rfl | rfl <;> rcases hr with rfl | rfl <;> (show (true && (true && true && true && Is.M.okImm x true false)) = true; unfold Is.M.okImm; simp [hF])
theorem qTrapNo {k v : Int} (h : k ≠ 0) (w : World) : (Op.equalIn 10000 37 (.agg #[.int .i64 k, .int .u32 v]) (.agg #[.int .i64 0, .int .u32 0])).run Tryd.prog w = .ok false w := by
  rw [eqTrap]; simp [h]
set_option maxRecDepth 100000 in
set_option maxHeartbeats 2000000 in
theorem sl_few (m : Mc) (at_ v : Int) (W : World) (hm : m.Ok W) (T : Is.Tabs W) (hx : m.xs.length ≤ 9223372036854775807) (hy : m.ys.length ≤ 9223372036854775807) (a0 : 0 ≤ at_) (a1 : at_ < 256) (v0 : 0 ≤ v) (v1 : v < 4294967296) (hf : decide (m.xs.length ≤ 600 ∧ m.ys.length ≤ 600) = false) :
    Calls Tryd.prog 7 #[.agg (mach m), .int .u8 at_, .int .u32 v] W fun e W' => e = .returned (.bool true) ∧ Dn W W' := by
  have C0 := Lib.hid fun w => fun (t : Is.Tabs w) => awake w t
  have CF := Lib.hid fun w => fun (ow : m.Ok w) => rfew m false w ow hx hy hf
  clear hf
  have HD := Lib.hid (Dn.refl W)
  go_enter Tryd.func7, Tryd.ntmps7
  go_wp2_with (first | ((with_reducible refine wpList_box (vs := (mach m)) ?_ ?_ ?_); rfl; rfl; intro b_v3 w' nn; refine Hid.out ?_))
  refine Lib.hid ?_
  have HL_v3 : Hid (W.heap.size ≤ b_v3) := Lib.hid (Blk.hi nn HD.out.size)
  have d' := nn.dn
  replace HD := Lib.hid (HD.out.trans d')
  have v3 := nn.blk
  clear d' nn
  go_wp2_with (first | (go_at_call 9; (with_reducible refine (C0.out _ (T.dn HD.out)).mono ?_); rintro e w' ⟨rfl, d'⟩; refine Hid.out ?_))
  refine Lib.hid ?_
  replace v3 := v3.dn d'
  replace HD := Lib.hid (HD.out.trans d')
  clear d'
  go_wp2_with (first | ((with_reducible refine load33 v3 hm.len ?_ ?_ ?_); rfl; rfl) | (go_at_call 10; (with_reducible refine (CF.out _ (hm.dn HD.out)).mono ?_); rintro e w' ⟨rfl, d'⟩; refine Hid.out ?_))
  refine Lib.hid ?_
  replace v3 := v3.dn d'
  replace HD := Lib.hid (HD.out.trans d')
  clear d'
  go_wp2_with (first | (go_at_call 9; (with_reducible refine (C0.out _ (T.dn HD.out)).mono ?_); rintro e w' ⟨rfl, d'⟩; refine Hid.out ?_))
  refine Lib.hid ?_
  replace v3 := v3.dn d'
  replace HD := Lib.hid (HD.out.trans d')
  clear d'
  go_wp2_with fail
  go_ret
  exact ⟨rfl, HD.out⟩
set_option maxRecDepth 100000 in
set_option maxHeartbeats 2000000 in
theorem sl_yy (m : Mc) (at_ v : Int) (W : World) (hm : m.Ok W) (T : Is.Tabs W) (hx : m.xs.length ≤ 9223372036854775807) (hy : m.ys.length ≤ 9223372036854775807) (a0 : 0 ≤ at_) (a1 : at_ < 256) (v0 : 0 ≤ v) (v1 : v < 4294967296) (hf : decide (m.xs.length ≤ 600 ∧ m.ys.length ≤ 600) = true) (m1 m2 : Mc) (e1 : m1 = { m with c := m.c.set 17 1 }) (e2 : m2 = { m1 with c := M.setreg m1.c 3 v }) (c3 z3 c4 : List Int) (h1 : M.ex m2.c m2.xs 12 3 0 0 at_ = ⟨c3, z3, 0, 0⟩) (z3l : z3.length ≤ 600) (h2 : M.ex c3 z3 11 4 0 0 at_ = ⟨c4, z3, 0, 0⟩) (g2 : c4.getD 4 0 = v) (c5 z5 c6 : List Int) (h3 : M.ex m2.c m2.xs 14 3 0 0 at_ = ⟨c5, z5, 0, 0⟩) (z5l : z5.length ≤ 600) (h4 : M.ex c5 z5 13 4 0 0 at_ = ⟨c6, z5, 0, 0⟩) (g4 : c6.getD 4 0 = v % 256) :
    Calls Tryd.prog 7 #[.agg (mach m), .int .u8 at_, .int .u32 v] W fun e W' => e = .returned (.bool true) ∧ Dn W W' := by
  have hl := hm.len
  have hc := hm.core
  have hs : m.xs.length ≤ 600 := by simp only [decide_eq_true_eq] at hf; omega
  have C0 := Lib.hid fun w => fun (t : Is.Tabs w) => awake w t
  have CF := Lib.hid fun w => fun (ow : m.Ok w) => rfew m true w ow hx hy hf
  clear hf
  have l1 : m1.c.length = 29 := by rw [e1]; simp [hl]
  have k1c : M.Core m1.c := by rw [e1]; exact hc.set 17 1 (by decide) (by decide)
  have k2c : M.Core m2.c := by rw [e2]; exact k1c.setreg 3 ⟨v0, v1⟩
  have l2 := k2c.len
  have hx2 : m2.xs = m.xs := by rw [e2, e1]
  have hm2 : m2.Ok W := by rw [e2]; rw [e1] at k1c ⊢; exact ⟨by rw [e2, e1] at k2c; exact k2c, hm.mem, hm.out, hm.t0, hm.t1⟩
  have hs2 : m2.xs.length ≤ 100000 := by rw [hx2]; omega
  clear hx2
  have E1 := Lib.hid e1
  have he : (M.setreg (m1.c.take 16) 3 v).length = 16 := by rw [M.setreg_len]; exact take16 l1
  have HX : Hid (({ m1 with c := M.setreg (m1.c.take 16) 3 v ++ m1.c.drop 16 } : Mc) = m2) := Lib.hid (by rw [M.setreg_take _ l1, e2])
  have CQ := Lib.hid fun w => refPut (m1.c.take 16) 3 v w (take16 l1)
  generalize M.setreg (m1.c.take 16) 3 v = e at he HX CQ
  clear e1 e2
  have C1 := Lib.hid fun (w : World) (ow : m2.Ok w) (t : Is.Tabs w) => xRun m2 12 3 0 0 at_ _ _ rfl rfl ⟨c3, z3, 0, 0⟩ h1 hs2 (by omega) (by omega) (M.ok_at 12 3 at_ (by decide) (by decide) a0 a1) rfl w ow t
  have C3 := Lib.hid fun (w : World) (ow : m2.Ok w) (t : Is.Tabs w) => xRun m2 14 3 0 0 at_ _ _ rfl rfl ⟨c5, z5, 0, 0⟩ h3 hs2 (by omega) (by omega) (M.ok_at 14 3 at_ (by decide) (by decide) a0 a1) rfl w ow t
  have C2 := Lib.hid fun (w : World) (ma : Mc) (e : Exd m2 ⟨c3, z3, 0, 0⟩ ma) (ow : ma.Ok w) (t : Is.Tabs w) => xRun ma 11 4 0 0 at_ c3 z3 e.c e.xs ⟨c4, z3, 0, 0⟩ h2 (by omega) (by omega) (by omega) (M.ok_at 11 4 at_ (by decide) (by decide) a0 a1) rfl w ow t
  have q0 := eqTrap_self 0 0
  have C4 := Lib.hid fun (w : World) (ma : Mc) (e : Exd m2 ⟨c5, z5, 0, 0⟩ ma) (ow : ma.Ok w) (t : Is.Tabs w) => xRun ma 13 4 0 0 at_ c5 z5 e.c e.xs ⟨c6, z5, 0, 0⟩ h4 (by omega) (by omega) (by omega) (M.ok_at 13 4 at_ (by decide) (by decide) a0 a1) rfl w ow t
  have hu1 := Lib.hid hs2
  clear hs2 h1 h3 h2 h4
  have HD := Lib.hid (Dn.refl W)
  go_enter Tryd.func7, Tryd.ntmps7
  go_wp2_with (first | ((with_reducible refine wpList_box (vs := (mach m)) ?_ ?_ ?_); rfl; rfl; intro b_v3 w' nn; refine Hid.out ?_))
  refine Lib.hid ?_
  have HL_v3 : Hid (W.heap.size ≤ b_v3) := Lib.hid (Blk.hi nn HD.out.size)
  have d' := nn.dn
  replace HD := Lib.hid (HD.out.trans d')
  have v3 := nn.blk
  clear d' nn
  go_wp2_with (first | (go_at_call 9; (with_reducible refine (C0.out _ (T.dn HD.out)).mono ?_); rintro e w' ⟨rfl, d'⟩; refine Hid.out ?_))
  refine Lib.hid ?_
  replace v3 := v3.dn d'
  replace HD := Lib.hid (HD.out.trans d')
  clear d'
  go_wp2_with (first | ((with_reducible refine load33 v3 hl ?_ ?_ ?_); rfl; rfl) | (go_at_call 10; (with_reducible refine (CF.out _ (hm.dn HD.out)).mono ?_); rintro e w' ⟨rfl, d'⟩; refine Hid.out ?_))
  refine Lib.hid ?_
  replace v3 := v3.dn d'
  replace HD := Lib.hid (HD.out.trans d')
  clear d'
  go_wp2_with (first | ((with_reducible refine storeWord (i := 17) (u := 1) v3 hl ?_ ?_ ?_ ?_ ?_); rfl; rfl; rfl; rfl; intro w' r' t'; refine Hid.out ?_))
  refine Lib.hid ?_
  rw [← E1.out] at r'
  replace HD := Lib.hid (HD.out.trn HL_v3.out t')
  clear t' v3
  have v3 := r'
  clear r'
  go_wp2_with (first | ((with_reducible refine loadRegs v3 l1 ?_ ?_ ?_); rfl; rfl) | (go_at_call 18; (with_reducible refine (CQ.out _).mono ?_); rintro e w' ⟨rfl, d'⟩; refine Hid.out ?_))
  refine Lib.hid ?_
  replace v3 := v3.dn d'
  replace HD := Lib.hid (HD.out.trans d')
  clear d'
  go_wp2_with (first | ((with_reducible refine storeRegs e he v3 l1 ?_ ?_ ?_ ?_); rfl; rfl; rfl; intro w' r' t'; refine Hid.out ?_))
  refine Lib.hid ?_
  rw [HX.out] at r'
  replace HD := Lib.hid (HD.out.trn HL_v3.out t')
  clear t' v3
  have v3 := r'
  clear r'
  go_wp2_with (first | ((with_reducible refine load33 v3 l2 ?_ ?_ ?_); rfl; rfl) | (go_at_call 12; (with_reducible refine (C1.out _ (hm2.dn HD.out) (T.dn HD.out)).mono ?_); rintro e w' ⟨ma, rfl, oa', ua, d'⟩; refine Hid.out ?_))
  refine Lib.hid ?_
  replace v3 := v3.dn d'
  replace HD := Lib.hid (HD.out.trans d')
  clear d'
  have lma := oa'.out.len
  have oa := Lib.hid oa'.out
  go_wp2_with (first | ((with_reducible refine wpList_alloc zeroMach ?_ ?_); rfl; intro b_v8 w' nn; refine Hid.out ?_))
  refine Lib.hid ?_
  have n_v3_v8 := Lib.hid (nn.ne _ v3.lt)
  have HL_v8 : Hid (W.heap.size ≤ b_v8) := Lib.hid (Blk.hi nn HD.out.size)
  have d' := nn.dn
  replace v3 := v3.dn d'
  replace oa := Lib.hid (oa.out.dn d')
  replace HD := Lib.hid (HD.out.trans d')
  have v8 := nn.blk
  clear d' nn
  go_wp2_with (first | ((with_reducible refine wpList_alloc zeroTrap ?_ ?_); rfl; intro b_v9 w' nn; refine Hid.out ?_))
  refine Lib.hid ?_
  have n_v3_v9 := Lib.hid (nn.ne _ v3.lt)
  have n_v8_v9 := Lib.hid (nn.ne _ v8.lt)
  have HL_v9 : Hid (W.heap.size ≤ b_v9) := Lib.hid (Blk.hi nn HD.out.size)
  have d' := nn.dn
  replace v3 := v3.dn d'
  replace v8 := v8.dn d'
  replace oa := Lib.hid (oa.out.dn d')
  replace HD := Lib.hid (HD.out.trans d')
  have v9 := nn.blk
  clear d' nn
  go_wp2_with (first | ((with_reducible refine store33 ma lma v8 zlen ?_ ?_ ?_ ?_); rfl; rfl; rfl; intro w' r' t'; refine Hid.out ?_))
  refine Lib.hid ?_
  replace oa := Lib.hid (oa.out.trn v8 (NoU8.mach _) t')
  replace v3 := v3.trn t' n_v3_v8.out
  replace v9 := v9.trn t' n_v8_v9.out.symm
  replace HD := Lib.hid (HD.out.trn HL_v8.out t')
  clear t' v8
  have v8 := r'
  clear r'
  go_wp2_with (first | ((with_reducible refine storeTrap (k := 0) (v := 0) v9 ?_ ?_ ?_ ?_); rfl; rfl; rfl; intro w' r' t'; refine Hid.out ?_))
  refine Lib.hid ?_
  replace oa := Lib.hid (oa.out.trn v9 (NoU8.trap _ _) t')
  replace v3 := v3.trn t' n_v3_v9.out
  replace v8 := v8.trn t' n_v8_v9.out
  replace HD := Lib.hid (HD.out.trn HL_v9.out t')
  clear t' v9
  have v9 := r'
  clear r'
  go_wp2_with (first | ((with_reducible refine loadTrap v9 ?_ ?_ ?_); rfl; rfl) | ((with_reducible refine load33 v8 lma ?_ ?_ ?_); rfl; rfl) | (go_at_call 12; (with_reducible refine (C2.out _ ma ua.out oa.out (T.dn HD.out)).mono ?_); rintro e w' ⟨mb, rfl, ob', ub, d'⟩; refine Hid.out ?_))
  refine Lib.hid ?_
  replace v3 := v3.dn d'
  replace v8 := v8.dn d'
  replace v9 := v9.dn d'
  replace oa := Lib.hid (oa.out.dn d')
  replace HD := Lib.hid (HD.out.trans d')
  clear d'
  have lmb := ob'.out.len
  have nb : mb.c.getD 4 0 = v := by rw [ub.out.c]; exact g2
  have ob := Lib.hid ob'.out
  go_wp2_with (first | ((with_reducible refine wpList_alloc zeroMach ?_ ?_); rfl; intro b_v10 w' nn; refine Hid.out ?_))
  refine Lib.hid ?_
  have n_v3_v10 := Lib.hid (nn.ne _ v3.lt)
  have n_v8_v10 := Lib.hid (nn.ne _ v8.lt)
  have n_v9_v10 := Lib.hid (nn.ne _ v9.lt)
  have HL_v10 : Hid (W.heap.size ≤ b_v10) := Lib.hid (Blk.hi nn HD.out.size)
  have d' := nn.dn
  replace v3 := v3.dn d'
  replace v8 := v8.dn d'
  replace v9 := v9.dn d'
  replace oa := Lib.hid (oa.out.dn d')
  replace ob := Lib.hid (ob.out.dn d')
  replace HD := Lib.hid (HD.out.trans d')
  have v10 := nn.blk
  clear d' nn
  go_wp2_with (first | ((with_reducible refine wpList_alloc zeroTrap ?_ ?_); rfl; intro b_v11 w' nn; refine Hid.out ?_))
  refine Lib.hid ?_
  have n_v3_v11 := Lib.hid (nn.ne _ v3.lt)
  have n_v8_v11 := Lib.hid (nn.ne _ v8.lt)
  have n_v9_v11 := Lib.hid (nn.ne _ v9.lt)
  have n_v10_v11 := Lib.hid (nn.ne _ v10.lt)
  have HL_v11 : Hid (W.heap.size ≤ b_v11) := Lib.hid (Blk.hi nn HD.out.size)
  have d' := nn.dn
  replace v3 := v3.dn d'
  replace v8 := v8.dn d'
  replace v9 := v9.dn d'
  replace v10 := v10.dn d'
  replace oa := Lib.hid (oa.out.dn d')
  replace ob := Lib.hid (ob.out.dn d')
  replace HD := Lib.hid (HD.out.trans d')
  have v11 := nn.blk
  clear d' nn
  go_wp2_with (first | ((with_reducible refine store33 mb lmb v10 zlen ?_ ?_ ?_ ?_); rfl; rfl; rfl; intro w' r' t'; refine Hid.out ?_))
  refine Lib.hid ?_
  replace oa := Lib.hid (oa.out.trn v10 (NoU8.mach _) t')
  replace ob := Lib.hid (ob.out.trn v10 (NoU8.mach _) t')
  replace v3 := v3.trn t' n_v3_v10.out
  replace v8 := v8.trn t' n_v8_v10.out
  replace v9 := v9.trn t' n_v9_v10.out
  replace v11 := v11.trn t' n_v10_v11.out.symm
  replace HD := Lib.hid (HD.out.trn HL_v10.out t')
  clear t' v10
  have v10 := r'
  clear r'
  go_wp2_with (first | ((with_reducible refine storeTrap (k := 0) (v := 0) v11 ?_ ?_ ?_ ?_); rfl; rfl; rfl; intro w' r' t'; refine Hid.out ?_))
  refine Lib.hid ?_
  replace oa := Lib.hid (oa.out.trn v11 (NoU8.trap _ _) t')
  replace ob := Lib.hid (ob.out.trn v11 (NoU8.trap _ _) t')
  replace v3 := v3.trn t' n_v3_v11.out
  replace v8 := v8.trn t' n_v8_v11.out
  replace v9 := v9.trn t' n_v9_v11.out
  replace v10 := v10.trn t' n_v10_v11.out
  replace HD := Lib.hid (HD.out.trn HL_v11.out t')
  clear t' v11
  have v11 := r'
  clear r'
  have ck0 := v10.word lmb 4 rfl
  rw [nb] at ck0
  go_wp2_with (first | ((with_reducible refine loadTrap v11 ?_ ?_ ?_); rfl; rfl) | ((with_reducible refine load33 v3 l2 ?_ ?_ ?_); rfl; rfl) | (go_at_call 12; (with_reducible refine (C3.out _ (hm2.dn HD.out) (T.dn HD.out)).mono ?_); rintro e w' ⟨mc, rfl, oc', uc, d'⟩; refine Hid.out ?_))
  refine Lib.hid ?_
  clear ck0
  replace v3 := v3.dn d'
  replace v8 := v8.dn d'
  replace v9 := v9.dn d'
  replace v10 := v10.dn d'
  replace v11 := v11.dn d'
  replace oa := Lib.hid (oa.out.dn d')
  replace ob := Lib.hid (ob.out.dn d')
  replace HD := Lib.hid (HD.out.trans d')
  clear d'
  have lmc := oc'.out.len
  have oc := Lib.hid oc'.out
  go_wp2_with (first | ((with_reducible refine wpList_alloc zeroMach ?_ ?_); rfl; intro b_v12 w' nn; refine Hid.out ?_))
  refine Lib.hid ?_
  have n_v3_v12 := Lib.hid (nn.ne _ v3.lt)
  have n_v8_v12 := Lib.hid (nn.ne _ v8.lt)
  have n_v9_v12 := Lib.hid (nn.ne _ v9.lt)
  have n_v10_v12 := Lib.hid (nn.ne _ v10.lt)
  have n_v11_v12 := Lib.hid (nn.ne _ v11.lt)
  have HL_v12 : Hid (W.heap.size ≤ b_v12) := Lib.hid (Blk.hi nn HD.out.size)
  have d' := nn.dn
  replace v3 := v3.dn d'
  replace v8 := v8.dn d'
  replace v9 := v9.dn d'
  replace v10 := v10.dn d'
  replace v11 := v11.dn d'
  replace oa := Lib.hid (oa.out.dn d')
  replace ob := Lib.hid (ob.out.dn d')
  replace oc := Lib.hid (oc.out.dn d')
  replace HD := Lib.hid (HD.out.trans d')
  have v12 := nn.blk
  clear d' nn
  go_wp2_with (first | ((with_reducible refine wpList_alloc zeroTrap ?_ ?_); rfl; intro b_v13 w' nn; refine Hid.out ?_))
  refine Lib.hid ?_
  have n_v3_v13 := Lib.hid (nn.ne _ v3.lt)
  have n_v8_v13 := Lib.hid (nn.ne _ v8.lt)
  have n_v9_v13 := Lib.hid (nn.ne _ v9.lt)
  have n_v10_v13 := Lib.hid (nn.ne _ v10.lt)
  have n_v11_v13 := Lib.hid (nn.ne _ v11.lt)
  have n_v12_v13 := Lib.hid (nn.ne _ v12.lt)
  have HL_v13 : Hid (W.heap.size ≤ b_v13) := Lib.hid (Blk.hi nn HD.out.size)
  have d' := nn.dn
  replace v3 := v3.dn d'
  replace v8 := v8.dn d'
  replace v9 := v9.dn d'
  replace v10 := v10.dn d'
  replace v11 := v11.dn d'
  replace v12 := v12.dn d'
  replace oa := Lib.hid (oa.out.dn d')
  replace ob := Lib.hid (ob.out.dn d')
  replace oc := Lib.hid (oc.out.dn d')
  replace HD := Lib.hid (HD.out.trans d')
  have v13 := nn.blk
  clear d' nn
  go_wp2_with (first | ((with_reducible refine store33 mc lmc v12 zlen ?_ ?_ ?_ ?_); rfl; rfl; rfl; intro w' r' t'; refine Hid.out ?_))
  refine Lib.hid ?_
  replace oa := Lib.hid (oa.out.trn v12 (NoU8.mach _) t')
  replace ob := Lib.hid (ob.out.trn v12 (NoU8.mach _) t')
  replace oc := Lib.hid (oc.out.trn v12 (NoU8.mach _) t')
  replace v3 := v3.trn t' n_v3_v12.out
  replace v8 := v8.trn t' n_v8_v12.out
  replace v9 := v9.trn t' n_v9_v12.out
  replace v10 := v10.trn t' n_v10_v12.out
  replace v11 := v11.trn t' n_v11_v12.out
  replace v13 := v13.trn t' n_v12_v13.out.symm
  replace HD := Lib.hid (HD.out.trn HL_v12.out t')
  clear t' v12
  have v12 := r'
  clear r'
  go_wp2_with (first | ((with_reducible refine storeTrap (k := 0) (v := 0) v13 ?_ ?_ ?_ ?_); rfl; rfl; rfl; intro w' r' t'; refine Hid.out ?_))
  refine Lib.hid ?_
  replace oa := Lib.hid (oa.out.trn v13 (NoU8.trap _ _) t')
  replace ob := Lib.hid (ob.out.trn v13 (NoU8.trap _ _) t')
  replace oc := Lib.hid (oc.out.trn v13 (NoU8.trap _ _) t')
  replace v3 := v3.trn t' n_v3_v13.out
  replace v8 := v8.trn t' n_v8_v13.out
  replace v9 := v9.trn t' n_v9_v13.out
  replace v10 := v10.trn t' n_v10_v13.out
  replace v11 := v11.trn t' n_v11_v13.out
  replace v12 := v12.trn t' n_v12_v13.out
  replace HD := Lib.hid (HD.out.trn HL_v13.out t')
  clear t' v13
  have v13 := r'
  clear r'
  go_wp2_with (first | ((with_reducible refine loadTrap v13 ?_ ?_ ?_); rfl; rfl) | ((with_reducible refine load33 v12 lmc ?_ ?_ ?_); rfl; rfl) | (go_at_call 12; (with_reducible refine (C4.out _ mc uc.out oc.out (T.dn HD.out)).mono ?_); rintro e w' ⟨md, rfl, od', ud, d'⟩; refine Hid.out ?_))
  refine Lib.hid ?_
  replace v3 := v3.dn d'
  replace v8 := v8.dn d'
  replace v9 := v9.dn d'
  replace v10 := v10.dn d'
  replace v11 := v11.dn d'
  replace v12 := v12.dn d'
  replace v13 := v13.dn d'
  replace oa := Lib.hid (oa.out.dn d')
  replace ob := Lib.hid (ob.out.dn d')
  replace oc := Lib.hid (oc.out.dn d')
  replace HD := Lib.hid (HD.out.trans d')
  clear d'
  have lmd := od'.out.len
  have nd : md.c.getD 4 0 = v % 256 := by rw [ud.out.c]; exact g4
  have od := Lib.hid od'.out
  go_wp2_with (first | ((with_reducible refine wpList_alloc zeroMach ?_ ?_); rfl; intro b_v14 w' nn; refine Hid.out ?_))
  refine Lib.hid ?_
  have n_v3_v14 := Lib.hid (nn.ne _ v3.lt)
  have n_v8_v14 := Lib.hid (nn.ne _ v8.lt)
  have n_v9_v14 := Lib.hid (nn.ne _ v9.lt)
  have n_v10_v14 := Lib.hid (nn.ne _ v10.lt)
  have n_v11_v14 := Lib.hid (nn.ne _ v11.lt)
  have n_v12_v14 := Lib.hid (nn.ne _ v12.lt)
  have n_v13_v14 := Lib.hid (nn.ne _ v13.lt)
  have HL_v14 : Hid (W.heap.size ≤ b_v14) := Lib.hid (Blk.hi nn HD.out.size)
  have d' := nn.dn
  replace v3 := v3.dn d'
  replace v8 := v8.dn d'
  replace v9 := v9.dn d'
  replace v10 := v10.dn d'
  replace v11 := v11.dn d'
  replace v12 := v12.dn d'
  replace v13 := v13.dn d'
  replace oa := Lib.hid (oa.out.dn d')
  replace ob := Lib.hid (ob.out.dn d')
  replace oc := Lib.hid (oc.out.dn d')
  replace od := Lib.hid (od.out.dn d')
  replace HD := Lib.hid (HD.out.trans d')
  have v14 := nn.blk
  clear d' nn
  go_wp2_with (first | ((with_reducible refine wpList_alloc zeroTrap ?_ ?_); rfl; intro b_v15 w' nn; refine Hid.out ?_))
  refine Lib.hid ?_
  have n_v3_v15 := Lib.hid (nn.ne _ v3.lt)
  have n_v8_v15 := Lib.hid (nn.ne _ v8.lt)
  have n_v9_v15 := Lib.hid (nn.ne _ v9.lt)
  have n_v10_v15 := Lib.hid (nn.ne _ v10.lt)
  have n_v11_v15 := Lib.hid (nn.ne _ v11.lt)
  have n_v12_v15 := Lib.hid (nn.ne _ v12.lt)
  have n_v13_v15 := Lib.hid (nn.ne _ v13.lt)
  have n_v14_v15 := Lib.hid (nn.ne _ v14.lt)
  have HL_v15 : Hid (W.heap.size ≤ b_v15) := Lib.hid (Blk.hi nn HD.out.size)
  have d' := nn.dn
  replace v3 := v3.dn d'
  replace v8 := v8.dn d'
  replace v9 := v9.dn d'
  replace v10 := v10.dn d'
  replace v11 := v11.dn d'
  replace v12 := v12.dn d'
  replace v13 := v13.dn d'
  replace v14 := v14.dn d'
  replace oa := Lib.hid (oa.out.dn d')
  replace ob := Lib.hid (ob.out.dn d')
  replace oc := Lib.hid (oc.out.dn d')
  replace od := Lib.hid (od.out.dn d')
  replace HD := Lib.hid (HD.out.trans d')
  have v15 := nn.blk
  clear d' nn
  go_wp2_with (first | ((with_reducible refine store33 md lmd v14 zlen ?_ ?_ ?_ ?_); rfl; rfl; rfl; intro w' r' t'; refine Hid.out ?_))
  refine Lib.hid ?_
  replace oa := Lib.hid (oa.out.trn v14 (NoU8.mach _) t')
  replace ob := Lib.hid (ob.out.trn v14 (NoU8.mach _) t')
  replace oc := Lib.hid (oc.out.trn v14 (NoU8.mach _) t')
  replace od := Lib.hid (od.out.trn v14 (NoU8.mach _) t')
  replace v3 := v3.trn t' n_v3_v14.out
  replace v8 := v8.trn t' n_v8_v14.out
  replace v9 := v9.trn t' n_v9_v14.out
  replace v10 := v10.trn t' n_v10_v14.out
  replace v11 := v11.trn t' n_v11_v14.out
  replace v12 := v12.trn t' n_v12_v14.out
  replace v13 := v13.trn t' n_v13_v14.out
  replace v15 := v15.trn t' n_v14_v15.out.symm
  replace HD := Lib.hid (HD.out.trn HL_v14.out t')
  clear t' v14
  have v14 := r'
  clear r'
  go_wp2_with (first | ((with_reducible refine storeTrap (k := 0) (v := 0) v15 ?_ ?_ ?_ ?_); rfl; rfl; rfl; intro w' r' t'; refine Hid.out ?_))
  refine Lib.hid ?_
  replace oa := Lib.hid (oa.out.trn v15 (NoU8.trap _ _) t')
  replace ob := Lib.hid (ob.out.trn v15 (NoU8.trap _ _) t')
  replace oc := Lib.hid (oc.out.trn v15 (NoU8.trap _ _) t')
  replace od := Lib.hid (od.out.trn v15 (NoU8.trap _ _) t')
  replace v3 := v3.trn t' n_v3_v15.out
  replace v8 := v8.trn t' n_v8_v15.out
  replace v9 := v9.trn t' n_v9_v15.out
  replace v10 := v10.trn t' n_v10_v15.out
  replace v11 := v11.trn t' n_v11_v15.out
  replace v12 := v12.trn t' n_v12_v15.out
  replace v13 := v13.trn t' n_v13_v15.out
  replace v14 := v14.trn t' n_v14_v15.out
  replace HD := Lib.hid (HD.out.trn HL_v15.out t')
  clear t' v15
  have v15 := r'
  clear r'
  have ck0 := v14.word lmd 4 rfl
  rw [nd] at ck0
  go_wp2_with (first | ((with_reducible refine loadTrap v15 ?_ ?_ ?_); rfl; rfl) | fail)
  go_ret
  exact ⟨rfl, HD.out⟩
set_option maxRecDepth 100000 in
set_option maxHeartbeats 2000000 in
theorem sl_yn (m : Mc) (at_ v : Int) (W : World) (hm : m.Ok W) (T : Is.Tabs W) (hx : m.xs.length ≤ 9223372036854775807) (hy : m.ys.length ≤ 9223372036854775807) (a0 : 0 ≤ at_) (a1 : at_ < 256) (v0 : 0 ≤ v) (v1 : v < 4294967296) (hf : decide (m.xs.length ≤ 600 ∧ m.ys.length ≤ 600) = true) (m1 m2 : Mc) (e1 : m1 = { m with c := m.c.set 17 1 }) (e2 : m2 = { m1 with c := M.setreg m1.c 3 v }) (c3 z3 c4 : List Int) (h1 : M.ex m2.c m2.xs 12 3 0 0 at_ = ⟨c3, z3, 0, 0⟩) (z3l : z3.length ≤ 600) (h2 : M.ex c3 z3 11 4 0 0 at_ = ⟨c4, z3, 0, 0⟩) (g2 : c4.getD 4 0 = v) (k3 t3 : Int) (h3 : M.ex m2.c m2.xs 14 3 0 0 at_ = ⟨m2.c, m2.xs, k3, t3⟩) (k3z : k3 ≠ 0) (out : (m2.xs.length : Int) ≤ at_) :
    Calls Tryd.prog 7 #[.agg (mach m), .int .u8 at_, .int .u32 v] W fun e W' => e = .returned (.bool true) ∧ Dn W W' := by
  have hl := hm.len
  have hc := hm.core
  have hs : m.xs.length ≤ 600 := by simp only [decide_eq_true_eq] at hf; omega
  have C0 := Lib.hid fun w => fun (t : Is.Tabs w) => awake w t
  have CF := Lib.hid fun w => fun (ow : m.Ok w) => rfew m true w ow hx hy hf
  clear hf
  have l1 : m1.c.length = 29 := by rw [e1]; simp [hl]
  have k1c : M.Core m1.c := by rw [e1]; exact hc.set 17 1 (by decide) (by decide)
  have k2c : M.Core m2.c := by rw [e2]; exact k1c.setreg 3 ⟨v0, v1⟩
  have l2 := k2c.len
  have hx2 : m2.xs = m.xs := by rw [e2, e1]
  have hm2 : m2.Ok W := by rw [e2]; rw [e1] at k1c ⊢; exact ⟨by rw [e2, e1] at k2c; exact k2c, hm.mem, hm.out, hm.t0, hm.t1⟩
  have hs2 : m2.xs.length ≤ 100000 := by rw [hx2]; omega
  clear hx2
  have E1 := Lib.hid e1
  have he : (M.setreg (m1.c.take 16) 3 v).length = 16 := by rw [M.setreg_len]; exact take16 l1
  have HX : Hid (({ m1 with c := M.setreg (m1.c.take 16) 3 v ++ m1.c.drop 16 } : Mc) = m2) := Lib.hid (by rw [M.setreg_take _ l1, e2])
  have CQ := Lib.hid fun w => refPut (m1.c.take 16) 3 v w (take16 l1)
  generalize M.setreg (m1.c.take 16) 3 v = e at he HX CQ
  clear e1 e2
  have C1 := Lib.hid fun (w : World) (ow : m2.Ok w) (t : Is.Tabs w) => xRun m2 12 3 0 0 at_ _ _ rfl rfl ⟨c3, z3, 0, 0⟩ h1 hs2 (by omega) (by omega) (M.ok_at 12 3 at_ (by decide) (by decide) a0 a1) rfl w ow t
  have C3 := Lib.hid fun (w : World) (ow : m2.Ok w) (t : Is.Tabs w) => xRun m2 14 3 0 0 at_ _ _ rfl rfl ⟨m2.c, m2.xs, k3, t3⟩ h3 hs2 (by omega) (by omega) (M.ok_at 14 3 at_ (by decide) (by decide) a0 a1) rfl w ow t
  have C2 := Lib.hid fun (w : World) (ma : Mc) (e : Exd m2 ⟨c3, z3, 0, 0⟩ ma) (ow : ma.Ok w) (t : Is.Tabs w) => xRun ma 11 4 0 0 at_ c3 z3 e.c e.xs ⟨c4, z3, 0, 0⟩ h2 (by omega) (by omega) (by omega) (M.ok_at 11 4 at_ (by decide) (by decide) a0 a1) rfl w ow t
  have q0 := eqTrap_self 0 0
  have q3 := fun w => qTrapNo (v := t3) k3z w
  have hu1 := Lib.hid hs2
  clear hs2 h1 h3 h2 k3z
  have HD := Lib.hid (Dn.refl W)
  go_enter Tryd.func7, Tryd.ntmps7
  go_wp2_with (first | ((with_reducible refine wpList_box (vs := (mach m)) ?_ ?_ ?_); rfl; rfl; intro b_v3 w' nn; refine Hid.out ?_))
  refine Lib.hid ?_
  have HL_v3 : Hid (W.heap.size ≤ b_v3) := Lib.hid (Blk.hi nn HD.out.size)
  have d' := nn.dn
  replace HD := Lib.hid (HD.out.trans d')
  have v3 := nn.blk
  clear d' nn
  go_wp2_with (first | (go_at_call 9; (with_reducible refine (C0.out _ (T.dn HD.out)).mono ?_); rintro e w' ⟨rfl, d'⟩; refine Hid.out ?_))
  refine Lib.hid ?_
  replace v3 := v3.dn d'
  replace HD := Lib.hid (HD.out.trans d')
  clear d'
  go_wp2_with (first | ((with_reducible refine load33 v3 hl ?_ ?_ ?_); rfl; rfl) | (go_at_call 10; (with_reducible refine (CF.out _ (hm.dn HD.out)).mono ?_); rintro e w' ⟨rfl, d'⟩; refine Hid.out ?_))
  refine Lib.hid ?_
  replace v3 := v3.dn d'
  replace HD := Lib.hid (HD.out.trans d')
  clear d'
  go_wp2_with (first | ((with_reducible refine storeWord (i := 17) (u := 1) v3 hl ?_ ?_ ?_ ?_ ?_); rfl; rfl; rfl; rfl; intro w' r' t'; refine Hid.out ?_))
  refine Lib.hid ?_
  rw [← E1.out] at r'
  replace HD := Lib.hid (HD.out.trn HL_v3.out t')
  clear t' v3
  have v3 := r'
  clear r'
  go_wp2_with (first | ((with_reducible refine loadRegs v3 l1 ?_ ?_ ?_); rfl; rfl) | (go_at_call 18; (with_reducible refine (CQ.out _).mono ?_); rintro e w' ⟨rfl, d'⟩; refine Hid.out ?_))
  refine Lib.hid ?_
  replace v3 := v3.dn d'
  replace HD := Lib.hid (HD.out.trans d')
  clear d'
  go_wp2_with (first | ((with_reducible refine storeRegs e he v3 l1 ?_ ?_ ?_ ?_); rfl; rfl; rfl; intro w' r' t'; refine Hid.out ?_))
  refine Lib.hid ?_
  rw [HX.out] at r'
  replace HD := Lib.hid (HD.out.trn HL_v3.out t')
  clear t' v3
  have v3 := r'
  clear r'
  go_wp2_with (first | ((with_reducible refine load33 v3 l2 ?_ ?_ ?_); rfl; rfl) | (go_at_call 12; (with_reducible refine (C1.out _ (hm2.dn HD.out) (T.dn HD.out)).mono ?_); rintro e w' ⟨ma, rfl, oa', ua, d'⟩; refine Hid.out ?_))
  refine Lib.hid ?_
  replace v3 := v3.dn d'
  replace HD := Lib.hid (HD.out.trans d')
  clear d'
  have lma := oa'.out.len
  have oa := Lib.hid oa'.out
  go_wp2_with (first | ((with_reducible refine wpList_alloc zeroMach ?_ ?_); rfl; intro b_v8 w' nn; refine Hid.out ?_))
  refine Lib.hid ?_
  have n_v3_v8 := Lib.hid (nn.ne _ v3.lt)
  have HL_v8 : Hid (W.heap.size ≤ b_v8) := Lib.hid (Blk.hi nn HD.out.size)
  have d' := nn.dn
  replace v3 := v3.dn d'
  replace oa := Lib.hid (oa.out.dn d')
  replace HD := Lib.hid (HD.out.trans d')
  have v8 := nn.blk
  clear d' nn
  go_wp2_with (first | ((with_reducible refine wpList_alloc zeroTrap ?_ ?_); rfl; intro b_v9 w' nn; refine Hid.out ?_))
  refine Lib.hid ?_
  have n_v3_v9 := Lib.hid (nn.ne _ v3.lt)
  have n_v8_v9 := Lib.hid (nn.ne _ v8.lt)
  have HL_v9 : Hid (W.heap.size ≤ b_v9) := Lib.hid (Blk.hi nn HD.out.size)
  have d' := nn.dn
  replace v3 := v3.dn d'
  replace v8 := v8.dn d'
  replace oa := Lib.hid (oa.out.dn d')
  replace HD := Lib.hid (HD.out.trans d')
  have v9 := nn.blk
  clear d' nn
  go_wp2_with (first | ((with_reducible refine store33 ma lma v8 zlen ?_ ?_ ?_ ?_); rfl; rfl; rfl; intro w' r' t'; refine Hid.out ?_))
  refine Lib.hid ?_
  replace oa := Lib.hid (oa.out.trn v8 (NoU8.mach _) t')
  replace v3 := v3.trn t' n_v3_v8.out
  replace v9 := v9.trn t' n_v8_v9.out.symm
  replace HD := Lib.hid (HD.out.trn HL_v8.out t')
  clear t' v8
  have v8 := r'
  clear r'
  go_wp2_with (first | ((with_reducible refine storeTrap (k := 0) (v := 0) v9 ?_ ?_ ?_ ?_); rfl; rfl; rfl; intro w' r' t'; refine Hid.out ?_))
  refine Lib.hid ?_
  replace oa := Lib.hid (oa.out.trn v9 (NoU8.trap _ _) t')
  replace v3 := v3.trn t' n_v3_v9.out
  replace v8 := v8.trn t' n_v8_v9.out
  replace HD := Lib.hid (HD.out.trn HL_v9.out t')
  clear t' v9
  have v9 := r'
  clear r'
  go_wp2_with (first | ((with_reducible refine loadTrap v9 ?_ ?_ ?_); rfl; rfl) | ((with_reducible refine load33 v8 lma ?_ ?_ ?_); rfl; rfl) | (go_at_call 12; (with_reducible refine (C2.out _ ma ua.out oa.out (T.dn HD.out)).mono ?_); rintro e w' ⟨mb, rfl, ob', ub, d'⟩; refine Hid.out ?_))
  refine Lib.hid ?_
  replace v3 := v3.dn d'
  replace v8 := v8.dn d'
  replace v9 := v9.dn d'
  replace oa := Lib.hid (oa.out.dn d')
  replace HD := Lib.hid (HD.out.trans d')
  clear d'
  have lmb := ob'.out.len
  have nb : mb.c.getD 4 0 = v := by rw [ub.out.c]; exact g2
  have ob := Lib.hid ob'.out
  go_wp2_with (first | ((with_reducible refine wpList_alloc zeroMach ?_ ?_); rfl; intro b_v10 w' nn; refine Hid.out ?_))
  refine Lib.hid ?_
  have n_v3_v10 := Lib.hid (nn.ne _ v3.lt)
  have n_v8_v10 := Lib.hid (nn.ne _ v8.lt)
  have n_v9_v10 := Lib.hid (nn.ne _ v9.lt)
  have HL_v10 : Hid (W.heap.size ≤ b_v10) := Lib.hid (Blk.hi nn HD.out.size)
  have d' := nn.dn
  replace v3 := v3.dn d'
  replace v8 := v8.dn d'
  replace v9 := v9.dn d'
  replace oa := Lib.hid (oa.out.dn d')
  replace ob := Lib.hid (ob.out.dn d')
  replace HD := Lib.hid (HD.out.trans d')
  have v10 := nn.blk
  clear d' nn
  go_wp2_with (first | ((with_reducible refine wpList_alloc zeroTrap ?_ ?_); rfl; intro b_v11 w' nn; refine Hid.out ?_))
  refine Lib.hid ?_
  have n_v3_v11 := Lib.hid (nn.ne _ v3.lt)
  have n_v8_v11 := Lib.hid (nn.ne _ v8.lt)
  have n_v9_v11 := Lib.hid (nn.ne _ v9.lt)
  have n_v10_v11 := Lib.hid (nn.ne _ v10.lt)
  have HL_v11 : Hid (W.heap.size ≤ b_v11) := Lib.hid (Blk.hi nn HD.out.size)
  have d' := nn.dn
  replace v3 := v3.dn d'
  replace v8 := v8.dn d'
  replace v9 := v9.dn d'
  replace v10 := v10.dn d'
  replace oa := Lib.hid (oa.out.dn d')
  replace ob := Lib.hid (ob.out.dn d')
  replace HD := Lib.hid (HD.out.trans d')
  have v11 := nn.blk
  clear d' nn
  go_wp2_with (first | ((with_reducible refine store33 mb lmb v10 zlen ?_ ?_ ?_ ?_); rfl; rfl; rfl; intro w' r' t'; refine Hid.out ?_))
  refine Lib.hid ?_
  replace oa := Lib.hid (oa.out.trn v10 (NoU8.mach _) t')
  replace ob := Lib.hid (ob.out.trn v10 (NoU8.mach _) t')
  replace v3 := v3.trn t' n_v3_v10.out
  replace v8 := v8.trn t' n_v8_v10.out
  replace v9 := v9.trn t' n_v9_v10.out
  replace v11 := v11.trn t' n_v10_v11.out.symm
  replace HD := Lib.hid (HD.out.trn HL_v10.out t')
  clear t' v10
  have v10 := r'
  clear r'
  go_wp2_with (first | ((with_reducible refine storeTrap (k := 0) (v := 0) v11 ?_ ?_ ?_ ?_); rfl; rfl; rfl; intro w' r' t'; refine Hid.out ?_))
  refine Lib.hid ?_
  replace oa := Lib.hid (oa.out.trn v11 (NoU8.trap _ _) t')
  replace ob := Lib.hid (ob.out.trn v11 (NoU8.trap _ _) t')
  replace v3 := v3.trn t' n_v3_v11.out
  replace v8 := v8.trn t' n_v8_v11.out
  replace v9 := v9.trn t' n_v9_v11.out
  replace v10 := v10.trn t' n_v10_v11.out
  replace HD := Lib.hid (HD.out.trn HL_v11.out t')
  clear t' v11
  have v11 := r'
  clear r'
  have ck0 := v10.word lmb 4 rfl
  rw [nb] at ck0
  go_wp2_with (first | ((with_reducible refine loadTrap v11 ?_ ?_ ?_); rfl; rfl) | ((with_reducible refine load33 v3 l2 ?_ ?_ ?_); rfl; rfl) | (go_at_call 12; (with_reducible refine (C3.out _ (hm2.dn HD.out) (T.dn HD.out)).mono ?_); rintro e w' ⟨mc, rfl, oc', uc, d'⟩; refine Hid.out ?_))
  refine Lib.hid ?_
  clear ck0
  replace v3 := v3.dn d'
  replace v8 := v8.dn d'
  replace v9 := v9.dn d'
  replace v10 := v10.dn d'
  replace v11 := v11.dn d'
  replace oa := Lib.hid (oa.out.dn d')
  replace ob := Lib.hid (ob.out.dn d')
  replace HD := Lib.hid (HD.out.trans d')
  clear d'
  have lmc := oc'.out.len
  have oc := Lib.hid oc'.out
  go_wp2_with (first | ((with_reducible refine wpList_alloc zeroMach ?_ ?_); rfl; intro b_v12 w' nn; refine Hid.out ?_))
  refine Lib.hid ?_
  have n_v3_v12 := Lib.hid (nn.ne _ v3.lt)
  have n_v8_v12 := Lib.hid (nn.ne _ v8.lt)
  have n_v9_v12 := Lib.hid (nn.ne _ v9.lt)
  have n_v10_v12 := Lib.hid (nn.ne _ v10.lt)
  have n_v11_v12 := Lib.hid (nn.ne _ v11.lt)
  have HL_v12 : Hid (W.heap.size ≤ b_v12) := Lib.hid (Blk.hi nn HD.out.size)
  have d' := nn.dn
  replace v3 := v3.dn d'
  replace v8 := v8.dn d'
  replace v9 := v9.dn d'
  replace v10 := v10.dn d'
  replace v11 := v11.dn d'
  replace oa := Lib.hid (oa.out.dn d')
  replace ob := Lib.hid (ob.out.dn d')
  replace oc := Lib.hid (oc.out.dn d')
  replace HD := Lib.hid (HD.out.trans d')
  have v12 := nn.blk
  clear d' nn
  go_wp2_with (first | ((with_reducible refine wpList_alloc zeroTrap ?_ ?_); rfl; intro b_v13 w' nn; refine Hid.out ?_))
  refine Lib.hid ?_
  have n_v3_v13 := Lib.hid (nn.ne _ v3.lt)
  have n_v8_v13 := Lib.hid (nn.ne _ v8.lt)
  have n_v9_v13 := Lib.hid (nn.ne _ v9.lt)
  have n_v10_v13 := Lib.hid (nn.ne _ v10.lt)
  have n_v11_v13 := Lib.hid (nn.ne _ v11.lt)
  have n_v12_v13 := Lib.hid (nn.ne _ v12.lt)
  have HL_v13 : Hid (W.heap.size ≤ b_v13) := Lib.hid (Blk.hi nn HD.out.size)
  have d' := nn.dn
  replace v3 := v3.dn d'
  replace v8 := v8.dn d'
  replace v9 := v9.dn d'
  replace v10 := v10.dn d'
  replace v11 := v11.dn d'
  replace v12 := v12.dn d'
  replace oa := Lib.hid (oa.out.dn d')
  replace ob := Lib.hid (ob.out.dn d')
  replace oc := Lib.hid (oc.out.dn d')
  replace HD := Lib.hid (HD.out.trans d')
  have v13 := nn.blk
  clear d' nn
  go_wp2_with (first | ((with_reducible refine store33 mc lmc v12 zlen ?_ ?_ ?_ ?_); rfl; rfl; rfl; intro w' r' t'; refine Hid.out ?_))
  refine Lib.hid ?_
  replace oa := Lib.hid (oa.out.trn v12 (NoU8.mach _) t')
  replace ob := Lib.hid (ob.out.trn v12 (NoU8.mach _) t')
  replace oc := Lib.hid (oc.out.trn v12 (NoU8.mach _) t')
  replace v3 := v3.trn t' n_v3_v12.out
  replace v8 := v8.trn t' n_v8_v12.out
  replace v9 := v9.trn t' n_v9_v12.out
  replace v10 := v10.trn t' n_v10_v12.out
  replace v11 := v11.trn t' n_v11_v12.out
  replace v13 := v13.trn t' n_v12_v13.out.symm
  replace HD := Lib.hid (HD.out.trn HL_v12.out t')
  clear t' v12
  have v12 := r'
  clear r'
  go_wp2_with (first | ((with_reducible refine storeTrap (k := k3) (v := t3) v13 ?_ ?_ ?_ ?_); rfl; rfl; rfl; intro w' r' t'; refine Hid.out ?_))
  refine Lib.hid ?_
  replace oa := Lib.hid (oa.out.trn v13 (NoU8.trap _ _) t')
  replace ob := Lib.hid (ob.out.trn v13 (NoU8.trap _ _) t')
  replace oc := Lib.hid (oc.out.trn v13 (NoU8.trap _ _) t')
  replace v3 := v3.trn t' n_v3_v13.out
  replace v8 := v8.trn t' n_v8_v13.out
  replace v9 := v9.trn t' n_v9_v13.out
  replace v10 := v10.trn t' n_v10_v13.out
  replace v11 := v11.trn t' n_v11_v13.out
  replace v12 := v12.trn t' n_v12_v13.out
  replace HD := Lib.hid (HD.out.trn HL_v13.out t')
  clear t' v13
  have v13 := r'
  clear r'
  have ck0 := v3.mem l2
  go_wp2_with (first | ((with_reducible refine loadTrap v13 ?_ ?_ ?_); rfl; rfl) | fail)
  go_ret
  exact ⟨rfl, HD.out⟩
set_option maxRecDepth 100000 in
set_option maxHeartbeats 2000000 in
theorem sl_ny (m : Mc) (at_ v : Int) (W : World) (hm : m.Ok W) (T : Is.Tabs W) (hx : m.xs.length ≤ 9223372036854775807) (hy : m.ys.length ≤ 9223372036854775807) (a0 : 0 ≤ at_) (a1 : at_ < 256) (v0 : 0 ≤ v) (v1 : v < 4294967296) (hf : decide (m.xs.length ≤ 600 ∧ m.ys.length ≤ 600) = true) (m1 m2 : Mc) (e1 : m1 = { m with c := m.c.set 17 1 }) (e2 : m2 = { m1 with c := M.setreg m1.c 3 v }) (k1 t1 : Int) (h1 : M.ex m2.c m2.xs 12 3 0 0 at_ = ⟨m2.c, m2.xs, k1, t1⟩) (k1z : k1 ≠ 0) (c5 z5 c6 : List Int) (h3 : M.ex m2.c m2.xs 14 3 0 0 at_ = ⟨c5, z5, 0, 0⟩) (z5l : z5.length ≤ 600) (h4 : M.ex c5 z5 13 4 0 0 at_ = ⟨c6, z5, 0, 0⟩) (g4 : c6.getD 4 0 = v % 256) :
    Calls Tryd.prog 7 #[.agg (mach m), .int .u8 at_, .int .u32 v] W fun e W' => e = .returned (.bool true) ∧ Dn W W' := by
  have hl := hm.len
  have hc := hm.core
  have hs : m.xs.length ≤ 600 := by simp only [decide_eq_true_eq] at hf; omega
  have C0 := Lib.hid fun w => fun (t : Is.Tabs w) => awake w t
  have CF := Lib.hid fun w => fun (ow : m.Ok w) => rfew m true w ow hx hy hf
  clear hf
  have l1 : m1.c.length = 29 := by rw [e1]; simp [hl]
  have k1c : M.Core m1.c := by rw [e1]; exact hc.set 17 1 (by decide) (by decide)
  have k2c : M.Core m2.c := by rw [e2]; exact k1c.setreg 3 ⟨v0, v1⟩
  have l2 := k2c.len
  have hx2 : m2.xs = m.xs := by rw [e2, e1]
  have hm2 : m2.Ok W := by rw [e2]; rw [e1] at k1c ⊢; exact ⟨by rw [e2, e1] at k2c; exact k2c, hm.mem, hm.out, hm.t0, hm.t1⟩
  have hs2 : m2.xs.length ≤ 100000 := by rw [hx2]; omega
  clear hx2
  have E1 := Lib.hid e1
  have he : (M.setreg (m1.c.take 16) 3 v).length = 16 := by rw [M.setreg_len]; exact take16 l1
  have HX : Hid (({ m1 with c := M.setreg (m1.c.take 16) 3 v ++ m1.c.drop 16 } : Mc) = m2) := Lib.hid (by rw [M.setreg_take _ l1, e2])
  have CQ := Lib.hid fun w => refPut (m1.c.take 16) 3 v w (take16 l1)
  generalize M.setreg (m1.c.take 16) 3 v = e at he HX CQ
  clear e1 e2
  have C1 := Lib.hid fun (w : World) (ow : m2.Ok w) (t : Is.Tabs w) => xRun m2 12 3 0 0 at_ _ _ rfl rfl ⟨m2.c, m2.xs, k1, t1⟩ h1 hs2 (by omega) (by omega) (M.ok_at 12 3 at_ (by decide) (by decide) a0 a1) rfl w ow t
  have C3 := Lib.hid fun (w : World) (ow : m2.Ok w) (t : Is.Tabs w) => xRun m2 14 3 0 0 at_ _ _ rfl rfl ⟨c5, z5, 0, 0⟩ h3 hs2 (by omega) (by omega) (M.ok_at 14 3 at_ (by decide) (by decide) a0 a1) rfl w ow t
  have q1 := fun w => qTrapNo (v := t1) k1z w
  have C4 := Lib.hid fun (w : World) (ma : Mc) (e : Exd m2 ⟨c5, z5, 0, 0⟩ ma) (ow : ma.Ok w) (t : Is.Tabs w) => xRun ma 13 4 0 0 at_ c5 z5 e.c e.xs ⟨c6, z5, 0, 0⟩ h4 (by omega) (by omega) (by omega) (M.ok_at 13 4 at_ (by decide) (by decide) a0 a1) rfl w ow t
  have q0 := eqTrap_self 0 0
  have hu1 := Lib.hid hs2
  clear hs2 h1 h3 k1z h4
  have HD := Lib.hid (Dn.refl W)
  go_enter Tryd.func7, Tryd.ntmps7
  go_wp2_with (first | ((with_reducible refine wpList_box (vs := (mach m)) ?_ ?_ ?_); rfl; rfl; intro b_v3 w' nn; refine Hid.out ?_))
  refine Lib.hid ?_
  have HL_v3 : Hid (W.heap.size ≤ b_v3) := Lib.hid (Blk.hi nn HD.out.size)
  have d' := nn.dn
  replace HD := Lib.hid (HD.out.trans d')
  have v3 := nn.blk
  clear d' nn
  go_wp2_with (first | (go_at_call 9; (with_reducible refine (C0.out _ (T.dn HD.out)).mono ?_); rintro e w' ⟨rfl, d'⟩; refine Hid.out ?_))
  refine Lib.hid ?_
  replace v3 := v3.dn d'
  replace HD := Lib.hid (HD.out.trans d')
  clear d'
  go_wp2_with (first | ((with_reducible refine load33 v3 hl ?_ ?_ ?_); rfl; rfl) | (go_at_call 10; (with_reducible refine (CF.out _ (hm.dn HD.out)).mono ?_); rintro e w' ⟨rfl, d'⟩; refine Hid.out ?_))
  refine Lib.hid ?_
  replace v3 := v3.dn d'
  replace HD := Lib.hid (HD.out.trans d')
  clear d'
  go_wp2_with (first | ((with_reducible refine storeWord (i := 17) (u := 1) v3 hl ?_ ?_ ?_ ?_ ?_); rfl; rfl; rfl; rfl; intro w' r' t'; refine Hid.out ?_))
  refine Lib.hid ?_
  rw [← E1.out] at r'
  replace HD := Lib.hid (HD.out.trn HL_v3.out t')
  clear t' v3
  have v3 := r'
  clear r'
  go_wp2_with (first | ((with_reducible refine loadRegs v3 l1 ?_ ?_ ?_); rfl; rfl) | (go_at_call 18; (with_reducible refine (CQ.out _).mono ?_); rintro e w' ⟨rfl, d'⟩; refine Hid.out ?_))
  refine Lib.hid ?_
  replace v3 := v3.dn d'
  replace HD := Lib.hid (HD.out.trans d')
  clear d'
  go_wp2_with (first | ((with_reducible refine storeRegs e he v3 l1 ?_ ?_ ?_ ?_); rfl; rfl; rfl; intro w' r' t'; refine Hid.out ?_))
  refine Lib.hid ?_
  rw [HX.out] at r'
  replace HD := Lib.hid (HD.out.trn HL_v3.out t')
  clear t' v3
  have v3 := r'
  clear r'
  go_wp2_with (first | ((with_reducible refine load33 v3 l2 ?_ ?_ ?_); rfl; rfl) | (go_at_call 12; (with_reducible refine (C1.out _ (hm2.dn HD.out) (T.dn HD.out)).mono ?_); rintro e w' ⟨ma, rfl, oa', ua, d'⟩; refine Hid.out ?_))
  refine Lib.hid ?_
  replace v3 := v3.dn d'
  replace HD := Lib.hid (HD.out.trans d')
  clear d'
  have lma := oa'.out.len
  have oa := Lib.hid oa'.out
  go_wp2_with (first | ((with_reducible refine wpList_alloc zeroMach ?_ ?_); rfl; intro b_v8 w' nn; refine Hid.out ?_))
  refine Lib.hid ?_
  have n_v3_v8 := Lib.hid (nn.ne _ v3.lt)
  have HL_v8 : Hid (W.heap.size ≤ b_v8) := Lib.hid (Blk.hi nn HD.out.size)
  have d' := nn.dn
  replace v3 := v3.dn d'
  replace oa := Lib.hid (oa.out.dn d')
  replace HD := Lib.hid (HD.out.trans d')
  have v8 := nn.blk
  clear d' nn
  go_wp2_with (first | ((with_reducible refine wpList_alloc zeroTrap ?_ ?_); rfl; intro b_v9 w' nn; refine Hid.out ?_))
  refine Lib.hid ?_
  have n_v3_v9 := Lib.hid (nn.ne _ v3.lt)
  have n_v8_v9 := Lib.hid (nn.ne _ v8.lt)
  have HL_v9 : Hid (W.heap.size ≤ b_v9) := Lib.hid (Blk.hi nn HD.out.size)
  have d' := nn.dn
  replace v3 := v3.dn d'
  replace v8 := v8.dn d'
  replace oa := Lib.hid (oa.out.dn d')
  replace HD := Lib.hid (HD.out.trans d')
  have v9 := nn.blk
  clear d' nn
  go_wp2_with (first | ((with_reducible refine store33 ma lma v8 zlen ?_ ?_ ?_ ?_); rfl; rfl; rfl; intro w' r' t'; refine Hid.out ?_))
  refine Lib.hid ?_
  replace oa := Lib.hid (oa.out.trn v8 (NoU8.mach _) t')
  replace v3 := v3.trn t' n_v3_v8.out
  replace v9 := v9.trn t' n_v8_v9.out.symm
  replace HD := Lib.hid (HD.out.trn HL_v8.out t')
  clear t' v8
  have v8 := r'
  clear r'
  go_wp2_with (first | ((with_reducible refine storeTrap (k := k1) (v := t1) v9 ?_ ?_ ?_ ?_); rfl; rfl; rfl; intro w' r' t'; refine Hid.out ?_))
  refine Lib.hid ?_
  replace oa := Lib.hid (oa.out.trn v9 (NoU8.trap _ _) t')
  replace v3 := v3.trn t' n_v3_v9.out
  replace v8 := v8.trn t' n_v8_v9.out
  replace HD := Lib.hid (HD.out.trn HL_v9.out t')
  clear t' v9
  have v9 := r'
  clear r'
  go_wp2_with (first | ((with_reducible refine loadTrap v9 ?_ ?_ ?_); rfl; rfl) | ((with_reducible refine load33 v3 l2 ?_ ?_ ?_); rfl; rfl) | (go_at_call 12; (with_reducible refine (C3.out _ (hm2.dn HD.out) (T.dn HD.out)).mono ?_); rintro e w' ⟨mc, rfl, oc', uc, d'⟩; refine Hid.out ?_))
  refine Lib.hid ?_
  replace v3 := v3.dn d'
  replace v8 := v8.dn d'
  replace v9 := v9.dn d'
  replace oa := Lib.hid (oa.out.dn d')
  replace HD := Lib.hid (HD.out.trans d')
  clear d'
  have lmc := oc'.out.len
  have oc := Lib.hid oc'.out
  go_wp2_with (first | ((with_reducible refine wpList_alloc zeroMach ?_ ?_); rfl; intro b_v12 w' nn; refine Hid.out ?_))
  refine Lib.hid ?_
  have n_v3_v12 := Lib.hid (nn.ne _ v3.lt)
  have n_v8_v12 := Lib.hid (nn.ne _ v8.lt)
  have n_v9_v12 := Lib.hid (nn.ne _ v9.lt)
  have HL_v12 : Hid (W.heap.size ≤ b_v12) := Lib.hid (Blk.hi nn HD.out.size)
  have d' := nn.dn
  replace v3 := v3.dn d'
  replace v8 := v8.dn d'
  replace v9 := v9.dn d'
  replace oa := Lib.hid (oa.out.dn d')
  replace oc := Lib.hid (oc.out.dn d')
  replace HD := Lib.hid (HD.out.trans d')
  have v12 := nn.blk
  clear d' nn
  go_wp2_with (first | ((with_reducible refine wpList_alloc zeroTrap ?_ ?_); rfl; intro b_v13 w' nn; refine Hid.out ?_))
  refine Lib.hid ?_
  have n_v3_v13 := Lib.hid (nn.ne _ v3.lt)
  have n_v8_v13 := Lib.hid (nn.ne _ v8.lt)
  have n_v9_v13 := Lib.hid (nn.ne _ v9.lt)
  have n_v12_v13 := Lib.hid (nn.ne _ v12.lt)
  have HL_v13 : Hid (W.heap.size ≤ b_v13) := Lib.hid (Blk.hi nn HD.out.size)
  have d' := nn.dn
  replace v3 := v3.dn d'
  replace v8 := v8.dn d'
  replace v9 := v9.dn d'
  replace v12 := v12.dn d'
  replace oa := Lib.hid (oa.out.dn d')
  replace oc := Lib.hid (oc.out.dn d')
  replace HD := Lib.hid (HD.out.trans d')
  have v13 := nn.blk
  clear d' nn
  go_wp2_with (first | ((with_reducible refine store33 mc lmc v12 zlen ?_ ?_ ?_ ?_); rfl; rfl; rfl; intro w' r' t'; refine Hid.out ?_))
  refine Lib.hid ?_
  replace oa := Lib.hid (oa.out.trn v12 (NoU8.mach _) t')
  replace oc := Lib.hid (oc.out.trn v12 (NoU8.mach _) t')
  replace v3 := v3.trn t' n_v3_v12.out
  replace v8 := v8.trn t' n_v8_v12.out
  replace v9 := v9.trn t' n_v9_v12.out
  replace v13 := v13.trn t' n_v12_v13.out.symm
  replace HD := Lib.hid (HD.out.trn HL_v12.out t')
  clear t' v12
  have v12 := r'
  clear r'
  go_wp2_with (first | ((with_reducible refine storeTrap (k := 0) (v := 0) v13 ?_ ?_ ?_ ?_); rfl; rfl; rfl; intro w' r' t'; refine Hid.out ?_))
  refine Lib.hid ?_
  replace oa := Lib.hid (oa.out.trn v13 (NoU8.trap _ _) t')
  replace oc := Lib.hid (oc.out.trn v13 (NoU8.trap _ _) t')
  replace v3 := v3.trn t' n_v3_v13.out
  replace v8 := v8.trn t' n_v8_v13.out
  replace v9 := v9.trn t' n_v9_v13.out
  replace v12 := v12.trn t' n_v12_v13.out
  replace HD := Lib.hid (HD.out.trn HL_v13.out t')
  clear t' v13
  have v13 := r'
  clear r'
  go_wp2_with (first | ((with_reducible refine loadTrap v13 ?_ ?_ ?_); rfl; rfl) | ((with_reducible refine load33 v12 lmc ?_ ?_ ?_); rfl; rfl) | (go_at_call 12; (with_reducible refine (C4.out _ mc uc.out oc.out (T.dn HD.out)).mono ?_); rintro e w' ⟨md, rfl, od', ud, d'⟩; refine Hid.out ?_))
  refine Lib.hid ?_
  replace v3 := v3.dn d'
  replace v8 := v8.dn d'
  replace v9 := v9.dn d'
  replace v12 := v12.dn d'
  replace v13 := v13.dn d'
  replace oa := Lib.hid (oa.out.dn d')
  replace oc := Lib.hid (oc.out.dn d')
  replace HD := Lib.hid (HD.out.trans d')
  clear d'
  have lmd := od'.out.len
  have nd : md.c.getD 4 0 = v % 256 := by rw [ud.out.c]; exact g4
  have od := Lib.hid od'.out
  go_wp2_with (first | ((with_reducible refine wpList_alloc zeroMach ?_ ?_); rfl; intro b_v14 w' nn; refine Hid.out ?_))
  refine Lib.hid ?_
  have n_v3_v14 := Lib.hid (nn.ne _ v3.lt)
  have n_v8_v14 := Lib.hid (nn.ne _ v8.lt)
  have n_v9_v14 := Lib.hid (nn.ne _ v9.lt)
  have n_v12_v14 := Lib.hid (nn.ne _ v12.lt)
  have n_v13_v14 := Lib.hid (nn.ne _ v13.lt)
  have HL_v14 : Hid (W.heap.size ≤ b_v14) := Lib.hid (Blk.hi nn HD.out.size)
  have d' := nn.dn
  replace v3 := v3.dn d'
  replace v8 := v8.dn d'
  replace v9 := v9.dn d'
  replace v12 := v12.dn d'
  replace v13 := v13.dn d'
  replace oa := Lib.hid (oa.out.dn d')
  replace oc := Lib.hid (oc.out.dn d')
  replace od := Lib.hid (od.out.dn d')
  replace HD := Lib.hid (HD.out.trans d')
  have v14 := nn.blk
  clear d' nn
  go_wp2_with (first | ((with_reducible refine wpList_alloc zeroTrap ?_ ?_); rfl; intro b_v15 w' nn; refine Hid.out ?_))
  refine Lib.hid ?_
  have n_v3_v15 := Lib.hid (nn.ne _ v3.lt)
  have n_v8_v15 := Lib.hid (nn.ne _ v8.lt)
  have n_v9_v15 := Lib.hid (nn.ne _ v9.lt)
  have n_v12_v15 := Lib.hid (nn.ne _ v12.lt)
  have n_v13_v15 := Lib.hid (nn.ne _ v13.lt)
  have n_v14_v15 := Lib.hid (nn.ne _ v14.lt)
  have HL_v15 : Hid (W.heap.size ≤ b_v15) := Lib.hid (Blk.hi nn HD.out.size)
  have d' := nn.dn
  replace v3 := v3.dn d'
  replace v8 := v8.dn d'
  replace v9 := v9.dn d'
  replace v12 := v12.dn d'
  replace v13 := v13.dn d'
  replace v14 := v14.dn d'
  replace oa := Lib.hid (oa.out.dn d')
  replace oc := Lib.hid (oc.out.dn d')
  replace od := Lib.hid (od.out.dn d')
  replace HD := Lib.hid (HD.out.trans d')
  have v15 := nn.blk
  clear d' nn
  go_wp2_with (first | ((with_reducible refine store33 md lmd v14 zlen ?_ ?_ ?_ ?_); rfl; rfl; rfl; intro w' r' t'; refine Hid.out ?_))
  refine Lib.hid ?_
  replace oa := Lib.hid (oa.out.trn v14 (NoU8.mach _) t')
  replace oc := Lib.hid (oc.out.trn v14 (NoU8.mach _) t')
  replace od := Lib.hid (od.out.trn v14 (NoU8.mach _) t')
  replace v3 := v3.trn t' n_v3_v14.out
  replace v8 := v8.trn t' n_v8_v14.out
  replace v9 := v9.trn t' n_v9_v14.out
  replace v12 := v12.trn t' n_v12_v14.out
  replace v13 := v13.trn t' n_v13_v14.out
  replace v15 := v15.trn t' n_v14_v15.out.symm
  replace HD := Lib.hid (HD.out.trn HL_v14.out t')
  clear t' v14
  have v14 := r'
  clear r'
  go_wp2_with (first | ((with_reducible refine storeTrap (k := 0) (v := 0) v15 ?_ ?_ ?_ ?_); rfl; rfl; rfl; intro w' r' t'; refine Hid.out ?_))
  refine Lib.hid ?_
  replace oa := Lib.hid (oa.out.trn v15 (NoU8.trap _ _) t')
  replace oc := Lib.hid (oc.out.trn v15 (NoU8.trap _ _) t')
  replace od := Lib.hid (od.out.trn v15 (NoU8.trap _ _) t')
  replace v3 := v3.trn t' n_v3_v15.out
  replace v8 := v8.trn t' n_v8_v15.out
  replace v9 := v9.trn t' n_v9_v15.out
  replace v12 := v12.trn t' n_v12_v15.out
  replace v13 := v13.trn t' n_v13_v15.out
  replace v14 := v14.trn t' n_v14_v15.out
  replace HD := Lib.hid (HD.out.trn HL_v15.out t')
  clear t' v15
  have v15 := r'
  clear r'
  have ck0 := v14.word lmd 4 rfl
  rw [nd] at ck0
  go_wp2_with (first | ((with_reducible refine loadTrap v15 ?_ ?_ ?_); rfl; rfl) | fail)
  go_ret
  exact ⟨rfl, HD.out⟩
set_option maxRecDepth 100000 in
set_option maxHeartbeats 2000000 in
theorem sl_nn (m : Mc) (at_ v : Int) (W : World) (hm : m.Ok W) (T : Is.Tabs W) (hx : m.xs.length ≤ 9223372036854775807) (hy : m.ys.length ≤ 9223372036854775807) (a0 : 0 ≤ at_) (a1 : at_ < 256) (v0 : 0 ≤ v) (v1 : v < 4294967296) (hf : decide (m.xs.length ≤ 600 ∧ m.ys.length ≤ 600) = true) (m1 m2 : Mc) (e1 : m1 = { m with c := m.c.set 17 1 }) (e2 : m2 = { m1 with c := M.setreg m1.c 3 v }) (k1 t1 : Int) (h1 : M.ex m2.c m2.xs 12 3 0 0 at_ = ⟨m2.c, m2.xs, k1, t1⟩) (k1z : k1 ≠ 0) (k3 t3 : Int) (h3 : M.ex m2.c m2.xs 14 3 0 0 at_ = ⟨m2.c, m2.xs, k3, t3⟩) (k3z : k3 ≠ 0) (out : (m2.xs.length : Int) ≤ at_) :
    Calls Tryd.prog 7 #[.agg (mach m), .int .u8 at_, .int .u32 v] W fun e W' => e = .returned (.bool true) ∧ Dn W W' := by
  have hl := hm.len
  have hc := hm.core
  have hs : m.xs.length ≤ 600 := by simp only [decide_eq_true_eq] at hf; omega
  have C0 := Lib.hid fun w => fun (t : Is.Tabs w) => awake w t
  have CF := Lib.hid fun w => fun (ow : m.Ok w) => rfew m true w ow hx hy hf
  clear hf
  have l1 : m1.c.length = 29 := by rw [e1]; simp [hl]
  have k1c : M.Core m1.c := by rw [e1]; exact hc.set 17 1 (by decide) (by decide)
  have k2c : M.Core m2.c := by rw [e2]; exact k1c.setreg 3 ⟨v0, v1⟩
  have l2 := k2c.len
  have hx2 : m2.xs = m.xs := by rw [e2, e1]
  have hm2 : m2.Ok W := by rw [e2]; rw [e1] at k1c ⊢; exact ⟨by rw [e2, e1] at k2c; exact k2c, hm.mem, hm.out, hm.t0, hm.t1⟩
  have hs2 : m2.xs.length ≤ 100000 := by rw [hx2]; omega
  clear hx2
  have E1 := Lib.hid e1
  have he : (M.setreg (m1.c.take 16) 3 v).length = 16 := by rw [M.setreg_len]; exact take16 l1
  have HX : Hid (({ m1 with c := M.setreg (m1.c.take 16) 3 v ++ m1.c.drop 16 } : Mc) = m2) := Lib.hid (by rw [M.setreg_take _ l1, e2])
  have CQ := Lib.hid fun w => refPut (m1.c.take 16) 3 v w (take16 l1)
  generalize M.setreg (m1.c.take 16) 3 v = e at he HX CQ
  clear e1 e2
  have C1 := Lib.hid fun (w : World) (ow : m2.Ok w) (t : Is.Tabs w) => xRun m2 12 3 0 0 at_ _ _ rfl rfl ⟨m2.c, m2.xs, k1, t1⟩ h1 hs2 (by omega) (by omega) (M.ok_at 12 3 at_ (by decide) (by decide) a0 a1) rfl w ow t
  have C3 := Lib.hid fun (w : World) (ow : m2.Ok w) (t : Is.Tabs w) => xRun m2 14 3 0 0 at_ _ _ rfl rfl ⟨m2.c, m2.xs, k3, t3⟩ h3 hs2 (by omega) (by omega) (M.ok_at 14 3 at_ (by decide) (by decide) a0 a1) rfl w ow t
  have q1 := fun w => qTrapNo (v := t1) k1z w
  have q3 := fun w => qTrapNo (v := t3) k3z w
  have hu1 := Lib.hid hs2
  clear hs2 h1 h3 k1z k3z
  have HD := Lib.hid (Dn.refl W)
  go_enter Tryd.func7, Tryd.ntmps7
  go_wp2_with (first | ((with_reducible refine wpList_box (vs := (mach m)) ?_ ?_ ?_); rfl; rfl; intro b_v3 w' nn; refine Hid.out ?_))
  refine Lib.hid ?_
  have HL_v3 : Hid (W.heap.size ≤ b_v3) := Lib.hid (Blk.hi nn HD.out.size)
  have d' := nn.dn
  replace HD := Lib.hid (HD.out.trans d')
  have v3 := nn.blk
  clear d' nn
  go_wp2_with (first | (go_at_call 9; (with_reducible refine (C0.out _ (T.dn HD.out)).mono ?_); rintro e w' ⟨rfl, d'⟩; refine Hid.out ?_))
  refine Lib.hid ?_
  replace v3 := v3.dn d'
  replace HD := Lib.hid (HD.out.trans d')
  clear d'
  go_wp2_with (first | ((with_reducible refine load33 v3 hl ?_ ?_ ?_); rfl; rfl) | (go_at_call 10; (with_reducible refine (CF.out _ (hm.dn HD.out)).mono ?_); rintro e w' ⟨rfl, d'⟩; refine Hid.out ?_))
  refine Lib.hid ?_
  replace v3 := v3.dn d'
  replace HD := Lib.hid (HD.out.trans d')
  clear d'
  go_wp2_with (first | ((with_reducible refine storeWord (i := 17) (u := 1) v3 hl ?_ ?_ ?_ ?_ ?_); rfl; rfl; rfl; rfl; intro w' r' t'; refine Hid.out ?_))
  refine Lib.hid ?_
  rw [← E1.out] at r'
  replace HD := Lib.hid (HD.out.trn HL_v3.out t')
  clear t' v3
  have v3 := r'
  clear r'
  go_wp2_with (first | ((with_reducible refine loadRegs v3 l1 ?_ ?_ ?_); rfl; rfl) | (go_at_call 18; (with_reducible refine (CQ.out _).mono ?_); rintro e w' ⟨rfl, d'⟩; refine Hid.out ?_))
  refine Lib.hid ?_
  replace v3 := v3.dn d'
  replace HD := Lib.hid (HD.out.trans d')
  clear d'
  go_wp2_with (first | ((with_reducible refine storeRegs e he v3 l1 ?_ ?_ ?_ ?_); rfl; rfl; rfl; intro w' r' t'; refine Hid.out ?_))
  refine Lib.hid ?_
  rw [HX.out] at r'
  replace HD := Lib.hid (HD.out.trn HL_v3.out t')
  clear t' v3
  have v3 := r'
  clear r'
  go_wp2_with (first | ((with_reducible refine load33 v3 l2 ?_ ?_ ?_); rfl; rfl) | (go_at_call 12; (with_reducible refine (C1.out _ (hm2.dn HD.out) (T.dn HD.out)).mono ?_); rintro e w' ⟨ma, rfl, oa', ua, d'⟩; refine Hid.out ?_))
  refine Lib.hid ?_
  replace v3 := v3.dn d'
  replace HD := Lib.hid (HD.out.trans d')
  clear d'
  have lma := oa'.out.len
  have oa := Lib.hid oa'.out
  go_wp2_with (first | ((with_reducible refine wpList_alloc zeroMach ?_ ?_); rfl; intro b_v8 w' nn; refine Hid.out ?_))
  refine Lib.hid ?_
  have n_v3_v8 := Lib.hid (nn.ne _ v3.lt)
  have HL_v8 : Hid (W.heap.size ≤ b_v8) := Lib.hid (Blk.hi nn HD.out.size)
  have d' := nn.dn
  replace v3 := v3.dn d'
  replace oa := Lib.hid (oa.out.dn d')
  replace HD := Lib.hid (HD.out.trans d')
  have v8 := nn.blk
  clear d' nn
  go_wp2_with (first | ((with_reducible refine wpList_alloc zeroTrap ?_ ?_); rfl; intro b_v9 w' nn; refine Hid.out ?_))
  refine Lib.hid ?_
  have n_v3_v9 := Lib.hid (nn.ne _ v3.lt)
  have n_v8_v9 := Lib.hid (nn.ne _ v8.lt)
  have HL_v9 : Hid (W.heap.size ≤ b_v9) := Lib.hid (Blk.hi nn HD.out.size)
  have d' := nn.dn
  replace v3 := v3.dn d'
  replace v8 := v8.dn d'
  replace oa := Lib.hid (oa.out.dn d')
  replace HD := Lib.hid (HD.out.trans d')
  have v9 := nn.blk
  clear d' nn
  go_wp2_with (first | ((with_reducible refine store33 ma lma v8 zlen ?_ ?_ ?_ ?_); rfl; rfl; rfl; intro w' r' t'; refine Hid.out ?_))
  refine Lib.hid ?_
  replace oa := Lib.hid (oa.out.trn v8 (NoU8.mach _) t')
  replace v3 := v3.trn t' n_v3_v8.out
  replace v9 := v9.trn t' n_v8_v9.out.symm
  replace HD := Lib.hid (HD.out.trn HL_v8.out t')
  clear t' v8
  have v8 := r'
  clear r'
  go_wp2_with (first | ((with_reducible refine storeTrap (k := k1) (v := t1) v9 ?_ ?_ ?_ ?_); rfl; rfl; rfl; intro w' r' t'; refine Hid.out ?_))
  refine Lib.hid ?_
  replace oa := Lib.hid (oa.out.trn v9 (NoU8.trap _ _) t')
  replace v3 := v3.trn t' n_v3_v9.out
  replace v8 := v8.trn t' n_v8_v9.out
  replace HD := Lib.hid (HD.out.trn HL_v9.out t')
  clear t' v9
  have v9 := r'
  clear r'
  go_wp2_with (first | ((with_reducible refine loadTrap v9 ?_ ?_ ?_); rfl; rfl) | ((with_reducible refine load33 v3 l2 ?_ ?_ ?_); rfl; rfl) | (go_at_call 12; (with_reducible refine (C3.out _ (hm2.dn HD.out) (T.dn HD.out)).mono ?_); rintro e w' ⟨mc, rfl, oc', uc, d'⟩; refine Hid.out ?_))
  refine Lib.hid ?_
  replace v3 := v3.dn d'
  replace v8 := v8.dn d'
  replace v9 := v9.dn d'
  replace oa := Lib.hid (oa.out.dn d')
  replace HD := Lib.hid (HD.out.trans d')
  clear d'
  have lmc := oc'.out.len
  have oc := Lib.hid oc'.out
  go_wp2_with (first | ((with_reducible refine wpList_alloc zeroMach ?_ ?_); rfl; intro b_v12 w' nn; refine Hid.out ?_))
  refine Lib.hid ?_
  have n_v3_v12 := Lib.hid (nn.ne _ v3.lt)
  have n_v8_v12 := Lib.hid (nn.ne _ v8.lt)
  have n_v9_v12 := Lib.hid (nn.ne _ v9.lt)
  have HL_v12 : Hid (W.heap.size ≤ b_v12) := Lib.hid (Blk.hi nn HD.out.size)
  have d' := nn.dn
  replace v3 := v3.dn d'
  replace v8 := v8.dn d'
  replace v9 := v9.dn d'
  replace oa := Lib.hid (oa.out.dn d')
  replace oc := Lib.hid (oc.out.dn d')
  replace HD := Lib.hid (HD.out.trans d')
  have v12 := nn.blk
  clear d' nn
  go_wp2_with (first | ((with_reducible refine wpList_alloc zeroTrap ?_ ?_); rfl; intro b_v13 w' nn; refine Hid.out ?_))
  refine Lib.hid ?_
  have n_v3_v13 := Lib.hid (nn.ne _ v3.lt)
  have n_v8_v13 := Lib.hid (nn.ne _ v8.lt)
  have n_v9_v13 := Lib.hid (nn.ne _ v9.lt)
  have n_v12_v13 := Lib.hid (nn.ne _ v12.lt)
  have HL_v13 : Hid (W.heap.size ≤ b_v13) := Lib.hid (Blk.hi nn HD.out.size)
  have d' := nn.dn
  replace v3 := v3.dn d'
  replace v8 := v8.dn d'
  replace v9 := v9.dn d'
  replace v12 := v12.dn d'
  replace oa := Lib.hid (oa.out.dn d')
  replace oc := Lib.hid (oc.out.dn d')
  replace HD := Lib.hid (HD.out.trans d')
  have v13 := nn.blk
  clear d' nn
  go_wp2_with (first | ((with_reducible refine store33 mc lmc v12 zlen ?_ ?_ ?_ ?_); rfl; rfl; rfl; intro w' r' t'; refine Hid.out ?_))
  refine Lib.hid ?_
  replace oa := Lib.hid (oa.out.trn v12 (NoU8.mach _) t')
  replace oc := Lib.hid (oc.out.trn v12 (NoU8.mach _) t')
  replace v3 := v3.trn t' n_v3_v12.out
  replace v8 := v8.trn t' n_v8_v12.out
  replace v9 := v9.trn t' n_v9_v12.out
  replace v13 := v13.trn t' n_v12_v13.out.symm
  replace HD := Lib.hid (HD.out.trn HL_v12.out t')
  clear t' v12
  have v12 := r'
  clear r'
  go_wp2_with (first | ((with_reducible refine storeTrap (k := k3) (v := t3) v13 ?_ ?_ ?_ ?_); rfl; rfl; rfl; intro w' r' t'; refine Hid.out ?_))
  refine Lib.hid ?_
  replace oa := Lib.hid (oa.out.trn v13 (NoU8.trap _ _) t')
  replace oc := Lib.hid (oc.out.trn v13 (NoU8.trap _ _) t')
  replace v3 := v3.trn t' n_v3_v13.out
  replace v8 := v8.trn t' n_v8_v13.out
  replace v9 := v9.trn t' n_v9_v13.out
  replace v12 := v12.trn t' n_v12_v13.out
  replace HD := Lib.hid (HD.out.trn HL_v13.out t')
  clear t' v13
  have v13 := r'
  clear r'
  have ck0 := v3.mem l2
  go_wp2_with (first | ((with_reducible refine loadTrap v13 ?_ ?_ ?_); rfl; rfl) | fail)
  go_ret
  exact ⟨rfl, HD.out⟩
theorem slWalk (m : Mc) (at_ v : Int) (W : World) (hm : m.Ok W) (T : Is.Tabs W) (hx : m.xs.length ≤ 9223372036854775807) (hy : m.ys.length ≤ 9223372036854775807) (a0 : 0 ≤ at_) (a1 : at_ < 256) (v0 : 0 ≤ v) (v1 : v < 4294967296) : Calls Tryd.prog 7 #[.agg (mach m), .int .u8 at_, .int .u32 v] W fun e W' => e = .returned (.bool true) ∧ Dn W W' := by
  cases hf : decide (m.xs.length ≤ 600 ∧ m.ys.length ≤ 600)
  · exact sl_few m at_ v W hm T hx hy a0 a1 v0 v1 hf
  · have hs : m.xs.length ≤ 600 := by simp only [decide_eq_true_eq] at hf; omega
    obtain ⟨m1, e1⟩ : ∃ m1 : Mc, m1 = { m with c := m.c.set 17 1 } := ⟨_, rfl⟩
    obtain ⟨m2, e2⟩ : ∃ m2 : Mc, m2 = { m1 with c := M.setreg m1.c 3 v } := ⟨_, rfl⟩
    have hc := hm.core
    have k1 : M.Core m1.c := by rw [e1]; exact hc.set 17 1 (by decide) (by decide)
    have k2 : M.Core m2.c := by rw [e2]; exact k1.setreg 3 ⟨v0, v1⟩
    have l1 := k1.len
    have l2 := k2.len
    have x2 : m2.xs = m.xs := by rw [e2, e1]
    have q2 : M.csr m2.c 0 = 1 := by
      rw [e2]
      show M.csr (M.setreg m1.c 3 v) 0 = 1
      rw [M.csr_setreg, e1]
      exact (M.csr_set hc 0 0 1 (by decide)).trans (if_pos rfl)
    have r3 : M.reg m2.c 3 = v := by rw [e2]; exact M.reg_setreg l1 (by decide) (by decide) v
    have ha : M.ea m2.c 0 at_ = at_ := M.ea_zero _ a0 (by omega)
    have f1 : ∀ n : Int, M.acz m2.c m2.xs.length at_ n = 0 → (n = 4 ∨ n = 1) → M.exS m2.c m2.xs 3 at_ n = ⟨M.adv m2.c 4, M.asv m2.c m2.xs at_ n v, 0, 0⟩ := fun n h _ => by rw [M.exS_ok _ _ _ h, r3]
    have f2 : ∀ n : Int, M.acz m2.c m2.xs.length at_ n = 0 → 1 ≤ n → M.exL (M.adv m2.c 4) (M.asv m2.c m2.xs at_ n v) 4 at_ n = ⟨M.adv (M.setreg (M.adv m2.c 4) 4 (v % 256 ^ n.toNat)) 4, M.asv m2.c m2.xs at_ n v, 0, 0⟩ := fun n h h1 => by
      rw [M.exL_ok _ _ _ (by rw [M.acz_adv, M.asv_len]; exact h), M.alv_adv, M.alv_asv k2 h a0 h1 v0]
    have g : ∀ u : Int, (M.adv (M.setreg (M.adv m2.c 4) 4 u) 4).getD 4 0 = u := fun u => by
      rw [M.adv_reg _ _ (by decide)]
      exact M.setreg_at (by unfold M.adv; rw [List.length_set]; exact l2) (by decide) (by decide) u
    have hA : ∀ c, M.ea c 0 at_ = at_ := fun c => M.ea_zero c a0 (by omega)
    have z : ∀ n : Int, (M.asv m2.c m2.xs at_ n v).length ≤ 600 := fun n => by rw [M.asv_len, x2]; exact hs
    by_cases A : M.acz m2.c m2.xs.length at_ 4 = 0 <;> by_cases B : M.acz m2.c m2.xs.length at_ 1 = 0
    · exact sl_yy m at_ v W hm T hx hy a0 a1 v0 v1 hf m1 m2 e1 e2 _ _ _ (by rw [M.ex_sw, ha]; exact f1 4 A (.inl rfl)) (z 4) (by rw [M.ex_lw, hA]; exact f2 4 A (by decide)) (by rw [g]; exact Int.emod_eq_of_lt v0 (by simpa using v1))
        _ _ _ (by rw [M.ex_sb, ha]; exact f1 1 B (.inr rfl)) (z 1) (by rw [M.ex_lb, hA]; exact f2 1 B (by decide)) (by rw [g]; rfl)
    · exact sl_yn m at_ v W hm T hx hy a0 a1 v0 v1 hf m1 m2 e1 e2 _ _ _ (by rw [M.ex_sw, ha]; exact f1 4 A (.inl rfl)) (z 4) (by rw [M.ex_lw, hA]; exact f2 4 A (by decide)) (by rw [g]; exact Int.emod_eq_of_lt v0 (by simpa using v1))
        _ _ (by rw [M.ex_sb, ha]; exact M.exS_no _ _ _ B) B (by have := mt (M.acz_sup q2 m2.xs.length at_ 1).2 B; omega)
    · exact sl_ny m at_ v W hm T hx hy a0 a1 v0 v1 hf m1 m2 e1 e2 _ _ (by rw [M.ex_sw, ha]; exact M.exS_no _ _ _ A) A
        _ _ _ (by rw [M.ex_sb, ha]; exact f1 1 B (.inr rfl)) (z 1) (by rw [M.ex_lb, hA]; exact f2 1 B (by decide)) (by rw [g]; rfl)
    · exact sl_nn m at_ v W hm T hx hy a0 a1 v0 v1 hf m1 m2 e1 e2 _ _ (by rw [M.ex_sw, ha]; exact M.exS_no _ _ _ A) A
        _ _ (by rw [M.ex_sb, ha]; exact M.exS_no _ _ _ B) B (by have := mt (M.acz_sup q2 m2.xs.length at_ 1).2 B; omega)
end Go.Proofs.YtpdahbcjecphmaaDoor
namespace Go.Proofs.YtpdahbcjecphmaaDoor.execStoreThenLoadWord
open Go.ChangeShapes Go.WideShapes Go.ChangeAt Go.RowKit
set_option linter.unusedVariables false

theorem readable : ∀ t ∈ Tryd.f7.params.toList, Tryd.prog.readableRec t = true ∧ t < Tryd.prog.types.size := by
  rw [Tryd.params7]
  intro t ht
  have hall : ([30, 5, 22].all fun t => Tryd.prog.readableRec t && decide (t < Tryd.prog.types.size)) = true := by kernel_rfl
  have h := List.all_eq_true.1 hall t ht
  simp only [Bool.and_eq_true, decide_eq_true_eq] at h
  exact h

theorem said (H : Type) (ds : List (DataW H)) (hl : ds.length = Tryd.f7.params.size) : (Rows.execStoreThenLoadWordSpec.fn H ds).results = [.lit (.bool true)] ∧ (Rows.execStoreThenLoadWordSpec.fn H ds).args = ds ∧ (Rows.execStoreThenLoadWordSpec.fn H ds).vars = [] := by
  rw [Tryd.params7] at hl
  match ds, hl with
  | [d0, d1, d2], _ => exact ⟨rfl, rfl, rfl⟩

set_option maxRecDepth 100000 in
theorem walk {H : Type} {enc : TypeId × Value → H} (W : World) (base : Nat) (args : Array Value) (ds : List (DataW H)) (ps : List MemPlace) (E : Env W)
    (hval : ∀ (j : Nat) t v, Tryd.f7.params[j]? = some t → args[j]? = some v → Value.okWide Tryd.prog W .any base t v)
    (hA : DataW.TrodAll enc Tryd.prog W 0 (fun _ => true) true Tryd.f7.params.toList args.toList ds ps) :
    Calls Tryd.prog 7 args W fun e W' => e = .returned (.bool true) ∧ Dn W W' := by
  rw [Tryd.params7] at hA hval
  obtain ⟨v0, vs0, d0, ds0, p0, q0, hargs, rfl, rfl, h0, r0⟩ := trodAll_cons hA
  obtain ⟨v1, vs1, d1, ds1, p1, q1, rfl, rfl, rfl, h1, r1⟩ := trodAll_cons r0
  obtain ⟨v2, vs2, d2, ds2, p2, q2, rfl, rfl, rfl, h2, r2⟩ := trodAll_cons r1
  obtain ⟨rfl, rfl, rfl⟩ := trodAll_nil r2
  obtain rfl : args = #[v0, v1, v2] := by cases args; simp_all
  obtain ⟨m0, rfl, o0, l0, y0⟩ := open33 (hval 0 30 v0 rfl rfl) h0
  obtain ⟨x1, rfl, rfl, rfl, w1⟩ := open_int Tryd.underlying5 (hval 1 5 v1 rfl rfl) h1
  have bd1 := bounds_u8 w1
  obtain ⟨x2, rfl, rfl, rfl, w2⟩ := open_int Tryd.underlying22 (hval 2 22 v2 rfl rfl) h2
  have bd2 := bounds_u32 w2
  exact slWalk m0 x1 x2 W o0 E  l0 y0 (by omega) (by omega) (by omega) (by omega)

set_option maxRecDepth 100000 in
theorem lifted (os : Os) (started : os.Started) (H : Type) (enc : TypeId × Value → H) :
    ReturnsInHanded {} Tryd.checked os 7 .any (fun w args => (Rows.execStoreThenLoadWordSpec.pre enc Tryd.prog Tryd.f7 [] false w args ∧ laidMetH Tryd.prog laidL w) ∧ sizedMet enc Tryd.prog Tryd.f7 (OpenSpec.ofChange Rows.execStoreThenLoadWordSpec) false w args)
      (Rows.execStoreThenLoadWordSpec.post enc Tryd.prog Tryd.f7 false true false false) :=
  returns_of_walk (C := Tryd.checked) rfl own started (by kernel_rfl) Tryd.func7 rfl readable (by kernel_rfl) said
    (ChangeSpec.witness_shaped (enc := enc) (C := Tryd.checked) (os := os) (X := fun w _ => laidMetH Tryd.prog laidL w) false (World.laidAll Tryd.prog os laidL) #[.agg #[.int .u32 0, .int .u32 0, .int .u32 0, .int .u32 0, .int .u32 0, .int .u32 0, .int .u32 0, .int .u32 0, .int .u32 0, .int .u32 0, .int .u32 0, .int .u32 0, .int .u32 0, .int .u32 0, .int .u32 0, .int .u32 0, .int .u32 0, .int .u32 0, .int .u32 0, .int .u32 0, .int .u32 0, .int .u32 0, .int .u32 0, .int .u32 0, .int .u32 0, .int .u32 0, .int .u32 0, .int .u32 0, .int .u32 0, .slice none 0 0, .int .u64 0, .slice none 0 0, .bool false], .int .u8 0, .int .u32 0] 8 (World.laidAll_os _ _ _)
      (start_shaped os _) (by kernel_rfl) (by kernel_rfl) (by kernel_rfl) (start_met os _)) walk

theorem over : Rows.ExecStoreThenLoadWordSaid :=
  OpenClaim.holds_of_wide 7 Tryd.f7 rfl rfl rfl rfl rfl rfl rfl ⟨rfl, rfl, rfl, rfl, rfl⟩ rfl rfl rfl rfl rfl (by kernel_rfl) Tryd.func7 (by kernel_rfl)
    (of_decide_eq_true (by kernel_rfl)) (by unfold Func.isWrapper; first | (rw [if_pos (by decide +kernel)]; kernel_rfl) | (rw [if_neg (by decide +kernel)]; exact ⟨rfl, rfl⟩))
    (fun os started H enc _ => lifted os started H enc)

/-- THE STATEMENT -/
theorem proved : Rows.ExecStoreThenLoadWordCardSaid :=
  Claim7.holds_tied_plain_at .later [] [.data, .data] true (true, "91e72f67f80a65227298d3539401025c22714d779c4228c5751d5c899ac93c42") false
    over (fun _ h => by cases h) (by kernel_rfl) (fun _ h => by cases h) execStoreThenLoadWord_row_tie rfl ⟨rfl, rfl⟩ (by kernel_rfl) rfl
    (fun f fn hf hfn => by
      obtain rfl : f = 7 := Option.some.inj ((show Tryd.prog.funcNamed "gaoler/gaolerlaw11.ExecStoreThenLoadWord" = some 7 by kernel_rfl).symm.trans hf) |>.symm
      obtain rfl : fn = Tryd.f7 := (Option.some.inj (Tryd.func7.symm.trans hfn)).symm
      exact ⟨by kernel_rfl, fun j t ht => by
        rw [Tryd.params7] at ht
        have hm : t ∈ [30, 5, 22] := by simpa using Array.mem_of_getElem? ht
        have hall : ([30, 5, 22].all fun u => !Tryd.prog.wantsStandIn u) = true := by kernel_rfl
        exact (show Tryd.prog.wantsStandIn t = false by simpa using List.all_eq_true.1 hall t hm)⟩)
    (by kernel_rfl)
#print axioms proved
end Go.Proofs.YtpdahbcjecphmaaDoor.execStoreThenLoadWord
