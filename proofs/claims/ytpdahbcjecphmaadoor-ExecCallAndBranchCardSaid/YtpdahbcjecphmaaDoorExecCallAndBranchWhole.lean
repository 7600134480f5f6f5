/-
  The law ExecCallAndBranch of the law package returns true at every input, and each argument reads as it did; conditions: the listed package variables hold what the program's text lays there (the card ties them to it).
-/
import Derived.Test.YtpdahbcjecphmaaDoorCards
import Derived.Test.YtpdahbcjecphmaaDoorTie
import Derived.Test.YtpdahbcjecphmaaDoorPkB
import Derived.Test.YtpdahbcjecphmaaDoorPkZ
import Derived.Test.YtpdahbcjecphmaaDoorPkF
namespace Go.Proofs.YtpdahbcjecphmaaDoor.M
open Go.RowKit
set_option linter.unusedVariables false

/-- a load of the cell that was stored -/
theorem alv_asv {c xs : List Int} {a n v : Int} (hc : Core c) (h : acz c xs.length a n = 0) (a0 : 0 ≤ a) (n0 : 1 ≤ n) (v0 : 0 ≤ v) : alv c (asv c xs a n v) a n = v % 256 ^ n.toNat := by
  have hk := acz_hit h
  have hu := ub_rng hc
  unfold alv
  rw [asv_len, if_pos h]
  unfold asv
  rw [if_pos h]
  generalize hp : (ub c + a).toNat = p
  have hpn : p + n.toNat ≤ xs.length := by omega
  unfold st
  rw [if_pos hpn]
  unfold ld
  rw [wr_len (by rw [bytes_len]; exact hpn), if_pos hpn]
  have e := rd_wr (xs := xs) (bs := bytes v n.toNat) (a := p) (by omega)
  rw [bytes_len] at e
  rw [e, leval_bytes v0]
/-- a load of a word that was not -/
theorem alv_other {c xs : List Int} {a b n v : Int} (hc : Core c) (h : acz c xs.length a n = 0) (a0 : 0 ≤ a) (b0 : 0 ≤ b) (hn : n = 4 ∨ n = 1) (hb : b % 4 = 0) (hab : a / 4 ≠ b / 4) : alv c (asv c xs a n v) b 4 = alv c xs b 4 := by
  have hk := acz_hit h
  have hu := ub_rng hc
  unfold alv
  rw [asv_len]
  split
  · rename_i hB
    have hkb := acz_hit hB
    unfold asv
    rw [if_pos h]
    generalize hp : (ub c + a).toNat = p
    generalize hq : (ub c + b).toNat = q
    have hpn : p + n.toNat ≤ xs.length := by omega
    have hqn : q + (4 : Int).toNat ≤ xs.length := by omega
    unfold st
    rw [if_pos hpn]
    unfold ld
    rw [wr_len (by rw [bytes_len]; exact hpn), if_pos hqn, if_pos hqn]
    congr 1
    by_cases hlt : q < p
    · exact rd_wr_before (by omega) (by omega)
    · exact rd_wr_after (by omega) (by rw [bytes_len]; omega)
  · rfl

theorem csr_adv (c : List Int) (d : Int) (i : Nat) : csr (adv c d) i = csr c i := by
  unfold csr adv
  rw [getD_set, if_neg (by omega)]
theorem csr_setreg (c : List Int) (r v : Int) (i : Nat) : csr (setreg c r v) i = csr c i := by
  unfold csr setreg
  split
  · rename_i h
    have := (stored_iff r).1 h
    rw [getD_set, if_neg (by omega)]
  · rfl
theorem ub_adv (c : List Int) (d : Int) : ub (adv c d) = ub c := by unfold ub sup; rw [csr_adv, csr_adv]
theorem un_adv (c : List Int) (d s : Int) : un (adv c d) s = un c s := by unfold un sup; rw [csr_adv, csr_adv]
theorem acz_adv (c : List Int) (d s a n : Int) : acz (adv c d) s a n = acz c s a n := by unfold acz; rw [ub_adv, un_adv]
theorem alv_adv (c xs : List Int) (d a n : Int) : alv (adv c d) xs a n = alv c xs a n := by unfold alv; rw [acz_adv, ub_adv]
theorem reg_adv (c : List Int) (d i : Int) : reg (adv c d) i = reg c i := by
  unfold reg adv
  split
  · rename_i h
    have := (stored_iff i).1 h
    rw [getD_set, if_neg (by omega)]
  · rfl
theorem reg_zero (c : List Int) : reg c 0 = 0 := rfl
theorem ea_zero (c : List Int) {x : Int} (h0 : 0 ≤ x) (h1 : x < 4294967296) : ea c 0 x = x := by unfold ea iw; rw [reg_zero]; omega
theorem setreg_at {c : List Int} (h : c.length = 29) {r : Int} (r0 : 0 < r) (r1 : r < 16) (v : Int) : (setreg c r v).getD r.toNat 0 = v := by
  unfold setreg
  rw [if_pos ((stored_iff r).2 ⟨r0, r1⟩), getD_set, if_pos ⟨rfl, by omega⟩]
theorem reg_setreg {c : List Int} (h : c.length = 29) {r : Int} (r0 : 0 < r) (r1 : r < 16) (v : Int) : reg (setreg c r v) r = v := by
  rw [reg_in ((stored_iff r).2 ⟨r0, r1⟩), setreg_at h r0 r1]
theorem adv_reg (c : List Int) (d : Int) {i : Nat} (hi : i ≠ 16) : (adv c d).getD i 0 = c.getD i 0 := by unfold adv; rw [getD_set, if_neg (by omega)]
/-- in supervisor mode an address is its own place -/
theorem acz_sup {c : List Int} (h : csr c 0 = 1) (s a n : Int) : acz c s a n = 0 ↔ ¬ (n = 4 ∧ a % 4 ≠ 0) ∧ a + n ≤ s := by
  have hs : sup c = true := by unfold sup; rw [h]; rfl
  have h1 : ub c = 0 := by unfold ub; rw [if_pos hs]
  have h2 : un c s = s := by unfold un; rw [if_pos hs]
  rw [acz_iff, h1, h2]
  omega
end Go.Proofs.YtpdahbcjecphmaaDoor.M
namespace Go.Proofs.YtpdahbcjecphmaaDoor
open Go.ChangeShapes Go.WideShapes Go.ChangeAt Go.RowKit Go.Sort
set_option linter.unusedVariables false

set_option maxRecDepth 100000 in
set_option maxHeartbeats 2000000 in
theorem cb_few (m : Mc) (rd_ far_ ra_ : Int) (W : World) (hm : m.Ok W) (T : Is.Tabs W) (hx : m.xs.length ≤ 9223372036854775807) (hy : m.ys.length ≤ 9223372036854775807) (a0 : 0 ≤ rd_) (a1 : rd_ < 256) (f0 : -2147483648 ≤ far_) (f1 : far_ < 2147483648) (b0 : 0 ≤ ra_) (b1 : ra_ < 256) (hf : decide (m.xs.length ≤ 600 ∧ m.ys.length ≤ 600) = false) :
    Calls Tryd.prog 5 #[.agg (mach m), .int .u8 rd_, .int .i32 far_, .int .u8 ra_] W fun e W' => e = .returned (.bool true) ∧ Dn W W' := by
  have C0 := Lib.hid fun w => fun (t : Is.Tabs w) => awake w t
  have CF := Lib.hid fun w => fun (ow : m.Ok w) => rfew m false w ow hx hy hf
  clear hf
  have HD := Lib.hid (Dn.refl W)
  go_enter Tryd.func5, Tryd.ntmps5
  go_wp2_with (first | ((with_reducible refine wpList_box (vs := (mach m)) ?_ ?_ ?_); rfl; rfl; intro b_v4 w' nn; refine Hid.out ?_))
  refine Lib.hid ?_
  have HL_v4 : Hid (W.heap.size ≤ b_v4) := Lib.hid (Blk.hi nn HD.out.size)
  have d' := nn.dn
  replace HD := Lib.hid (HD.out.trans d')
  have v4 := nn.blk
  clear d' nn
  go_wp2_with (first | (go_at_call 9; (with_reducible refine (C0.out _ (T.dn HD.out)).mono ?_); rintro e w' ⟨rfl, d'⟩; refine Hid.out ?_))
  refine Lib.hid ?_
  replace v4 := v4.dn d'
  replace HD := Lib.hid (HD.out.trans d')
  clear d'
  go_wp2_with (first | ((with_reducible refine load33 v4 hm.len ?_ ?_ ?_); rfl; rfl) | (go_at_call 10; (with_reducible refine (CF.out _ (hm.dn HD.out)).mono ?_); rintro e w' ⟨rfl, d'⟩; refine Hid.out ?_))
  refine Lib.hid ?_
  replace v4 := v4.dn d'
  replace HD := Lib.hid (HD.out.trans d')
  clear d'
  go_wp2_with (first | (go_at_call 9; (with_reducible refine (C0.out _ (T.dn HD.out)).mono ?_); rintro e w' ⟨rfl, d'⟩; refine Hid.out ?_))
  refine Lib.hid ?_
  replace v4 := v4.dn d'
  replace HD := Lib.hid (HD.out.trans d')
  clear d'
  go_wp2_with fail
  go_ret
  exact ⟨rfl, HD.out⟩
set_option maxRecDepth 100000 in
set_option maxHeartbeats 2000000 in
theorem cb_t (m : Mc) (rd_ far_ ra_ : Int) (W : World) (hm : m.Ok W) (T : Is.Tabs W) (hx : m.xs.length ≤ 9223372036854775807) (hy : m.ys.length ≤ 9223372036854775807) (a0 : 0 ≤ rd_) (a1 : rd_ < 256) (f0 : -2147483648 ≤ far_) (f1 : far_ < 2147483648) (b0 : 0 ≤ ra_) (b1 : ra_ < 256) (hf : decide (m.xs.length ≤ 600 ∧ m.ys.length ≤ 600) = true) (p to_ : Int) (p0 : 0 ≤ p) (p1 : p < 4294967296) (hpc : m.c.getD 16 0 = p) (c1 c2 cx cy : List Int)
    (v1 : Is.M.ok 18 (1 + rd_ % 15) 0 0 (far_.tmod 131072) = true) (v2 : Is.M.ok 19 0 (1 + rd_ % 15) 0 0 = true) (v3 : Is.M.ok 15 (1 + rd_ % 15) (ra_ % 16) 0 (far_.tmod 131072) = true) (v4 : Is.M.ok 16 (1 + rd_ % 15) (ra_ % 16) 0 (far_.tmod 131072) = true)
    (h1 : M.ex m.c m.xs 18 (1 + rd_ % 15) 0 0 (far_.tmod 131072) = ⟨c1, m.xs, 0, 0⟩) (h2 : M.ex c1 m.xs 19 0 (1 + rd_ % 15) 0 0 = ⟨c2, m.xs, 0, 0⟩) (h3 : M.ex m.c m.xs 15 (1 + rd_ % 15) (ra_ % 16) 0 (far_.tmod 131072) = ⟨cx, m.xs, 0, 0⟩) (h4 : M.ex m.c m.xs 16 (1 + rd_ % 15) (ra_ % 16) 0 (far_.tmod 131072) = ⟨cy, m.xs, 0, 0⟩)
    (g1 : c1.getD 16 0 = to_) (gr : M.reg c1 (1 + rd_ % 15) = ((p + 4) % 4294967296)) (g2 : c2.getD 16 0 = ((p + 4) % 4294967296)) (gx : cx.getD 16 0 = to_) (gy : cy.getD 16 0 = ((p + 4) % 4294967296)) :
    Calls Tryd.prog 5 #[.agg (mach m), .int .u8 rd_, .int .i32 far_, .int .u8 ra_] W fun e W' => e = .returned (.bool true) ∧ Dn W W' := by
  have hl := hm.len
  have hs : m.xs.length ≤ 100000 := by simp only [decide_eq_true_eq] at hf; omega
  have C0 := Lib.hid fun w => fun (t : Is.Tabs w) => awake w t
  have CF := Lib.hid fun w => fun (ow : m.Ok w) => rfew m true w ow hx hy hf
  clear hf
  have im : -131072 ≤ (far_.tmod 131072) ∧ (far_.tmod 131072) ≤ 131072 := by rw [Int.tmod_eq_emod]; split <;> omega
  have C1 := Lib.hid fun (w : World) (ow : m.Ok w) (t : Is.Tabs w) => xRun m 18 (1 + rd_ % 15) 0 0 (far_.tmod 131072) _ _ rfl rfl ⟨c1, m.xs, 0, 0⟩ h1 hs (by omega) (by omega) v1 rfl w ow t
  have C2 := Lib.hid fun (w : World) (ma : Mc) (e : Exd m ⟨c1, m.xs, 0, 0⟩ ma) (ow : ma.Ok w) (t : Is.Tabs w) => xRun ma 19 0 (1 + rd_ % 15) 0 0 c1 m.xs e.c e.xs ⟨c2, m.xs, 0, 0⟩ h2 hs (by omega) (by omega) v2 rfl w ow t
  have C3 := Lib.hid fun (w : World) (ow : m.Ok w) (t : Is.Tabs w) => xRun m 15 (1 + rd_ % 15) (ra_ % 16) 0 (far_.tmod 131072) _ _ rfl rfl ⟨cx, m.xs, 0, 0⟩ h3 hs (by omega) (by omega) v3 rfl w ow t
  have C4 := Lib.hid fun (w : World) (ow : m.Ok w) (t : Is.Tabs w) => xRun m 16 (1 + rd_ % 15) (ra_ % 16) 0 (far_.tmod 131072) _ _ rfl rfl ⟨cy, m.xs, 0, 0⟩ h4 hs (by omega) (by omega) v4 rfl w ow t
  have CG := Lib.hid fun (w : World) (ma : Mc) (e : Exd m ⟨c1, m.xs, 0, 0⟩ ma) (l : ma.c.length = 29) => (by have hr : M.reg ma.c (1 + rd_ % 15) = ((p + 4) % 4294967296) := (by rw [e.c]; exact gr); have h := refGet (ma.c.take 16) (1 + rd_ % 15) w (take16 l); rw [M.reg_take _ l, hr] at h; exact h : Calls Tryd.prog 17 #[.agg (ints .u32 (ma.c.take 16)), .int .i64 (1 + rd_ % 15)] w fun e W' => e = .returned (.int .u32 ((p + 4) % 4294967296)) ∧ Dn w W')
  have hwr : IntKind.u32.wrap (p + 4) = (p + 4) % 4294967296 := rfl
  have g2 := Lib.hid g2
  have g1 := Lib.hid g1
  have gx := Lib.hid gx
  have gy := Lib.hid gy
  clear h1 h2 h3 h4 v1 v2 v3 v4 gr
  have HD := Lib.hid (Dn.refl W)
  go_enter Tryd.func5, Tryd.ntmps5
  go_wp2_with (first | ((with_reducible refine wpList_box (vs := (mach m)) ?_ ?_ ?_); rfl; rfl; intro b_v4 w' nn; refine Hid.out ?_))
  refine Lib.hid ?_
  have HL_v4 : Hid (W.heap.size ≤ b_v4) := Lib.hid (Blk.hi nn HD.out.size)
  have d' := nn.dn
  replace HD := Lib.hid (HD.out.trans d')
  have v4 := nn.blk
  clear d' nn
  go_wp2_with (first | (go_at_call 9; (with_reducible refine (C0.out _ (T.dn HD.out)).mono ?_); rintro e w' ⟨rfl, d'⟩; refine Hid.out ?_))
  refine Lib.hid ?_
  replace v4 := v4.dn d'
  replace HD := Lib.hid (HD.out.trans d')
  clear d'
  go_wp2_with (first | ((with_reducible refine load33 v4 hl ?_ ?_ ?_); rfl; rfl) | (go_at_call 10; (with_reducible refine (CF.out _ (hm.dn HD.out)).mono ?_); rintro e w' ⟨rfl, d'⟩; refine Hid.out ?_))
  refine Lib.hid ?_
  replace v4 := v4.dn d'
  replace HD := Lib.hid (HD.out.trans d')
  clear d'
  go_wp2_with (first | ((with_reducible refine load33 v4 hl ?_ ?_ ?_); rfl; rfl) | (go_at_call 12; (with_reducible refine (C1.out _ (hm.dn HD.out) (T.dn HD.out)).mono ?_); rintro e w' ⟨ma, rfl, oa', ua, d'⟩; refine Hid.out ?_))
  refine Lib.hid ?_
  replace v4 := v4.dn d'
  replace HD := Lib.hid (HD.out.trans d')
  clear d'
  have lma := oa'.out.len
  have na : ma.c.getD 16 0 = to_ := by rw [ua.out.c]; exact g1.out
  have oa := Lib.hid oa'.out
  go_wp2_with (first | ((with_reducible refine wpList_alloc zeroMach ?_ ?_); rfl; intro b_v11 w' nn; refine Hid.out ?_))
  refine Lib.hid ?_
  have n_v4_v11 := Lib.hid (nn.ne _ v4.lt)
  have HL_v11 : Hid (W.heap.size ≤ b_v11) := Lib.hid (Blk.hi nn HD.out.size)
  have d' := nn.dn
  replace v4 := v4.dn d'
  replace oa := Lib.hid (oa.out.dn d')
  replace HD := Lib.hid (HD.out.trans d')
  have v11 := nn.blk
  clear d' nn
  go_wp2_with (first | ((with_reducible refine wpList_alloc zeroTrap ?_ ?_); rfl; intro b_v12 w' nn; refine Hid.out ?_))
  refine Lib.hid ?_
  have n_v4_v12 := Lib.hid (nn.ne _ v4.lt)
  have n_v11_v12 := Lib.hid (nn.ne _ v11.lt)
  have HL_v12 : Hid (W.heap.size ≤ b_v12) := Lib.hid (Blk.hi nn HD.out.size)
  have d' := nn.dn
  replace v4 := v4.dn d'
  replace v11 := v11.dn d'
  replace oa := Lib.hid (oa.out.dn d')
  replace HD := Lib.hid (HD.out.trans d')
  have v12 := nn.blk
  clear d' nn
  go_wp2_with (first | ((with_reducible refine store33 ma lma v11 zlen ?_ ?_ ?_ ?_); rfl; rfl; rfl; intro w' r' t'; refine Hid.out ?_))
  refine Lib.hid ?_
  replace oa := Lib.hid (oa.out.trn v11 (NoU8.mach _) t')
  replace v4 := v4.trn t' n_v4_v11.out
  replace v12 := v12.trn t' n_v11_v12.out.symm
  replace HD := Lib.hid (HD.out.trn HL_v11.out t')
  clear t' v11
  have v11 := r'
  clear r'
  go_wp2_with (first | ((with_reducible refine storeTrap (k := 0) (v := 0) v12 ?_ ?_ ?_ ?_); rfl; rfl; rfl; intro w' r' t'; refine Hid.out ?_))
  refine Lib.hid ?_
  replace oa := Lib.hid (oa.out.trn v12 (NoU8.trap _ _) t')
  replace v4 := v4.trn t' n_v4_v12.out
  replace v11 := v11.trn t' n_v11_v12.out
  replace HD := Lib.hid (HD.out.trn HL_v12.out t')
  clear t' v12
  have v12 := r'
  clear r'
  go_wp2_with (first | ((with_reducible refine load33 v11 lma ?_ ?_ ?_); rfl; rfl) | (go_at_call 12; (with_reducible refine (C2.out _ ma ua.out oa.out (T.dn HD.out)).mono ?_); rintro e w' ⟨mb, rfl, ob', ub, d'⟩; refine Hid.out ?_))
  refine Lib.hid ?_
  replace v4 := v4.dn d'
  replace v11 := v11.dn d'
  replace v12 := v12.dn d'
  replace oa := Lib.hid (oa.out.dn d')
  replace HD := Lib.hid (HD.out.trans d')
  clear d'
  have lmb := ob'.out.len
  have nb : mb.c.getD 16 0 = ((p + 4) % 4294967296) := by rw [ub.out.c]; exact g2.out
  have ob := Lib.hid ob'.out
  go_wp2_with (first | ((with_reducible refine wpList_alloc zeroMach ?_ ?_); rfl; intro b_v13 w' nn; refine Hid.out ?_))
  refine Lib.hid ?_
  have n_v4_v13 := Lib.hid (nn.ne _ v4.lt)
  have n_v11_v13 := Lib.hid (nn.ne _ v11.lt)
  have n_v12_v13 := Lib.hid (nn.ne _ v12.lt)
  have HL_v13 : Hid (W.heap.size ≤ b_v13) := Lib.hid (Blk.hi nn HD.out.size)
  have d' := nn.dn
  replace v4 := v4.dn d'
  replace v11 := v11.dn d'
  replace v12 := v12.dn d'
  replace oa := Lib.hid (oa.out.dn d')
  replace ob := Lib.hid (ob.out.dn d')
  replace HD := Lib.hid (HD.out.trans d')
  have v13 := nn.blk
  clear d' nn
  go_wp2_with (first | ((with_reducible refine wpList_alloc zeroTrap ?_ ?_); rfl; intro b_v14 w' nn; refine Hid.out ?_))
  refine Lib.hid ?_
  have n_v4_v14 := Lib.hid (nn.ne _ v4.lt)
  have n_v11_v14 := Lib.hid (nn.ne _ v11.lt)
  have n_v12_v14 := Lib.hid (nn.ne _ v12.lt)
  have n_v13_v14 := Lib.hid (nn.ne _ v13.lt)
  have HL_v14 : Hid (W.heap.size ≤ b_v14) := Lib.hid (Blk.hi nn HD.out.size)
  have d' := nn.dn
  replace v4 := v4.dn d'
  replace v11 := v11.dn d'
  replace v12 := v12.dn d'
  replace v13 := v13.dn d'
  replace oa := Lib.hid (oa.out.dn d')
  replace ob := Lib.hid (ob.out.dn d')
  replace HD := Lib.hid (HD.out.trans d')
  have v14 := nn.blk
  clear d' nn
  go_wp2_with (first | ((with_reducible refine store33 mb lmb v13 zlen ?_ ?_ ?_ ?_); rfl; rfl; rfl; intro w' r' t'; refine Hid.out ?_))
  refine Lib.hid ?_
  replace oa := Lib.hid (oa.out.trn v13 (NoU8.mach _) t')
  replace ob := Lib.hid (ob.out.trn v13 (NoU8.mach _) t')
  replace v4 := v4.trn t' n_v4_v13.out
  replace v11 := v11.trn t' n_v11_v13.out
  replace v12 := v12.trn t' n_v12_v13.out
  replace v14 := v14.trn t' n_v13_v14.out.symm
  replace HD := Lib.hid (HD.out.trn HL_v13.out t')
  clear t' v13
  have v13 := r'
  clear r'
  go_wp2_with (first | ((with_reducible refine storeTrap (k := 0) (v := 0) v14 ?_ ?_ ?_ ?_); rfl; rfl; rfl; intro w' r' t'; refine Hid.out ?_))
  refine Lib.hid ?_
  replace oa := Lib.hid (oa.out.trn v14 (NoU8.trap _ _) t')
  replace ob := Lib.hid (ob.out.trn v14 (NoU8.trap _ _) t')
  replace v4 := v4.trn t' n_v4_v14.out
  replace v11 := v11.trn t' n_v11_v14.out
  replace v12 := v12.trn t' n_v12_v14.out
  replace v13 := v13.trn t' n_v13_v14.out
  replace HD := Lib.hid (HD.out.trn HL_v14.out t')
  clear t' v14
  have v14 := r'
  clear r'
  go_wp2_with fail
  have nx_v4 : b_v4 ∉ [] := (by simp)
  have nx_v11 : b_v11 ∉ [] := (by simp)
  have nx_v12 : b_v12 ∉ [] := (by simp)
  have nx_v13 : b_v13 ∉ [] := (by simp)
  have nx_v14 : b_v14 ∉ [] := (by simp)
  have hbs : ∀ b ∈ ([] : List Nat), ∃ t cs, Blk w' b t cs ∧ NoU8 cs := fun b hb => absurd hb (by simp)
  have hbl : ∀ b ∈ ([] : List Nat), W.heap.size ≤ b := fun b hb => absurd hb (by simp)
  refine wp_region_picks [] [0, 1, 2, 3, 4, 5, 6, 7, 8, 9, 10, 11, 12, 13, 14, 15, 16, 17, 18, 19] 0 (by kernel_rfl) (by kernel_rfl) rfl (by kernel_rfl) ?_
  simp only [pickL, List.drop_succ_cons, List.drop_zero, List.take_succ_cons, List.take_zero, List.cons_append, List.nil_append]
  refine ⟨?_, ?_, ?_⟩
  rotate_left 1
  refine ⟨_, calx_pure (by rfl) (fun u => by go_simp; rfl), ?_⟩
  simp only [Act.put, List.setIfInBounds_toArray, List.set_cons_succ, List.set_cons_zero]
  refine ⟨_, calx_pure (by rfl) (fun u => by go_simp; rfl), ?_⟩
  simp only [Act.put, List.setIfInBounds_toArray, List.set_cons_succ, List.set_cons_zero]
  refine ⟨_, calxInt v13 nx_v13 Tryd.underlying22 (by rfl) rfl (by have h0 := (mach_word lmb (i := 16) (by decide)); rw [nb] at h0; exact h0), ?_⟩
  simp only [Act.put, List.setIfInBounds_toArray, List.set_cons_succ, List.set_cons_zero]
  refine ⟨_, calx_pure (by rfl) (fun u => by go_simp; rfl), ?_⟩
  simp only [Act.put, List.setIfInBounds_toArray, List.set_cons_succ, List.set_cons_zero]
  refine ⟨_, calx_pure (by rfl) (fun u => by go_simp; rfl), ?_⟩
  simp only [Act.put, List.setIfInBounds_toArray, List.set_cons_succ, List.set_cons_zero]
  refine ⟨_, calxInt v4 nx_v4 Tryd.underlying22 (by rfl) rfl (by have h0 := (mach_word hl (i := 16) (by decide)); rw [hpc] at h0; exact h0), ?_⟩
  simp only [Act.put, List.setIfInBounds_toArray, List.set_cons_succ, List.set_cons_zero]
  refine ⟨_, calx_pure (by rfl) (fun u => by go_simp; rfl), ?_⟩
  simp only [Act.put, List.setIfInBounds_toArray, List.set_cons_succ, List.set_cons_zero]
  refine ⟨_, calx_pure (by rfl) (fun u => by go_simp; rfl), ?_⟩
  simp only [Act.put, List.setIfInBounds_toArray, List.set_cons_succ, List.set_cons_zero]
  refine ⟨_, calx_pure (by rfl) (fun u => by go_simp; rfl), ?_⟩
  simp only [Act.put, List.setIfInBounds_toArray, List.set_cons_succ, List.set_cons_zero]
  refine ⟨_, calx_pure (by rfl) (fun u => by go_simp; rfl), ?_⟩
  simp only [Act.put, List.setIfInBounds_toArray, List.set_cons_succ, List.set_cons_zero]
  refine ⟨_, calx_pure (by rfl) (fun u => by go_simp; rfl), ?_⟩
  simp only [Act.put, List.setIfInBounds_toArray, List.set_cons_succ, List.set_cons_zero]
  refine ⟨_, calxRegs v11 lma nx_v11 (by rfl) rfl, ?_⟩
  simp only [Act.put, List.setIfInBounds_toArray, List.set_cons_succ, List.set_cons_zero]
  refine ⟨_, calx_pure (by rfl) (fun u => by go_simp; rfl), ?_⟩
  simp only [Act.put, List.setIfInBounds_toArray, List.set_cons_succ, List.set_cons_zero]
  refine ⟨_, calx_call (fun u du => CG.out u ma ua.out lma) (by rfl) (fun u => by go_simp), ?_⟩
  simp only [Act.put, List.setIfInBounds_toArray, List.set_cons_succ, List.set_cons_zero]
  refine ⟨_, calx_pure (by rfl) (fun u => by go_simp; rfl), ?_⟩
  simp only [Act.put, List.setIfInBounds_toArray, List.set_cons_succ, List.set_cons_zero]
  refine ⟨_, calx_pure (by rfl) (fun u => by go_simp; rfl), ?_⟩
  simp only [Act.put, List.setIfInBounds_toArray, List.set_cons_succ, List.set_cons_zero]
  refine ⟨_, calxInt v4 nx_v4 Tryd.underlying22 (by rfl) rfl (by have h0 := (mach_word hl (i := 16) (by decide)); rw [hpc] at h0; exact h0), ?_⟩
  simp only [Act.put, List.setIfInBounds_toArray, List.set_cons_succ, List.set_cons_zero]
  refine ⟨_, calx_pure (by rfl) (fun u => by go_simp; rfl), ?_⟩
  simp only [Act.put, List.setIfInBounds_toArray, List.set_cons_succ, List.set_cons_zero]
  refine ⟨_, calx_pure (by rfl) (fun u => by go_simp; rfl), ?_⟩
  simp only [Act.put, List.setIfInBounds_toArray, List.set_cons_succ, List.set_cons_zero]
  refine ⟨_, calx_pure (by rfl) (fun u => by go_simp; rfl), ?_⟩
  simp only [Act.put, List.setIfInBounds_toArray, List.set_cons_succ, List.set_cons_zero]
  exact rfl
  have e0 : Dx [] w' w'.drew := Dn.dx (Dn.drawn _)
  refine wpX_end (by kernel_rfl) fun w' dx => NoPanic.normal ?_
  have D := e0.trans (Dn.dx dx)
  clear e0 dx
  replace v4 := v4.dx D nx_v4
  replace v11 := v11.dx D nx_v11
  replace v12 := v12.dx D nx_v12
  replace v13 := v13.dx D nx_v13
  replace v14 := v14.dx D nx_v14
  replace oa := Lib.hid (oa.out.dx D hbs)
  replace ob := Lib.hid (ob.out.dx D hbs)
  replace HD := Lib.hid (HD.out.of_dx D hbl)
  clear D hbs hbl nx_v4 nx_v11 nx_v12 nx_v13 nx_v14
  go_wp2_with (first | ((with_reducible refine load33 v4 hl ?_ ?_ ?_); rfl; rfl) | (go_at_call 12; (with_reducible refine (C3.out _ (hm.dn HD.out) (T.dn HD.out)).mono ?_); rintro e w' ⟨mx, rfl, ox', ux, d'⟩; refine Hid.out ?_))
  refine Lib.hid ?_
  replace v4 := v4.dn d'
  replace v11 := v11.dn d'
  replace v12 := v12.dn d'
  replace v13 := v13.dn d'
  replace v14 := v14.dn d'
  replace oa := Lib.hid (oa.out.dn d')
  replace ob := Lib.hid (ob.out.dn d')
  replace HD := Lib.hid (HD.out.trans d')
  clear d'
  have lmx := ox'.out.len
  have nx : mx.c.getD 16 0 = to_ := by rw [ux.out.c]; exact gx.out
  have ox := Lib.hid ox'.out
  go_wp2_with (first | ((with_reducible refine wpList_alloc zeroMach ?_ ?_); rfl; intro b_v15 w' nn; refine Hid.out ?_))
  refine Lib.hid ?_
  have n_v4_v15 := Lib.hid (nn.ne _ v4.lt)
  have n_v11_v15 := Lib.hid (nn.ne _ v11.lt)
  have n_v12_v15 := Lib.hid (nn.ne _ v12.lt)
  have n_v13_v15 := Lib.hid (nn.ne _ v13.lt)
  have n_v14_v15 := Lib.hid (nn.ne _ v14.lt)
  have HL_v15 : Hid (W.heap.size ≤ b_v15) := Lib.hid (Blk.hi nn HD.out.size)
  have d' := nn.dn
  replace v4 := v4.dn d'
  replace v11 := v11.dn d'
  replace v12 := v12.dn d'
  replace v13 := v13.dn d'
  replace v14 := v14.dn d'
  replace oa := Lib.hid (oa.out.dn d')
  replace ob := Lib.hid (ob.out.dn d')
  replace ox := Lib.hid (ox.out.dn d')
  replace HD := Lib.hid (HD.out.trans d')
  have v15 := nn.blk
  clear d' nn
  go_wp2_with (first | ((with_reducible refine wpList_alloc zeroTrap ?_ ?_); rfl; intro b_v16 w' nn; refine Hid.out ?_))
  refine Lib.hid ?_
  have n_v4_v16 := Lib.hid (nn.ne _ v4.lt)
  have n_v11_v16 := Lib.hid (nn.ne _ v11.lt)
  have n_v12_v16 := Lib.hid (nn.ne _ v12.lt)
  have n_v13_v16 := Lib.hid (nn.ne _ v13.lt)
  have n_v14_v16 := Lib.hid (nn.ne _ v14.lt)
  have n_v15_v16 := Lib.hid (nn.ne _ v15.lt)
  have HL_v16 : Hid (W.heap.size ≤ b_v16) := Lib.hid (Blk.hi nn HD.out.size)
  have d' := nn.dn
  replace v4 := v4.dn d'
  replace v11 := v11.dn d'
  replace v12 := v12.dn d'
  replace v13 := v13.dn d'
  replace v14 := v14.dn d'
  replace v15 := v15.dn d'
  replace oa := Lib.hid (oa.out.dn d')
  replace ob := Lib.hid (ob.out.dn d')
  replace ox := Lib.hid (ox.out.dn d')
  replace HD := Lib.hid (HD.out.trans d')
  have v16 := nn.blk
  clear d' nn
  go_wp2_with (first | ((with_reducible refine store33 mx lmx v15 zlen ?_ ?_ ?_ ?_); rfl; rfl; rfl; intro w' r' t'; refine Hid.out ?_))
  refine Lib.hid ?_
  replace oa := Lib.hid (oa.out.trn v15 (NoU8.mach _) t')
  replace ob := Lib.hid (ob.out.trn v15 (NoU8.mach _) t')
  replace ox := Lib.hid (ox.out.trn v15 (NoU8.mach _) t')
  replace v4 := v4.trn t' n_v4_v15.out
  replace v11 := v11.trn t' n_v11_v15.out
  replace v12 := v12.trn t' n_v12_v15.out
  replace v13 := v13.trn t' n_v13_v15.out
  replace v14 := v14.trn t' n_v14_v15.out
  replace v16 := v16.trn t' n_v15_v16.out.symm
  replace HD := Lib.hid (HD.out.trn HL_v15.out t')
  clear t' v15
  have v15 := r'
  clear r'
  go_wp2_with (first | ((with_reducible refine storeTrap (k := 0) (v := 0) v16 ?_ ?_ ?_ ?_); rfl; rfl; rfl; intro w' r' t'; refine Hid.out ?_))
  refine Lib.hid ?_
  replace oa := Lib.hid (oa.out.trn v16 (NoU8.trap _ _) t')
  replace ob := Lib.hid (ob.out.trn v16 (NoU8.trap _ _) t')
  replace ox := Lib.hid (ox.out.trn v16 (NoU8.trap _ _) t')
  replace v4 := v4.trn t' n_v4_v16.out
  replace v11 := v11.trn t' n_v11_v16.out
  replace v12 := v12.trn t' n_v12_v16.out
  replace v13 := v13.trn t' n_v13_v16.out
  replace v14 := v14.trn t' n_v14_v16.out
  replace v15 := v15.trn t' n_v15_v16.out
  replace HD := Lib.hid (HD.out.trn HL_v16.out t')
  clear t' v16
  have v16 := r'
  clear r'
  go_wp2_with (first | ((with_reducible refine load33 v4 hl ?_ ?_ ?_); rfl; rfl) | (go_at_call 12; (with_reducible refine (C4.out _ (hm.dn HD.out) (T.dn HD.out)).mono ?_); rintro e w' ⟨my, rfl, oy', uy, d'⟩; refine Hid.out ?_))
  refine Lib.hid ?_
  replace v4 := v4.dn d'
  replace v11 := v11.dn d'
  replace v12 := v12.dn d'
  replace v13 := v13.dn d'
  replace v14 := v14.dn d'
  replace v15 := v15.dn d'
  replace v16 := v16.dn d'
  replace oa := Lib.hid (oa.out.dn d')
  replace ob := Lib.hid (ob.out.dn d')
  replace ox := Lib.hid (ox.out.dn d')
  replace HD := Lib.hid (HD.out.trans d')
  clear d'
  have lmy := oy'.out.len
  have ny : my.c.getD 16 0 = ((p + 4) % 4294967296) := by rw [uy.out.c]; exact gy.out
  have oy := Lib.hid oy'.out
  go_wp2_with (first | ((with_reducible refine wpList_alloc zeroMach ?_ ?_); rfl; intro b_v17 w' nn; refine Hid.out ?_))
  refine Lib.hid ?_
  have n_v4_v17 := Lib.hid (nn.ne _ v4.lt)
  have n_v11_v17 := Lib.hid (nn.ne _ v11.lt)
  have n_v12_v17 := Lib.hid (nn.ne _ v12.lt)
  have n_v13_v17 := Lib.hid (nn.ne _ v13.lt)
  have n_v14_v17 := Lib.hid (nn.ne _ v14.lt)
  have n_v15_v17 := Lib.hid (nn.ne _ v15.lt)
  have n_v16_v17 := Lib.hid (nn.ne _ v16.lt)
  have HL_v17 : Hid (W.heap.size ≤ b_v17) := Lib.hid (Blk.hi nn HD.out.size)
  have d' := nn.dn
  replace v4 := v4.dn d'
  replace v11 := v11.dn d'
  replace v12 := v12.dn d'
  replace v13 := v13.dn d'
  replace v14 := v14.dn d'
  replace v15 := v15.dn d'
  replace v16 := v16.dn d'
  replace oa := Lib.hid (oa.out.dn d')
  replace ob := Lib.hid (ob.out.dn d')
  replace ox := Lib.hid (ox.out.dn d')
  replace oy := Lib.hid (oy.out.dn d')
  replace HD := Lib.hid (HD.out.trans d')
  have v17 := nn.blk
  clear d' nn
  go_wp2_with (first | ((with_reducible refine wpList_alloc zeroTrap ?_ ?_); rfl; intro b_v18 w' nn; refine Hid.out ?_))
  refine Lib.hid ?_
  have n_v4_v18 := Lib.hid (nn.ne _ v4.lt)
  have n_v11_v18 := Lib.hid (nn.ne _ v11.lt)
  have n_v12_v18 := Lib.hid (nn.ne _ v12.lt)
  have n_v13_v18 := Lib.hid (nn.ne _ v13.lt)
  have n_v14_v18 := Lib.hid (nn.ne _ v14.lt)
  have n_v15_v18 := Lib.hid (nn.ne _ v15.lt)
  have n_v16_v18 := Lib.hid (nn.ne _ v16.lt)
  have n_v17_v18 := Lib.hid (nn.ne _ v17.lt)
  have HL_v18 : Hid (W.heap.size ≤ b_v18) := Lib.hid (Blk.hi nn HD.out.size)
  have d' := nn.dn
  replace v4 := v4.dn d'
  replace v11 := v11.dn d'
  replace v12 := v12.dn d'
  replace v13 := v13.dn d'
  replace v14 := v14.dn d'
  replace v15 := v15.dn d'
  replace v16 := v16.dn d'
  replace v17 := v17.dn d'
  replace oa := Lib.hid (oa.out.dn d')
  replace ob := Lib.hid (ob.out.dn d')
  replace ox := Lib.hid (ox.out.dn d')
  replace oy := Lib.hid (oy.out.dn d')
  replace HD := Lib.hid (HD.out.trans d')
  have v18 := nn.blk
  clear d' nn
  go_wp2_with (first | ((with_reducible refine store33 my lmy v17 zlen ?_ ?_ ?_ ?_); rfl; rfl; rfl; intro w' r' t'; refine Hid.out ?_))
  refine Lib.hid ?_
  replace oa := Lib.hid (oa.out.trn v17 (NoU8.mach _) t')
  replace ob := Lib.hid (ob.out.trn v17 (NoU8.mach _) t')
  replace ox := Lib.hid (ox.out.trn v17 (NoU8.mach _) t')
  replace oy := Lib.hid (oy.out.trn v17 (NoU8.mach _) t')
  replace v4 := v4.trn t' n_v4_v17.out
  replace v11 := v11.trn t' n_v11_v17.out
  replace v12 := v12.trn t' n_v12_v17.out
  replace v13 := v13.trn t' n_v13_v17.out
  replace v14 := v14.trn t' n_v14_v17.out
  replace v15 := v15.trn t' n_v15_v17.out
  replace v16 := v16.trn t' n_v16_v17.out
  replace v18 := v18.trn t' n_v17_v18.out.symm
  replace HD := Lib.hid (HD.out.trn HL_v17.out t')
  clear t' v17
  have v17 := r'
  clear r'
  go_wp2_with (first | ((with_reducible refine storeTrap (k := 0) (v := 0) v18 ?_ ?_ ?_ ?_); rfl; rfl; rfl; intro w' r' t'; refine Hid.out ?_))
  refine Lib.hid ?_
  replace oa := Lib.hid (oa.out.trn v18 (NoU8.trap _ _) t')
  replace ob := Lib.hid (ob.out.trn v18 (NoU8.trap _ _) t')
  replace ox := Lib.hid (ox.out.trn v18 (NoU8.trap _ _) t')
  replace oy := Lib.hid (oy.out.trn v18 (NoU8.trap _ _) t')
  replace v4 := v4.trn t' n_v4_v18.out
  replace v11 := v11.trn t' n_v11_v18.out
  replace v12 := v12.trn t' n_v12_v18.out
  replace v13 := v13.trn t' n_v13_v18.out
  replace v14 := v14.trn t' n_v14_v18.out
  replace v15 := v15.trn t' n_v15_v18.out
  replace v16 := v16.trn t' n_v16_v18.out
  replace v17 := v17.trn t' n_v17_v18.out
  replace HD := Lib.hid (HD.out.trn HL_v18.out t')
  clear t' v18
  have v18 := r'
  clear r'
  have ck0 := v11.word lma 16 rfl
  rw [na] at ck0
  have ck1 := v4.word hl 16 rfl
  rw [hpc] at ck1
  have ck2 := v15.word lmx 16 rfl
  rw [nx] at ck2
  have ck3 := v17.word lmy 16 rfl
  rw [ny] at ck3
  go_wp2_with fail
  go_ret
  exact ⟨rfl, HD.out⟩
set_option maxRecDepth 100000 in
set_option maxHeartbeats 2000000 in
theorem cb_n (m : Mc) (rd_ far_ ra_ : Int) (W : World) (hm : m.Ok W) (T : Is.Tabs W) (hx : m.xs.length ≤ 9223372036854775807) (hy : m.ys.length ≤ 9223372036854775807) (a0 : 0 ≤ rd_) (a1 : rd_ < 256) (f0 : -2147483648 ≤ far_) (f1 : far_ < 2147483648) (b0 : 0 ≤ ra_) (b1 : ra_ < 256) (hf : decide (m.xs.length ≤ 600 ∧ m.ys.length ≤ 600) = true) (p to_ : Int) (p0 : 0 ≤ p) (p1 : p < 4294967296) (hpc : m.c.getD 16 0 = p) (c1 c2 cx cy : List Int)
    (v1 : Is.M.ok 18 (1 + rd_ % 15) 0 0 (far_.tmod 131072) = true) (v2 : Is.M.ok 19 0 (1 + rd_ % 15) 0 0 = true) (v3 : Is.M.ok 15 (1 + rd_ % 15) (ra_ % 16) 0 (far_.tmod 131072) = true) (v4 : Is.M.ok 16 (1 + rd_ % 15) (ra_ % 16) 0 (far_.tmod 131072) = true)
    (h1 : M.ex m.c m.xs 18 (1 + rd_ % 15) 0 0 (far_.tmod 131072) = ⟨c1, m.xs, 0, 0⟩) (h2 : M.ex c1 m.xs 19 0 (1 + rd_ % 15) 0 0 = ⟨c2, m.xs, 0, 0⟩) (h3 : M.ex m.c m.xs 15 (1 + rd_ % 15) (ra_ % 16) 0 (far_.tmod 131072) = ⟨cx, m.xs, 0, 0⟩) (h4 : M.ex m.c m.xs 16 (1 + rd_ % 15) (ra_ % 16) 0 (far_.tmod 131072) = ⟨cy, m.xs, 0, 0⟩)
    (g1 : c1.getD 16 0 = to_) (gr : M.reg c1 (1 + rd_ % 15) = ((p + 4) % 4294967296)) (g2 : c2.getD 16 0 = ((p + 4) % 4294967296)) (gx : cx.getD 16 0 = ((p + 4) % 4294967296)) (gy : cy.getD 16 0 = to_) (q : (((p + 4) % 4294967296) == to_) = false) :
    Calls Tryd.prog 5 #[.agg (mach m), .int .u8 rd_, .int .i32 far_, .int .u8 ra_] W fun e W' => e = .returned (.bool true) ∧ Dn W W' := by
  have hl := hm.len
  have hs : m.xs.length ≤ 100000 := by simp only [decide_eq_true_eq] at hf; omega
  have C0 := Lib.hid fun w => fun (t : Is.Tabs w) => awake w t
  have CF := Lib.hid fun w => fun (ow : m.Ok w) => rfew m true w ow hx hy hf
  clear hf
  have im : -131072 ≤ (far_.tmod 131072) ∧ (far_.tmod 131072) ≤ 131072 := by rw [Int.tmod_eq_emod]; split <;> omega
  have C1 := Lib.hid fun (w : World) (ow : m.Ok w) (t : Is.Tabs w) => xRun m 18 (1 + rd_ % 15) 0 0 (far_.tmod 131072) _ _ rfl rfl ⟨c1, m.xs, 0, 0⟩ h1 hs (by omega) (by omega) v1 rfl w ow t
  have C2 := Lib.hid fun (w : World) (ma : Mc) (e : Exd m ⟨c1, m.xs, 0, 0⟩ ma) (ow : ma.Ok w) (t : Is.Tabs w) => xRun ma 19 0 (1 + rd_ % 15) 0 0 c1 m.xs e.c e.xs ⟨c2, m.xs, 0, 0⟩ h2 hs (by omega) (by omega) v2 rfl w ow t
  have C3 := Lib.hid fun (w : World) (ow : m.Ok w) (t : Is.Tabs w) => xRun m 15 (1 + rd_ % 15) (ra_ % 16) 0 (far_.tmod 131072) _ _ rfl rfl ⟨cx, m.xs, 0, 0⟩ h3 hs (by omega) (by omega) v3 rfl w ow t
  have C4 := Lib.hid fun (w : World) (ow : m.Ok w) (t : Is.Tabs w) => xRun m 16 (1 + rd_ % 15) (ra_ % 16) 0 (far_.tmod 131072) _ _ rfl rfl ⟨cy, m.xs, 0, 0⟩ h4 hs (by omega) (by omega) v4 rfl w ow t
  have CG := Lib.hid fun (w : World) (ma : Mc) (e : Exd m ⟨c1, m.xs, 0, 0⟩ ma) (l : ma.c.length = 29) => (by have hr : M.reg ma.c (1 + rd_ % 15) = ((p + 4) % 4294967296) := (by rw [e.c]; exact gr); have h := refGet (ma.c.take 16) (1 + rd_ % 15) w (take16 l); rw [M.reg_take _ l, hr] at h; exact h : Calls Tryd.prog 17 #[.agg (ints .u32 (ma.c.take 16)), .int .i64 (1 + rd_ % 15)] w fun e W' => e = .returned (.int .u32 ((p + 4) % 4294967296)) ∧ Dn w W')
  have hwr : IntKind.u32.wrap (p + 4) = (p + 4) % 4294967296 := rfl
  have g2 := Lib.hid g2
  have g1 := Lib.hid g1
  have gx := Lib.hid gx
  have gy := Lib.hid gy
  clear h1 h2 h3 h4 v1 v2 v3 v4 gr
  have HD := Lib.hid (Dn.refl W)
  go_enter Tryd.func5, Tryd.ntmps5
  go_wp2_with (first | ((with_reducible refine wpList_box (vs := (mach m)) ?_ ?_ ?_); rfl; rfl; intro b_v4 w' nn; refine Hid.out ?_))
  refine Lib.hid ?_
  have HL_v4 : Hid (W.heap.size ≤ b_v4) := Lib.hid (Blk.hi nn HD.out.size)
  have d' := nn.dn
  replace HD := Lib.hid (HD.out.trans d')
  have v4 := nn.blk
  clear d' nn
  go_wp2_with (first | (go_at_call 9; (with_reducible refine (C0.out _ (T.dn HD.out)).mono ?_); rintro e w' ⟨rfl, d'⟩; refine Hid.out ?_))
  refine Lib.hid ?_
  replace v4 := v4.dn d'
  replace HD := Lib.hid (HD.out.trans d')
  clear d'
  go_wp2_with (first | ((with_reducible refine load33 v4 hl ?_ ?_ ?_); rfl; rfl) | (go_at_call 10; (with_reducible refine (CF.out _ (hm.dn HD.out)).mono ?_); rintro e w' ⟨rfl, d'⟩; refine Hid.out ?_))
  refine Lib.hid ?_
  replace v4 := v4.dn d'
  replace HD := Lib.hid (HD.out.trans d')
  clear d'
  go_wp2_with (first | ((with_reducible refine load33 v4 hl ?_ ?_ ?_); rfl; rfl) | (go_at_call 12; (with_reducible refine (C1.out _ (hm.dn HD.out) (T.dn HD.out)).mono ?_); rintro e w' ⟨ma, rfl, oa', ua, d'⟩; refine Hid.out ?_))
  refine Lib.hid ?_
  replace v4 := v4.dn d'
  replace HD := Lib.hid (HD.out.trans d')
  clear d'
  have lma := oa'.out.len
  have na : ma.c.getD 16 0 = to_ := by rw [ua.out.c]; exact g1.out
  have oa := Lib.hid oa'.out
  go_wp2_with (first | ((with_reducible refine wpList_alloc zeroMach ?_ ?_); rfl; intro b_v11 w' nn; refine Hid.out ?_))
  refine Lib.hid ?_
  have n_v4_v11 := Lib.hid (nn.ne _ v4.lt)
  have HL_v11 : Hid (W.heap.size ≤ b_v11) := Lib.hid (Blk.hi nn HD.out.size)
  have d' := nn.dn
  replace v4 := v4.dn d'
  replace oa := Lib.hid (oa.out.dn d')
  replace HD := Lib.hid (HD.out.trans d')
  have v11 := nn.blk
  clear d' nn
  go_wp2_with (first | ((with_reducible refine wpList_alloc zeroTrap ?_ ?_); rfl; intro b_v12 w' nn; refine Hid.out ?_))
  refine Lib.hid ?_
  have n_v4_v12 := Lib.hid (nn.ne _ v4.lt)
  have n_v11_v12 := Lib.hid (nn.ne _ v11.lt)
  have HL_v12 : Hid (W.heap.size ≤ b_v12) := Lib.hid (Blk.hi nn HD.out.size)
  have d' := nn.dn
  replace v4 := v4.dn d'
  replace v11 := v11.dn d'
  replace oa := Lib.hid (oa.out.dn d')
  replace HD := Lib.hid (HD.out.trans d')
  have v12 := nn.blk
  clear d' nn
  go_wp2_with (first | ((with_reducible refine store33 ma lma v11 zlen ?_ ?_ ?_ ?_); rfl; rfl; rfl; intro w' r' t'; refine Hid.out ?_))
  refine Lib.hid ?_
  replace oa := Lib.hid (oa.out.trn v11 (NoU8.mach _) t')
  replace v4 := v4.trn t' n_v4_v11.out
  replace v12 := v12.trn t' n_v11_v12.out.symm
  replace HD := Lib.hid (HD.out.trn HL_v11.out t')
  clear t' v11
  have v11 := r'
  clear r'
  go_wp2_with (first | ((with_reducible refine storeTrap (k := 0) (v := 0) v12 ?_ ?_ ?_ ?_); rfl; rfl; rfl; intro w' r' t'; refine Hid.out ?_))
  refine Lib.hid ?_
  replace oa := Lib.hid (oa.out.trn v12 (NoU8.trap _ _) t')
  replace v4 := v4.trn t' n_v4_v12.out
  replace v11 := v11.trn t' n_v11_v12.out
  replace HD := Lib.hid (HD.out.trn HL_v12.out t')
  clear t' v12
  have v12 := r'
  clear r'
  go_wp2_with (first | ((with_reducible refine load33 v11 lma ?_ ?_ ?_); rfl; rfl) | (go_at_call 12; (with_reducible refine (C2.out _ ma ua.out oa.out (T.dn HD.out)).mono ?_); rintro e w' ⟨mb, rfl, ob', ub, d'⟩; refine Hid.out ?_))
  refine Lib.hid ?_
  replace v4 := v4.dn d'
  replace v11 := v11.dn d'
  replace v12 := v12.dn d'
  replace oa := Lib.hid (oa.out.dn d')
  replace HD := Lib.hid (HD.out.trans d')
  clear d'
  have lmb := ob'.out.len
  have nb : mb.c.getD 16 0 = ((p + 4) % 4294967296) := by rw [ub.out.c]; exact g2.out
  have ob := Lib.hid ob'.out
  go_wp2_with (first | ((with_reducible refine wpList_alloc zeroMach ?_ ?_); rfl; intro b_v13 w' nn; refine Hid.out ?_))
  refine Lib.hid ?_
  have n_v4_v13 := Lib.hid (nn.ne _ v4.lt)
  have n_v11_v13 := Lib.hid (nn.ne _ v11.lt)
  have n_v12_v13 := Lib.hid (nn.ne _ v12.lt)
  have HL_v13 : Hid (W.heap.size ≤ b_v13) := Lib.hid (Blk.hi nn HD.out.size)
  have d' := nn.dn
  replace v4 := v4.dn d'
  replace v11 := v11.dn d'
  replace v12 := v12.dn d'
  replace oa := Lib.hid (oa.out.dn d')
  replace ob := Lib.hid (ob.out.dn d')
  replace HD := Lib.hid (HD.out.trans d')
  have v13 := nn.blk
  clear d' nn
  go_wp2_with (first | ((with_reducible refine wpList_alloc zeroTrap ?_ ?_); rfl; intro b_v14 w' nn; refine Hid.out ?_))
  refine Lib.hid ?_
  have n_v4_v14 := Lib.hid (nn.ne _ v4.lt)
  have n_v11_v14 := Lib.hid (nn.ne _ v11.lt)
  have n_v12_v14 := Lib.hid (nn.ne _ v12.lt)
  have n_v13_v14 := Lib.hid (nn.ne _ v13.lt)
  have HL_v14 : Hid (W.heap.size ≤ b_v14) := Lib.hid (Blk.hi nn HD.out.size)
  have d' := nn.dn
  replace v4 := v4.dn d'
  replace v11 := v11.dn d'
  replace v12 := v12.dn d'
  replace v13 := v13.dn d'
  replace oa := Lib.hid (oa.out.dn d')
  replace ob := Lib.hid (ob.out.dn d')
  replace HD := Lib.hid (HD.out.trans d')
  have v14 := nn.blk
  clear d' nn
  go_wp2_with (first | ((with_reducible refine store33 mb lmb v13 zlen ?_ ?_ ?_ ?_); rfl; rfl; rfl; intro w' r' t'; refine Hid.out ?_))
  refine Lib.hid ?_
  replace oa := Lib.hid (oa.out.trn v13 (NoU8.mach _) t')
  replace ob := Lib.hid (ob.out.trn v13 (NoU8.mach _) t')
  replace v4 := v4.trn t' n_v4_v13.out
  replace v11 := v11.trn t' n_v11_v13.out
  replace v12 := v12.trn t' n_v12_v13.out
  replace v14 := v14.trn t' n_v13_v14.out.symm
  replace HD := Lib.hid (HD.out.trn HL_v13.out t')
  clear t' v13
  have v13 := r'
  clear r'
  go_wp2_with (first | ((with_reducible refine storeTrap (k := 0) (v := 0) v14 ?_ ?_ ?_ ?_); rfl; rfl; rfl; intro w' r' t'; refine Hid.out ?_))
  refine Lib.hid ?_
  replace oa := Lib.hid (oa.out.trn v14 (NoU8.trap _ _) t')
  replace ob := Lib.hid (ob.out.trn v14 (NoU8.trap _ _) t')
  replace v4 := v4.trn t' n_v4_v14.out
  replace v11 := v11.trn t' n_v11_v14.out
  replace v12 := v12.trn t' n_v12_v14.out
  replace v13 := v13.trn t' n_v13_v14.out
  replace HD := Lib.hid (HD.out.trn HL_v14.out t')
  clear t' v14
  have v14 := r'
  clear r'
  go_wp2_with fail
  have nx_v4 : b_v4 ∉ [] := (by simp)
  have nx_v11 : b_v11 ∉ [] := (by simp)
  have nx_v12 : b_v12 ∉ [] := (by simp)
  have nx_v13 : b_v13 ∉ [] := (by simp)
  have nx_v14 : b_v14 ∉ [] := (by simp)
  have hbs : ∀ b ∈ ([] : List Nat), ∃ t cs, Blk w' b t cs ∧ NoU8 cs := fun b hb => absurd hb (by simp)
  have hbl : ∀ b ∈ ([] : List Nat), W.heap.size ≤ b := fun b hb => absurd hb (by simp)
  refine wp_region_picks [] [0, 1, 2, 3, 4, 5, 6, 7, 8, 9, 10, 11, 12, 13, 14, 15, 16, 17, 18, 19] 0 (by kernel_rfl) (by kernel_rfl) rfl (by kernel_rfl) ?_
  simp only [pickL, List.drop_succ_cons, List.drop_zero, List.take_succ_cons, List.take_zero, List.cons_append, List.nil_append]
  refine ⟨?_, ?_, ?_⟩
  rotate_left 1
  refine ⟨_, calx_pure (by rfl) (fun u => by go_simp; rfl), ?_⟩
  simp only [Act.put, List.setIfInBounds_toArray, List.set_cons_succ, List.set_cons_zero]
  refine ⟨_, calx_pure (by rfl) (fun u => by go_simp; rfl), ?_⟩
  simp only [Act.put, List.setIfInBounds_toArray, List.set_cons_succ, List.set_cons_zero]
  refine ⟨_, calxInt v13 nx_v13 Tryd.underlying22 (by rfl) rfl (by have h0 := (mach_word lmb (i := 16) (by decide)); rw [nb] at h0; exact h0), ?_⟩
  simp only [Act.put, List.setIfInBounds_toArray, List.set_cons_succ, List.set_cons_zero]
  refine ⟨_, calx_pure (by rfl) (fun u => by go_simp; rfl), ?_⟩
  simp only [Act.put, List.setIfInBounds_toArray, List.set_cons_succ, List.set_cons_zero]
  refine ⟨_, calx_pure (by rfl) (fun u => by go_simp; rfl), ?_⟩
  simp only [Act.put, List.setIfInBounds_toArray, List.set_cons_succ, List.set_cons_zero]
  refine ⟨_, calxInt v4 nx_v4 Tryd.underlying22 (by rfl) rfl (by have h0 := (mach_word hl (i := 16) (by decide)); rw [hpc] at h0; exact h0), ?_⟩
  simp only [Act.put, List.setIfInBounds_toArray, List.set_cons_succ, List.set_cons_zero]
  refine ⟨_, calx_pure (by rfl) (fun u => by go_simp; rfl), ?_⟩
  simp only [Act.put, List.setIfInBounds_toArray, List.set_cons_succ, List.set_cons_zero]
  refine ⟨_, calx_pure (by rfl) (fun u => by go_simp; rfl), ?_⟩
  simp only [Act.put, List.setIfInBounds_toArray, List.set_cons_succ, List.set_cons_zero]
  refine ⟨_, calx_pure (by rfl) (fun u => by go_simp; rfl), ?_⟩
  simp only [Act.put, List.setIfInBounds_toArray, List.set_cons_succ, List.set_cons_zero]
  refine ⟨_, calx_pure (by rfl) (fun u => by go_simp; rfl), ?_⟩
  simp only [Act.put, List.setIfInBounds_toArray, List.set_cons_succ, List.set_cons_zero]
  refine ⟨_, calx_pure (by rfl) (fun u => by go_simp; rfl), ?_⟩
  simp only [Act.put, List.setIfInBounds_toArray, List.set_cons_succ, List.set_cons_zero]
  refine ⟨_, calxRegs v11 lma nx_v11 (by rfl) rfl, ?_⟩
  simp only [Act.put, List.setIfInBounds_toArray, List.set_cons_succ, List.set_cons_zero]
  refine ⟨_, calx_pure (by rfl) (fun u => by go_simp; rfl), ?_⟩
  simp only [Act.put, List.setIfInBounds_toArray, List.set_cons_succ, List.set_cons_zero]
  refine ⟨_, calx_call (fun u du => CG.out u ma ua.out lma) (by rfl) (fun u => by go_simp), ?_⟩
  simp only [Act.put, List.setIfInBounds_toArray, List.set_cons_succ, List.set_cons_zero]
  refine ⟨_, calx_pure (by rfl) (fun u => by go_simp; rfl), ?_⟩
  simp only [Act.put, List.setIfInBounds_toArray, List.set_cons_succ, List.set_cons_zero]
  refine ⟨_, calx_pure (by rfl) (fun u => by go_simp; rfl), ?_⟩
  simp only [Act.put, List.setIfInBounds_toArray, List.set_cons_succ, List.set_cons_zero]
  refine ⟨_, calxInt v4 nx_v4 Tryd.underlying22 (by rfl) rfl (by have h0 := (mach_word hl (i := 16) (by decide)); rw [hpc] at h0; exact h0), ?_⟩
  simp only [Act.put, List.setIfInBounds_toArray, List.set_cons_succ, List.set_cons_zero]
  refine ⟨_, calx_pure (by rfl) (fun u => by go_simp; rfl), ?_⟩
  simp only [Act.put, List.setIfInBounds_toArray, List.set_cons_succ, List.set_cons_zero]
  refine ⟨_, calx_pure (by rfl) (fun u => by go_simp; rfl), ?_⟩
  simp only [Act.put, List.setIfInBounds_toArray, List.set_cons_succ, List.set_cons_zero]
  refine ⟨_, calx_pure (by rfl) (fun u => by go_simp; rfl), ?_⟩
  simp only [Act.put, List.setIfInBounds_toArray, List.set_cons_succ, List.set_cons_zero]
  exact rfl
  have e0 : Dx [] w' w'.drew := Dn.dx (Dn.drawn _)
  refine wpX_end (by kernel_rfl) fun w' dx => NoPanic.normal ?_
  have D := e0.trans (Dn.dx dx)
  clear e0 dx
  replace v4 := v4.dx D nx_v4
  replace v11 := v11.dx D nx_v11
  replace v12 := v12.dx D nx_v12
  replace v13 := v13.dx D nx_v13
  replace v14 := v14.dx D nx_v14
  replace oa := Lib.hid (oa.out.dx D hbs)
  replace ob := Lib.hid (ob.out.dx D hbs)
  replace HD := Lib.hid (HD.out.of_dx D hbl)
  clear D hbs hbl nx_v4 nx_v11 nx_v12 nx_v13 nx_v14
  go_wp2_with (first | ((with_reducible refine load33 v4 hl ?_ ?_ ?_); rfl; rfl) | (go_at_call 12; (with_reducible refine (C3.out _ (hm.dn HD.out) (T.dn HD.out)).mono ?_); rintro e w' ⟨mx, rfl, ox', ux, d'⟩; refine Hid.out ?_))
  refine Lib.hid ?_
  replace v4 := v4.dn d'
  replace v11 := v11.dn d'
  replace v12 := v12.dn d'
  replace v13 := v13.dn d'
  replace v14 := v14.dn d'
  replace oa := Lib.hid (oa.out.dn d')
  replace ob := Lib.hid (ob.out.dn d')
  replace HD := Lib.hid (HD.out.trans d')
  clear d'
  have lmx := ox'.out.len
  have nx : mx.c.getD 16 0 = ((p + 4) % 4294967296) := by rw [ux.out.c]; exact gx.out
  have ox := Lib.hid ox'.out
  go_wp2_with (first | ((with_reducible refine wpList_alloc zeroMach ?_ ?_); rfl; intro b_v15 w' nn; refine Hid.out ?_))
  refine Lib.hid ?_
  have n_v4_v15 := Lib.hid (nn.ne _ v4.lt)
  have n_v11_v15 := Lib.hid (nn.ne _ v11.lt)
  have n_v12_v15 := Lib.hid (nn.ne _ v12.lt)
  have n_v13_v15 := Lib.hid (nn.ne _ v13.lt)
  have n_v14_v15 := Lib.hid (nn.ne _ v14.lt)
  have HL_v15 : Hid (W.heap.size ≤ b_v15) := Lib.hid (Blk.hi nn HD.out.size)
  have d' := nn.dn
  replace v4 := v4.dn d'
  replace v11 := v11.dn d'
  replace v12 := v12.dn d'
  replace v13 := v13.dn d'
  replace v14 := v14.dn d'
  replace oa := Lib.hid (oa.out.dn d')
  replace ob := Lib.hid (ob.out.dn d')
  replace ox := Lib.hid (ox.out.dn d')
  replace HD := Lib.hid (HD.out.trans d')
  have v15 := nn.blk
  clear d' nn
  go_wp2_with (first | ((with_reducible refine wpList_alloc zeroTrap ?_ ?_); rfl; intro b_v16 w' nn; refine Hid.out ?_))
  refine Lib.hid ?_
  have n_v4_v16 := Lib.hid (nn.ne _ v4.lt)
  have n_v11_v16 := Lib.hid (nn.ne _ v11.lt)
  have n_v12_v16 := Lib.hid (nn.ne _ v12.lt)
  have n_v13_v16 := Lib.hid (nn.ne _ v13.lt)
  have n_v14_v16 := Lib.hid (nn.ne _ v14.lt)
  have n_v15_v16 := Lib.hid (nn.ne _ v15.lt)
  have HL_v16 : Hid (W.heap.size ≤ b_v16) := Lib.hid (Blk.hi nn HD.out.size)
  have d' := nn.dn
  replace v4 := v4.dn d'
  replace v11 := v11.dn d'
  replace v12 := v12.dn d'
  replace v13 := v13.dn d'
  replace v14 := v14.dn d'
  replace v15 := v15.dn d'
  replace oa := Lib.hid (oa.out.dn d')
  replace ob := Lib.hid (ob.out.dn d')
  replace ox := Lib.hid (ox.out.dn d')
  replace HD := Lib.hid (HD.out.trans d')
  have v16 := nn.blk
  clear d' nn
  go_wp2_with (first | ((with_reducible refine store33 mx lmx v15 zlen ?_ ?_ ?_ ?_); rfl; rfl; rfl; intro w' r' t'; refine Hid.out ?_))
  refine Lib.hid ?_
  replace oa := Lib.hid (oa.out.trn v15 (NoU8.mach _) t')
  replace ob := Lib.hid (ob.out.trn v15 (NoU8.mach _) t')
  replace ox := Lib.hid (ox.out.trn v15 (NoU8.mach _) t')
  replace v4 := v4.trn t' n_v4_v15.out
  replace v11 := v11.trn t' n_v11_v15.out
  replace v12 := v12.trn t' n_v12_v15.out
  replace v13 := v13.trn t' n_v13_v15.out
  replace v14 := v14.trn t' n_v14_v15.out
  replace v16 := v16.trn t' n_v15_v16.out.symm
  replace HD := Lib.hid (HD.out.trn HL_v15.out t')
  clear t' v15
  have v15 := r'
  clear r'
  go_wp2_with (first | ((with_reducible refine storeTrap (k := 0) (v := 0) v16 ?_ ?_ ?_ ?_); rfl; rfl; rfl; intro w' r' t'; refine Hid.out ?_))
  refine Lib.hid ?_
  replace oa := Lib.hid (oa.out.trn v16 (NoU8.trap _ _) t')
  replace ob := Lib.hid (ob.out.trn v16 (NoU8.trap _ _) t')
  replace ox := Lib.hid (ox.out.trn v16 (NoU8.trap _ _) t')
  replace v4 := v4.trn t' n_v4_v16.out
  replace v11 := v11.trn t' n_v11_v16.out
  replace v12 := v12.trn t' n_v12_v16.out
  replace v13 := v13.trn t' n_v13_v16.out
  replace v14 := v14.trn t' n_v14_v16.out
  replace v15 := v15.trn t' n_v15_v16.out
  replace HD := Lib.hid (HD.out.trn HL_v16.out t')
  clear t' v16
  have v16 := r'
  clear r'
  go_wp2_with (first | ((with_reducible refine load33 v4 hl ?_ ?_ ?_); rfl; rfl) | (go_at_call 12; (with_reducible refine (C4.out _ (hm.dn HD.out) (T.dn HD.out)).mono ?_); rintro e w' ⟨my, rfl, oy', uy, d'⟩; refine Hid.out ?_))
  refine Lib.hid ?_
  replace v4 := v4.dn d'
  replace v11 := v11.dn d'
  replace v12 := v12.dn d'
  replace v13 := v13.dn d'
  replace v14 := v14.dn d'
  replace v15 := v15.dn d'
  replace v16 := v16.dn d'
  replace oa := Lib.hid (oa.out.dn d')
  replace ob := Lib.hid (ob.out.dn d')
  replace ox := Lib.hid (ox.out.dn d')
  replace HD := Lib.hid (HD.out.trans d')
  clear d'
  have lmy := oy'.out.len
  have ny : my.c.getD 16 0 = to_ := by rw [uy.out.c]; exact gy.out
  have oy := Lib.hid oy'.out
  go_wp2_with (first | ((with_reducible refine wpList_alloc zeroMach ?_ ?_); rfl; intro b_v17 w' nn; refine Hid.out ?_))
  refine Lib.hid ?_
  have n_v4_v17 := Lib.hid (nn.ne _ v4.lt)
  have n_v11_v17 := Lib.hid (nn.ne _ v11.lt)
  have n_v12_v17 := Lib.hid (nn.ne _ v12.lt)
  have n_v13_v17 := Lib.hid (nn.ne _ v13.lt)
  have n_v14_v17 := Lib.hid (nn.ne _ v14.lt)
  have n_v15_v17 := Lib.hid (nn.ne _ v15.lt)
  have n_v16_v17 := Lib.hid (nn.ne _ v16.lt)
  have HL_v17 : Hid (W.heap.size ≤ b_v17) := Lib.hid (Blk.hi nn HD.out.size)
  have d' := nn.dn
  replace v4 := v4.dn d'
  replace v11 := v11.dn d'
  replace v12 := v12.dn d'
  replace v13 := v13.dn d'
  replace v14 := v14.dn d'
  replace v15 := v15.dn d'
  replace v16 := v16.dn d'
  replace oa := Lib.hid (oa.out.dn d')
  replace ob := Lib.hid (ob.out.dn d')
  replace ox := Lib.hid (ox.out.dn d')
  replace oy := Lib.hid (oy.out.dn d')
  replace HD := Lib.hid (HD.out.trans d')
  have v17 := nn.blk
  clear d' nn
  go_wp2_with (first | ((with_reducible refine wpList_alloc zeroTrap ?_ ?_); rfl; intro b_v18 w' nn; refine Hid.out ?_))
  refine Lib.hid ?_
  have n_v4_v18 := Lib.hid (nn.ne _ v4.lt)
  have n_v11_v18 := Lib.hid (nn.ne _ v11.lt)
  have n_v12_v18 := Lib.hid (nn.ne _ v12.lt)
  have n_v13_v18 := Lib.hid (nn.ne _ v13.lt)
  have n_v14_v18 := Lib.hid (nn.ne _ v14.lt)
  have n_v15_v18 := Lib.hid (nn.ne _ v15.lt)
  have n_v16_v18 := Lib.hid (nn.ne _ v16.lt)
  have n_v17_v18 := Lib.hid (nn.ne _ v17.lt)
  have HL_v18 : Hid (W.heap.size ≤ b_v18) := Lib.hid (Blk.hi nn HD.out.size)
  have d' := nn.dn
  replace v4 := v4.dn d'
  replace v11 := v11.dn d'
  replace v12 := v12.dn d'
  replace v13 := v13.dn d'
  replace v14 := v14.dn d'
  replace v15 := v15.dn d'
  replace v16 := v16.dn d'
  replace v17 := v17.dn d'
  replace oa := Lib.hid (oa.out.dn d')
  replace ob := Lib.hid (ob.out.dn d')
  replace ox := Lib.hid (ox.out.dn d')
  replace oy := Lib.hid (oy.out.dn d')
  replace HD := Lib.hid (HD.out.trans d')
  have v18 := nn.blk
  clear d' nn
  go_wp2_with (first | ((with_reducible refine store33 my lmy v17 zlen ?_ ?_ ?_ ?_); rfl; rfl; rfl; intro w' r' t'; refine Hid.out ?_))
  refine Lib.hid ?_
  replace oa := Lib.hid (oa.out.trn v17 (NoU8.mach _) t')
  replace ob := Lib.hid (ob.out.trn v17 (NoU8.mach _) t')
  replace ox := Lib.hid (ox.out.trn v17 (NoU8.mach _) t')
  replace oy := Lib.hid (oy.out.trn v17 (NoU8.mach _) t')
  replace v4 := v4.trn t' n_v4_v17.out
  replace v11 := v11.trn t' n_v11_v17.out
  replace v12 := v12.trn t' n_v12_v17.out
  replace v13 := v13.trn t' n_v13_v17.out
  replace v14 := v14.trn t' n_v14_v17.out
  replace v15 := v15.trn t' n_v15_v17.out
  replace v16 := v16.trn t' n_v16_v17.out
  replace v18 := v18.trn t' n_v17_v18.out.symm
  replace HD := Lib.hid (HD.out.trn HL_v17.out t')
  clear t' v17
  have v17 := r'
  clear r'
  go_wp2_with (first | ((with_reducible refine storeTrap (k := 0) (v := 0) v18 ?_ ?_ ?_ ?_); rfl; rfl; rfl; intro w' r' t'; refine Hid.out ?_))
  refine Lib.hid ?_
  replace oa := Lib.hid (oa.out.trn v18 (NoU8.trap _ _) t')
  replace ob := Lib.hid (ob.out.trn v18 (NoU8.trap _ _) t')
  replace ox := Lib.hid (ox.out.trn v18 (NoU8.trap _ _) t')
  replace oy := Lib.hid (oy.out.trn v18 (NoU8.trap _ _) t')
  replace v4 := v4.trn t' n_v4_v18.out
  replace v11 := v11.trn t' n_v11_v18.out
  replace v12 := v12.trn t' n_v12_v18.out
  replace v13 := v13.trn t' n_v13_v18.out
  replace v14 := v14.trn t' n_v14_v18.out
  replace v15 := v15.trn t' n_v15_v18.out
  replace v16 := v16.trn t' n_v16_v18.out
  replace v17 := v17.trn t' n_v17_v18.out
  replace HD := Lib.hid (HD.out.trn HL_v18.out t')
  clear t' v18
  have v18 := r'
  clear r'
  have ck0 := v11.word lma 16 rfl
  rw [na] at ck0
  have ck1 := v4.word hl 16 rfl
  rw [hpc] at ck1
  have ck2 := v15.word lmx 16 rfl
  rw [nx] at ck2
  have ck3 := v17.word lmy 16 rfl
  rw [ny] at ck3
  go_wp2_with fail
  go_ret
  exact ⟨rfl, HD.out⟩
theorem M.F18 {x : Int} (h0 : -131072 ≤ x) (h1 : x < 131072) : Is.M.F x 18 = true := by
  unfold Is.M.F
  rw [decide_eq_true_eq]
  exact ⟨Int.le_trans (by decide) h0, Int.lt_of_lt_of_le h1 (by decide)⟩
theorem M.okReg_in {r : Int} (h0 : 0 ≤ r) (h1 : r ≤ 15) : Is.M.okReg r true = true := by unfold Is.M.okReg; rw [if_pos rfl, decide_eq_true_eq]; exact ⟨h0, h1⟩
theorem M.okImm_in {x : Int} (h0 : -131072 ≤ x) (h1 : x < 131072) : Is.M.okImm x true false = true := by unfold Is.M.okImm; rw [if_pos rfl]; exact M.F18 h0 h1
theorem M.okJ {d x : Int} (d0 : 0 ≤ d) (d1 : d ≤ 15) (h0 : -131072 ≤ x) (h1 : x < 131072) : Is.M.ok 18 d 0 0 x = true := by
  show (true && (Is.M.okReg d true && true && true && Is.M.okImm x true false)) = true
  rw [M.okReg_in d0 d1, M.okImm_in h0 h1]; rfl
theorem M.okI {op d r x : Int} (ho : op = 9 ∨ op = 11 ∨ op = 12 ∨ op = 13 ∨ op = 14 ∨ op = 15 ∨ op = 16 ∨ op = 17 ∨ op = 19) (d0 : 0 ≤ d) (d1 : d ≤ 15) (r0 : 0 ≤ r) (r1 : r ≤ 15) (h0 : -131072 ≤ x) (h1 : x < 131072) : Is.M.ok op d r 0 x = true := by
  have e : Is.M.ok op d r 0 x = (true && (Is.M.okReg d true && Is.M.okReg r true && true && Is.M.okImm x true false)) := by
    rcases ho with rfl | rfl | rfl | rfl | rfl | rfl | rfl | rfl | rfl <;> rfl
  rw [e, M.okReg_in d0 d1, M.okReg_in r0 r1, M.okImm_in h0 h1]; rfl
theorem M.pc_setreg {c : List Int} (r v : Int) : (M.setreg c r v).getD 16 0 = c.getD 16 0 := by
  unfold M.setreg
  split
  · rename_i h
    have := (M.stored_iff r).1 h
    rw [M.getD_set, if_neg (by omega)]
  · rfl
theorem cbWalk (m : Mc) (rd_ far_ ra_ : Int) (W : World) (hm : m.Ok W) (T : Is.Tabs W) (hx : m.xs.length ≤ 9223372036854775807) (hy : m.ys.length ≤ 9223372036854775807) (a0 : 0 ≤ rd_) (a1 : rd_ < 256) (f0 : -2147483648 ≤ far_) (f1 : far_ < 2147483648) (b0 : 0 ≤ ra_) (b1 : ra_ < 256) : Calls Tryd.prog 5 #[.agg (mach m), .int .u8 rd_, .int .i32 far_, .int .u8 ra_] W fun e W' => e = .returned (.bool true) ∧ Dn W W' := by
  cases hf : decide (m.xs.length ≤ 600 ∧ m.ys.length ≤ 600)
  · exact cb_few m rd_ far_ ra_ W hm T hx hy a0 a1 f0 f1 b0 b1 hf
  · have hc := hm.core
    have hl := hm.len
    have im : -131072 < (far_.tmod 131072) ∧ (far_.tmod 131072) < 131072 := by rw [Int.tmod_eq_emod]; split <;> omega
    have dd : 0 < (1 + rd_ % 15) ∧ (1 + rd_ % 15) < 16 := by omega
    have rr : 0 ≤ (ra_ % 16) ∧ (ra_ % 16) ≤ 15 := by omega
    have pp := M.core_pc hc
    have lc : ∀ (r v : Int), (M.setreg m.c r v).length = 29 := fun r v => by rw [M.setreg_len]; exact hl
    have g1 : (M.adv (M.setreg m.c (1 + rd_ % 15) (M.nxt m.c)) (M.far (far_.tmod 131072))).getD 16 0 = (M.pc m.c + M.far (far_.tmod 131072)) % 4294967296 := by
      rw [M.pc_adv (lc _ _)]
      show ((M.setreg m.c (1 + rd_ % 15) (M.nxt m.c)).getD 16 0 + _) % 4294967296 = _
      rw [M.pc_setreg]; rfl
    have gr : M.reg (M.adv (M.setreg m.c (1 + rd_ % 15) (M.nxt m.c)) (M.far (far_.tmod 131072))) (1 + rd_ % 15) = (M.pc m.c + 4) % 4294967296 := by
      rw [M.reg_adv, M.reg_setreg hl dd.1 dd.2]; rfl
    have lc1 : (M.adv (M.setreg m.c (1 + rd_ % 15) (M.nxt m.c)) (M.far (far_.tmod 131072))).length = 29 := by unfold M.adv; rw [List.length_set]; exact lc _ _
    have h1 : M.ex m.c m.xs 18 (1 + rd_ % 15) 0 0 (far_.tmod 131072) = ⟨M.adv (M.setreg m.c (1 + rd_ % 15) (M.nxt m.c)) (M.far (far_.tmod 131072)), m.xs, 0, 0⟩ := M.ex_jal _ _ _ _ _ _
    generalize M.adv (M.setreg m.c (1 + rd_ % 15) (M.nxt m.c)) (M.far (far_.tmod 131072)) = c1 at h1 g1 gr lc1
    have h2 : M.ex c1 m.xs 19 0 (1 + rd_ % 15) 0 0 = ⟨(M.setreg c1 0 (M.nxt c1)).set 16 (M.ea c1 (1 + rd_ % 15) 0), m.xs, 0, 0⟩ := M.ex_jalr _ _ _ _ _ _
    have g2 : ((M.setreg c1 0 (M.nxt c1)).set 16 (M.ea c1 (1 + rd_ % 15) 0)).getD 16 0 = (M.pc m.c + 4) % 4294967296 := by
      rw [M.setreg_zero, M.getD_set, if_pos ⟨rfl, by omega⟩]
      unfold M.ea M.iw
      rw [gr]; omega
    generalize (M.setreg c1 0 (M.nxt c1)).set 16 (M.ea c1 (1 + rd_ % 15) 0) = c2 at h2 g2
    have h3 := M.ex_br m.c m.xs 15 (1 + rd_ % 15) (ra_ % 16) 0 (far_.tmod 131072) (by decide)
    have h4 := M.ex_br m.c m.xs 16 (1 + rd_ % 15) (ra_ % 16) 0 (far_.tmod 131072) (by decide)
    have ht : M.tk 16 (M.reg m.c (1 + rd_ % 15)) (M.reg m.c (ra_ % 16)) = !M.tk 15 (M.reg m.c (1 + rd_ % 15)) (M.reg m.c (ra_ % 16)) := by
      unfold M.tk
      by_cases e : M.reg m.c (1 + rd_ % 15) = M.reg m.c (ra_ % 16) <;> simp [e]
    have q4 : (M.adv m.c 4).getD 16 0 = (M.pc m.c + 4) % 4294967296 := M.pc_adv hl 4
    have qf : (M.adv m.c (M.far (far_.tmod 131072))).getD 16 0 = (M.pc m.c + M.far (far_.tmod 131072)) % 4294967296 := M.pc_adv hl _
    have v1 : Is.M.ok 18 (1 + rd_ % 15) 0 0 (far_.tmod 131072) = true := M.okJ (by omega) (by omega) (by omega) (by omega)
    have v2 : Is.M.ok 19 0 (1 + rd_ % 15) 0 0 = true := M.okI (by simp) (by decide) (by decide) (by omega) (by omega) (by decide) (by decide)
    have v3 : Is.M.ok 15 (1 + rd_ % 15) (ra_ % 16) 0 (far_.tmod 131072) = true := M.okI (by simp) (by omega) (by omega) rr.1 rr.2 (by omega) (by omega)
    have v4 : Is.M.ok 16 (1 + rd_ % 15) (ra_ % 16) 0 (far_.tmod 131072) = true := M.okI (by simp) (by omega) (by omega) rr.1 rr.2 (by omega) (by omega)
    rw [ht] at h4
    cases hk : M.tk 15 (M.reg m.c (1 + rd_ % 15)) (M.reg m.c (ra_ % 16))
    · rw [hk] at h3 h4
      by_cases e : (M.pc m.c + 4) % 4294967296 = (M.pc m.c + M.far (far_.tmod 131072)) % 4294967296
      · exact cb_t m rd_ far_ ra_ W hm T hx hy a0 a1 f0 f1 b0 b1 hf (M.pc m.c) _ pp.1 pp.2 rfl c1 c2 _ _ v1 v2 v3 v4 h1 h2 h3 h4 g1 gr g2 (q4.trans e) (qf.trans e.symm)
      · exact cb_n m rd_ far_ ra_ W hm T hx hy a0 a1 f0 f1 b0 b1 hf (M.pc m.c) _ pp.1 pp.2 rfl c1 c2 _ _ v1 v2 v3 v4 h1 h2 h3 h4 g1 gr g2 q4 qf (beq_eq_false_iff_ne.2 e)
    · rw [hk] at h3 h4
      exact cb_t m rd_ far_ ra_ W hm T hx hy a0 a1 f0 f1 b0 b1 hf (M.pc m.c) _ pp.1 pp.2 rfl c1 c2 _ _ v1 v2 v3 v4 h1 h2 h3 h4 g1 gr g2 qf q4
end Go.Proofs.YtpdahbcjecphmaaDoor
namespace Go.Proofs.YtpdahbcjecphmaaDoor.execCallAndBranch
open Go.ChangeShapes Go.WideShapes Go.ChangeAt Go.RowKit
set_option linter.unusedVariables false

theorem readable : ∀ t ∈ Tryd.f5.params.toList, Tryd.prog.readableRec t = true ∧ t < Tryd.prog.types.size := by
  rw [Tryd.params5]
  intro t ht
  have hall : ([30, 5, 21, 5].all fun t => Tryd.prog.readableRec t && decide (t < Tryd.prog.types.size)) = true := by kernel_rfl
  have h := List.all_eq_true.1 hall t ht
  simp only [Bool.and_eq_true, decide_eq_true_eq] at h
  exact h

theorem said (H : Type) (ds : List (DataW H)) (hl : ds.length = Tryd.f5.params.size) : (Rows.execCallAndBranchSpec.fn H ds).results = [.lit (.bool true)] ∧ (Rows.execCallAndBranchSpec.fn H ds).args = ds ∧ (Rows.execCallAndBranchSpec.fn H ds).vars = [] := by
  rw [Tryd.params5] at hl
  match ds, hl with
  | [d0, d1, d2, d3], _ => exact ⟨rfl, rfl, rfl⟩

set_option maxRecDepth 100000 in
theorem walk {H : Type} {enc : TypeId × Value → H} (W : World) (base : Nat) (args : Array Value) (ds : List (DataW H)) (ps : List MemPlace) (E : Env W)
    (hval : ∀ (j : Nat) t v, Tryd.f5.params[j]? = some t → args[j]? = some v → Value.okWide Tryd.prog W .any base t v)
    (hA : DataW.TrodAll enc Tryd.prog W 0 (fun _ => true) true Tryd.f5.params.toList args.toList ds ps) :
    Calls Tryd.prog 5 args W fun e W' => e = .returned (.bool true) ∧ Dn W W' := by
  rw [Tryd.params5] at hA hval
  obtain ⟨v0, vs0, d0, ds0, p0, q0, hargs, rfl, rfl, h0, r0⟩ := trodAll_cons hA
  obtain ⟨v1, vs1, d1, ds1, p1, q1, rfl, rfl, rfl, h1, r1⟩ := trodAll_cons r0
  obtain ⟨v2, vs2, d2, ds2, p2, q2, rfl, rfl, rfl, h2, r2⟩ := trodAll_cons r1
  obtain ⟨v3, vs3, d3, ds3, p3, q3, rfl, rfl, rfl, h3, r3⟩ := trodAll_cons r2
  obtain ⟨rfl, rfl, rfl⟩ := trodAll_nil r3
  obtain rfl : args = #[v0, v1, v2, v3] := by cases args; simp_all
  obtain ⟨m0, rfl, o0, l0, y0⟩ := open33 (hval 0 30 v0 rfl rfl) h0
  obtain ⟨x1, rfl, rfl, rfl, w1⟩ := open_int Tryd.underlying5 (hval 1 5 v1 rfl rfl) h1
  have bd1 := bounds_u8 w1
  obtain ⟨x2, rfl, rfl, rfl, w2⟩ := open_int Tryd.underlying21 (hval 2 21 v2 rfl rfl) h2
  have bd2 := bounds_i32 w2
  obtain ⟨x3, rfl, rfl, rfl, w3⟩ := open_int Tryd.underlying5 (hval 3 5 v3 rfl rfl) h3
  have bd3 := bounds_u8 w3
  exact cbWalk m0 x1 x2 x3 W o0 E  l0 y0 (by omega) (by omega) (by omega) (by omega) (by omega) (by omega)

set_option maxRecDepth 100000 in
theorem lifted (os : Os) (started : os.Started) (H : Type) (enc : TypeId × Value → H) :
    ReturnsInHanded {} Tryd.checked os 5 .any (fun w args => (Rows.execCallAndBranchSpec.pre enc Tryd.prog Tryd.f5 [] false w args ∧ laidMetH Tryd.prog laidL w) ∧ sizedMet enc Tryd.prog Tryd.f5 (OpenSpec.ofChange Rows.execCallAndBranchSpec) false w args)
      (Rows.execCallAndBranchSpec.post enc Tryd.prog Tryd.f5 false true false false) :=
  returns_of_walk (C := Tryd.checked) rfl own started (by kernel_rfl) Tryd.func5 rfl readable (by kernel_rfl) said
    (ChangeSpec.witness_shaped (enc := enc) (C := Tryd.checked) (os := os) (X := fun w _ => laidMetH Tryd.prog laidL w) false (World.laidAll Tryd.prog os laidL) #[.agg #[.int .u32 0, .int .u32 0, .int .u32 0, .int .u32 0, .int .u32 0, .int .u32 0, .int .u32 0, .int .u32 0, .int .u32 0, .int .u32 0, .int .u32 0, .int .u32 0, .int .u32 0, .int .u32 0, .int .u32 0, .int .u32 0, .int .u32 0, .int .u32 0, .int .u32 0, .int .u32 0, .int .u32 0, .int .u32 0, .int .u32 0, .int .u32 0, .int .u32 0, .int .u32 0, .int .u32 0, .int .u32 0, .int .u32 0, .slice none 0 0, .int .u64 0, .slice none 0 0, .bool false], .int .u8 0, .int .i32 0, .int .u8 0] 8 (World.laidAll_os _ _ _)
      (start_shaped os _) (by kernel_rfl) (by kernel_rfl) (by kernel_rfl) (start_met os _)) walk

theorem over : Rows.ExecCallAndBranchSaid :=
  OpenClaim.holds_of_wide 5 Tryd.f5 rfl rfl rfl rfl rfl rfl rfl ⟨rfl, rfl, rfl, rfl, rfl⟩ rfl rfl rfl rfl rfl (by kernel_rfl) Tryd.func5 (by kernel_rfl)
    (of_decide_eq_true (by kernel_rfl)) (by unfold Func.isWrapper; first | (rw [if_pos (by decide +kernel)]; kernel_rfl) | (rw [if_neg (by decide +kernel)]; exact ⟨rfl, rfl⟩))
    (fun os started H enc _ => lifted os started H enc)

/-- THE STATEMENT -/
theorem proved : Rows.ExecCallAndBranchCardSaid :=
  Claim7.holds_tied_plain_at .later [] [.data, .data] true (true, "91e72f67f80a65227298d3539401025c22714d779c4228c5751d5c899ac93c42") false
    over (fun _ h => by cases h) (by kernel_rfl) (fun _ h => by cases h) execCallAndBranch_row_tie rfl ⟨rfl, rfl⟩ (by kernel_rfl) rfl
    (fun f fn hf hfn => by
      obtain rfl : f = 5 := Option.some.inj ((show Tryd.prog.funcNamed "gaoler/gaolerlaw11.ExecCallAndBranch" = some 5 by kernel_rfl).symm.trans hf) |>.symm
      obtain rfl : fn = Tryd.f5 := (Option.some.inj (Tryd.func5.symm.trans hfn)).symm
      exact ⟨by kernel_rfl, fun j t ht => by
        rw [Tryd.params5] at ht
        have hm : t ∈ [30, 5, 21, 5] := by simpa using Array.mem_of_getElem? ht
        have hall : ([30, 5, 21, 5].all fun u => !Tryd.prog.wantsStandIn u) = true := by kernel_rfl
        exact (show Tryd.prog.wantsStandIn t = false by simpa using List.all_eq_true.1 hall t hm)⟩)
    (by kernel_rfl)
#print axioms proved
end Go.Proofs.YtpdahbcjecphmaaDoor.execCallAndBranch
