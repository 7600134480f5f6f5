/-
  The law ExecConstantsAndBytes of the law package returns true at every input, and each argument reads as it did; conditions: the listed package variables hold what the program's text lays there (the card ties them to it).
-/
import Derived.Test.YtpdahbcjecphmaaDoorCards
import Derived.Test.YtpdahbcjecphmaaDoorTie
import Derived.Test.YtpdahbcjecphmaaDoorPkB
import Derived.Test.YtpdahbcjecphmaaDoorPkZ
import Derived.Test.YtpdahbcjecphmaaDoorPkF
namespace Go.Proofs.YtpdahbcjecphmaaDoor.M
open Go.RowKit
set_option linter.unusedVariables false

/-- a load of the cell that was stored -/
theorem alv_asv {c xs : List Int} {a n v : Int} (hc : Core c) (h : acz c xs.length a n = 0) (a0 : 0 ≤ a) (n0 : 1 ≤ n) (v0 : 0 ≤ v) : alv c (asv c xs a n v) a n = v % 256 ^ n.toNat := by
  have hk := acz_hit h
  have hu := ub_rng hc
  unfold alv
  rw [asv_len, if_pos h]
  unfold asv
  rw [if_pos h]
  generalize hp : (ub c + a).toNat = p
  have hpn : p + n.toNat ≤ xs.length := by omega
  unfold st
  rw [if_pos hpn]
  unfold ld
  rw [wr_len (by rw [bytes_len]; exact hpn), if_pos hpn]
  have e := rd_wr (xs := xs) (bs := bytes v n.toNat) (a := p) (by omega)
  rw [bytes_len] at e
  rw [e, leval_bytes v0]
/-- a load of a word that was not -/
theorem alv_other {c xs : List Int} {a b n v : Int} (hc : Core c) (h : acz c xs.length a n = 0) (a0 : 0 ≤ a) (b0 : 0 ≤ b) (hn : n = 4 ∨ n = 1) (hb : b % 4 = 0) (hab : a / 4 ≠ b / 4) : alv c (asv c xs a n v) b 4 = alv c xs b 4 := by
  have hk := acz_hit h
  have hu := ub_rng hc
  unfold alv
  rw [asv_len]
  split
  · rename_i hB
    have hkb := acz_hit hB
    unfold asv
    rw [if_pos h]
    generalize hp : (ub c + a).toNat = p
    generalize hq : (ub c + b).toNat = q
    have hpn : p + n.toNat ≤ xs.length := by omega
    have hqn : q + (4 : Int).toNat ≤ xs.length := by omega
    unfold st
    rw [if_pos hpn]
    unfold ld
    rw [wr_len (by rw [bytes_len]; exact hpn), if_pos hqn, if_pos hqn]
    congr 1
    by_cases hlt : q < p
    · exact rd_wr_before (by omega) (by omega)
    · exact rd_wr_after (by omega) (by rw [bytes_len]; omega)
  · rfl

theorem csr_adv (c : List Int) (d : Int) (i : Nat) : csr (adv c d) i = csr c i := by
  unfold csr adv
  rw [getD_set, if_neg (by omega)]
theorem csr_setreg (c : List Int) (r v : Int) (i : Nat) : csr (setreg c r v) i = csr c i := by
  unfold csr setreg
  split
  · rename_i h
    have := (stored_iff r).1 h
    rw [getD_set, if_neg (by omega)]
  · rfl
theorem ub_adv (c : List Int) (d : Int) : ub (adv c d) = ub c := by unfold ub sup; rw [csr_adv, csr_adv]
theorem un_adv (c : List Int) (d s : Int) : un (adv c d) s = un c s := by unfold un sup; rw [csr_adv, csr_adv]
theorem acz_adv (c : List Int) (d s a n : Int) : acz (adv c d) s a n = acz c s a n := by unfold acz; rw [ub_adv, un_adv]
theorem alv_adv (c xs : List Int) (d a n : Int) : alv (adv c d) xs a n = alv c xs a n := by unfold alv; rw [acz_adv, ub_adv]
theorem reg_adv (c : List Int) (d i : Int) : reg (adv c d) i = reg c i := by
  unfold reg adv
  split
  · rename_i h
    have := (stored_iff i).1 h
    rw [getD_set, if_neg (by omega)]
  · rfl
theorem reg_zero (c : List Int) : reg c 0 = 0 := rfl
theorem ea_zero (c : List Int) {x : Int} (h0 : 0 ≤ x) (h1 : x < 4294967296) : ea c 0 x = x := by unfold ea iw; rw [reg_zero]; omega
theorem setreg_at {c : List Int} (h : c.length = 29) {r : Int} (r0 : 0 < r) (r1 : r < 16) (v : Int) : (setreg c r v).getD r.toNat 0 = v := by
  unfold setreg
  rw [if_pos ((stored_iff r).2 ⟨r0, r1⟩), getD_set, if_pos ⟨rfl, by omega⟩]
theorem reg_setreg {c : List Int} (h : c.length = 29) {r : Int} (r0 : 0 < r) (r1 : r < 16) (v : Int) : reg (setreg c r v) r = v := by
  rw [reg_in ((stored_iff r).2 ⟨r0, r1⟩), setreg_at h r0 r1]
theorem adv_reg (c : List Int) (d : Int) {i : Nat} (hi : i ≠ 16) : (adv c d).getD i 0 = c.getD i 0 := by unfold adv; rw [getD_set, if_neg (by omega)]
/-- in supervisor mode an address is its own place -/
theorem acz_sup {c : List Int} (h : csr c 0 = 1) (s a n : Int) : acz c s a n = 0 ↔ ¬ (n = 4 ∧ a % 4 ≠ 0) ∧ a + n ≤ s := by
  have hs : sup c = true := by unfold sup; rw [h]; rfl
  have h1 : ub c = 0 := by unfold ub; rw [if_pos hs]
  have h2 : un c s = s := by unfold un; rw [if_pos hs]
  rw [acz_iff, h1, h2]
  omega
end Go.Proofs.YtpdahbcjecphmaaDoor.M
namespace Go.Proofs.YtpdahbcjecphmaaDoor
open Go.ChangeShapes Go.WideShapes Go.ChangeAt Go.RowKit Go.Sort
set_option linter.unusedVariables false

/-- the loop's relation: k of four rounds are done, of what was there nothing has turned -/
def KbRel (w0 : World) (k : Value) (w : World) : Prop := ∃ j : Nat, j ≤ 4 ∧ k = .int .i32 j ∧ Dn w0 w
set_option maxRecDepth 100000 in
set_option maxHeartbeats 2000000 in
theorem kb_s (m : Mc) (v at_ : Int) (W : World) (hm : m.Ok W) (T : Is.Tabs W) (hx : m.xs.length ≤ 9223372036854775807) (hy : m.ys.length ≤ 9223372036854775807) (v0 : 0 ≤ v) (v1 : v < 4294967296) (a0 : 0 ≤ at_) (a1 : at_ < 256) (hf : decide (m.xs.length ≤ 600 ∧ m.ys.length ≤ 600) = true) (h4 : 4 ≤ m.xs.length) (m1 : Mc) (e1 : m1 = { m with c := m.c.set 17 1 }) (hb : v / 16384 < 131072) (p0 : 0 ≤ (4 * (at_ % ((m.xs.length : Int) / 4)))) (p1 : (4 * (at_ % ((m.xs.length : Int) / 4))) ≤ 600) (ca cb cc cd zd : List Int)
    (h1 : M.ex m1.c m.xs 10 1 0 0 (v / 16384) = ⟨ca, m.xs, 0, 0⟩) (h2 : M.ex ca m.xs 9 1 1 0 (v % 16384) = ⟨cb, m.xs, 0, 0⟩) (h3 : M.ex cb m.xs 2 2 1 1 0 = ⟨cc, m.xs, 0, 0⟩) (h5 : M.ex cb m.xs 12 1 0 0 (4 * (at_ % ((m.xs.length : Int) / 4))) = ⟨cd, zd, 0, 0⟩) (zl : zd.length ≤ 600) (g1 : cb.getD 1 0 = v) (g2 : cc.getD 2 0 = 0)
    (h6 : ∀ k : Nat, k < 4 → ∃ ce, M.ex cd zd 13 3 0 0 ((4 * (at_ % ((m.xs.length : Int) / 4))) + k) = ⟨ce, zd, 0, 0⟩ ∧ ce.getD 3 0 = v / 2 ^ (8 * k) % 256) (v1_ : Is.M.ok 10 1 0 0 (v / 16384) = true) (v2_ : Is.M.ok 9 1 1 0 (v % 16384) = true) (v5_ : Is.M.ok 12 1 0 0 (4 * (at_ % ((m.xs.length : Int) / 4))) = true) (v6_ : ∀ k : Nat, k < 4 → Is.M.ok 13 3 0 0 ((4 * (at_ % ((m.xs.length : Int) / 4))) + k) = true) :
    Calls Tryd.prog 6 #[.agg (mach m), .int .u32 v, .int .u8 at_] W fun e W' => e = .returned (.bool true) ∧ Dn W W' := by
  have hl := hm.len
  have hc := hm.core
  have hs : m.xs.length ≤ 600 := by simp only [decide_eq_true_eq] at hf; omega
  have C0 := Lib.hid fun w => fun (t : Is.Tabs w) => awake w t
  have CF := Lib.hid fun w => fun (ow : m.Ok w) => rfew m true w ow hx hy hf
  clear hf
  have l1 : m1.c.length = 29 := by rw [e1]; simp [hl]
  have x1 : m1.xs = m.xs := by rw [e1]
  have hm1 : m1.Ok W := by rw [e1]; exact ⟨hc.set 17 1 (by decide) (by decide), hm.mem, hm.out, hm.t0, hm.t1⟩
  have C1 := Lib.hid fun (w : World) (ow : m1.Ok w) (t : Is.Tabs w) => xRun m1 10 1 0 0 (v / 16384) _ _ rfl x1 ⟨ca, m.xs, 0, 0⟩ h1 (by omega) (by omega) (by omega) v1_ rfl w ow t
  have C2 := Lib.hid fun (w : World) (ma : Mc) (e : Exd m1 ⟨ca, m.xs, 0, 0⟩ ma) (ow : ma.Ok w) (t : Is.Tabs w) => xRun ma 9 1 1 0 (v % 16384) ca m.xs e.c e.xs ⟨cb, m.xs, 0, 0⟩ h2 (by omega) (by omega) (by omega) v2_ rfl w ow t
  have C3 := Lib.hid fun (w : World) (ma mb : Mc) (e : Exd ma ⟨cb, m.xs, 0, 0⟩ mb) (ow : mb.Ok w) (t : Is.Tabs w) => xRun mb 2 2 1 1 0 cb m.xs e.c e.xs ⟨cc, m.xs, 0, 0⟩ h3 (by omega) (by decide) (by decide) rfl rfl w ow t
  have C5 := Lib.hid fun (w : World) (ma mb : Mc) (e : Exd ma ⟨cb, m.xs, 0, 0⟩ mb) (ow : mb.Ok w) (t : Is.Tabs w) => xRun mb 12 1 0 0 (4 * (at_ % ((m.xs.length : Int) / 4))) cb m.xs e.c e.xs ⟨cd, zd, 0, 0⟩ h5 (by omega) (by omega) (by omega) v5_ rfl w ow t
  have C6 := Lib.hid fun (k : Nat) (hk : k < 4) (ce : List Int) (h : M.ex cd zd 13 3 0 0 ((4 * (at_ % ((m.xs.length : Int) / 4))) + k) = ⟨ce, zd, 0, 0⟩) (w : World) (mb md : Mc) (e : Exd mb ⟨cd, zd, 0, 0⟩ md) (ow : md.Ok w) (t : Is.Tabs w) => xRun md 13 3 0 0 ((4 * (at_ % ((m.xs.length : Int) / 4))) + k) cd zd e.c e.xs ⟨ce, zd, 0, 0⟩ h (by omega) (by omega) (by omega) (v6_ k hk) rfl w ow t
  have H6 := Lib.hid h6
  have g1 := Lib.hid g1
  have g2 := Lib.hid g2
  have E1 := Lib.hid e1
  have q0 := eqTrap_self 0 0
  have xl : m1.xs.length = m.xs.length := by rw [x1]
  have len4 : 4 ≤ (m.xs.length : Int) := by omega
  have len6 : (m.xs.length : Int) ≤ 600 := by omega
  have hq1 : ¬ ((m.xs.length : Int) / 4 = 0) := by omega
  have hq2 : ((m.xs.length : Int) / 4 == 0) = false := by rw [beq_eq_false_iff_ne]; exact hq1
  have hq3 : 0 ≤ (m.xs.length : Int) / 4 := by omega
  have hq4 : (m.xs.length : Int) / 4 ≤ 150 := by omega
  have hq5 : 0 ≤ at_ % ((m.xs.length : Int) / 4) := Int.emod_nonneg _ hq1
  have hq6 : at_ % ((m.xs.length : Int) / 4) < 150 := Int.lt_of_lt_of_le (Int.emod_lt_of_pos _ (by omega)) hq4
  have hq7 : decide ((m.xs.length : Int) < 4) = false := by simp; omega
  clear e1 h1 h2 h3 h5 h6 v1_ v2_ v5_ v6_ x1
  have HD := Lib.hid (Dn.refl W)
  go_enter Tryd.func6, Tryd.ntmps6
  go_wp2_with (first | ((with_reducible refine wpList_box (vs := (mach m)) ?_ ?_ ?_); rfl; rfl; intro b_v3 w' nn; refine Hid.out ?_))
  refine Lib.hid ?_
  have HL_v3 : Hid (W.heap.size ≤ b_v3) := Lib.hid (Blk.hi nn HD.out.size)
  have d' := nn.dn
  replace HD := Lib.hid (HD.out.trans d')
  have v3 := nn.blk
  clear d' nn
  go_wp2_with (first | (go_at_call 9; (with_reducible refine (C0.out _ (T.dn HD.out)).mono ?_); rintro e w' ⟨rfl, d'⟩; refine Hid.out ?_))
  refine Lib.hid ?_
  replace v3 := v3.dn d'
  replace HD := Lib.hid (HD.out.trans d')
  clear d'
  go_wp2_with (first | ((with_reducible refine load33 v3 hl ?_ ?_ ?_); rfl; rfl) | (go_at_call 10; (with_reducible refine (CF.out _ (hm.dn HD.out)).mono ?_); rintro e w' ⟨rfl, d'⟩; refine Hid.out ?_))
  refine Lib.hid ?_
  replace v3 := v3.dn d'
  replace HD := Lib.hid (HD.out.trans d')
  clear d'
  have ck0 := v3.mem hl
  go_wp2_with (first | ((with_reducible refine storeWord (i := 17) (u := 1) v3 hl ?_ ?_ ?_ ?_ ?_); rfl; rfl; rfl; rfl; intro w' r' t'; refine Hid.out ?_))
  refine Lib.hid ?_
  clear ck0
  rw [← E1.out] at r'
  replace HD := Lib.hid (HD.out.trn HL_v3.out t')
  clear t' v3
  have v3 := r'
  clear r'
  go_wp2_with (first | ((with_reducible refine load33 v3 l1 ?_ ?_ ?_); rfl; rfl) | (go_at_call 12; (with_reducible refine (C1.out _ (hm1.dn HD.out) (T.dn HD.out)).mono ?_); rintro e w' ⟨ma, rfl, oa', ua, d'⟩; refine Hid.out ?_))
  refine Lib.hid ?_
  replace v3 := v3.dn d'
  replace HD := Lib.hid (HD.out.trans d')
  clear d'
  have lma := oa'.out.len
  have oa := Lib.hid oa'.out
  go_wp2_with (first | ((with_reducible refine wpList_alloc zeroMach ?_ ?_); rfl; intro b_v9 w' nn; refine Hid.out ?_))
  refine Lib.hid ?_
  have n_v3_v9 := Lib.hid (nn.ne _ v3.lt)
  have HL_v9 : Hid (W.heap.size ≤ b_v9) := Lib.hid (Blk.hi nn HD.out.size)
  have d' := nn.dn
  replace v3 := v3.dn d'
  replace oa := Lib.hid (oa.out.dn d')
  replace HD := Lib.hid (HD.out.trans d')
  have v9 := nn.blk
  clear d' nn
  go_wp2_with (first | ((with_reducible refine wpList_alloc zeroTrap ?_ ?_); rfl; intro b_v10 w' nn; refine Hid.out ?_))
  refine Lib.hid ?_
  have n_v3_v10 := Lib.hid (nn.ne _ v3.lt)
  have n_v9_v10 := Lib.hid (nn.ne _ v9.lt)
  have HL_v10 : Hid (W.heap.size ≤ b_v10) := Lib.hid (Blk.hi nn HD.out.size)
  have d' := nn.dn
  replace v3 := v3.dn d'
  replace v9 := v9.dn d'
  replace oa := Lib.hid (oa.out.dn d')
  replace HD := Lib.hid (HD.out.trans d')
  have v10 := nn.blk
  clear d' nn
  go_wp2_with (first | ((with_reducible refine store33 ma lma v9 zlen ?_ ?_ ?_ ?_); rfl; rfl; rfl; intro w' r' t'; refine Hid.out ?_))
  refine Lib.hid ?_
  replace oa := Lib.hid (oa.out.trn v9 (NoU8.mach _) t')
  replace v3 := v3.trn t' n_v3_v9.out
  replace v10 := v10.trn t' n_v9_v10.out.symm
  replace HD := Lib.hid (HD.out.trn HL_v9.out t')
  clear t' v9
  have v9 := r'
  clear r'
  go_wp2_with (first | ((with_reducible refine storeTrap (k := 0) (v := 0) v10 ?_ ?_ ?_ ?_); rfl; rfl; rfl; intro w' r' t'; refine Hid.out ?_))
  refine Lib.hid ?_
  replace oa := Lib.hid (oa.out.trn v10 (NoU8.trap _ _) t')
  replace v3 := v3.trn t' n_v3_v10.out
  replace v9 := v9.trn t' n_v9_v10.out
  replace HD := Lib.hid (HD.out.trn HL_v10.out t')
  clear t' v10
  have v10 := r'
  clear r'
  go_wp2_with (first | ((with_reducible refine load33 v9 lma ?_ ?_ ?_); rfl; rfl) | (go_at_call 12; (with_reducible refine (C2.out _ ma ua.out oa.out (T.dn HD.out)).mono ?_); rintro e w' ⟨mb, rfl, ob', ub, d'⟩; refine Hid.out ?_))
  refine Lib.hid ?_
  replace v3 := v3.dn d'
  replace v9 := v9.dn d'
  replace v10 := v10.dn d'
  replace oa := Lib.hid (oa.out.dn d')
  replace HD := Lib.hid (HD.out.trans d')
  clear d'
  have lmb := ob'.out.len
  have nb : mb.c.getD 1 0 = v := by rw [ub.out.c]; exact g1.out
  have ob := Lib.hid ob'.out
  go_wp2_with (first | ((with_reducible refine wpList_alloc zeroMach ?_ ?_); rfl; intro b_v11 w' nn; refine Hid.out ?_))
  refine Lib.hid ?_
  have n_v3_v11 := Lib.hid (nn.ne _ v3.lt)
  have n_v9_v11 := Lib.hid (nn.ne _ v9.lt)
  have n_v10_v11 := Lib.hid (nn.ne _ v10.lt)
  have HL_v11 : Hid (W.heap.size ≤ b_v11) := Lib.hid (Blk.hi nn HD.out.size)
  have d' := nn.dn
  replace v3 := v3.dn d'
  replace v9 := v9.dn d'
  replace v10 := v10.dn d'
  replace oa := Lib.hid (oa.out.dn d')
  replace ob := Lib.hid (ob.out.dn d')
  replace HD := Lib.hid (HD.out.trans d')
  have v11 := nn.blk
  clear d' nn
  go_wp2_with (first | ((with_reducible refine wpList_alloc zeroTrap ?_ ?_); rfl; intro b_v12 w' nn; refine Hid.out ?_))
  refine Lib.hid ?_
  have n_v3_v12 := Lib.hid (nn.ne _ v3.lt)
  have n_v9_v12 := Lib.hid (nn.ne _ v9.lt)
  have n_v10_v12 := Lib.hid (nn.ne _ v10.lt)
  have n_v11_v12 := Lib.hid (nn.ne _ v11.lt)
  have HL_v12 : Hid (W.heap.size ≤ b_v12) := Lib.hid (Blk.hi nn HD.out.size)
  have d' := nn.dn
  replace v3 := v3.dn d'
  replace v9 := v9.dn d'
  replace v10 := v10.dn d'
  replace v11 := v11.dn d'
  replace oa := Lib.hid (oa.out.dn d')
  replace ob := Lib.hid (ob.out.dn d')
  replace HD := Lib.hid (HD.out.trans d')
  have v12 := nn.blk
  clear d' nn
  go_wp2_with (first | ((with_reducible refine store33 mb lmb v11 zlen ?_ ?_ ?_ ?_); rfl; rfl; rfl; intro w' r' t'; refine Hid.out ?_))
  refine Lib.hid ?_
  replace oa := Lib.hid (oa.out.trn v11 (NoU8.mach _) t')
  replace ob := Lib.hid (ob.out.trn v11 (NoU8.mach _) t')
  replace v3 := v3.trn t' n_v3_v11.out
  replace v9 := v9.trn t' n_v9_v11.out
  replace v10 := v10.trn t' n_v10_v11.out
  replace v12 := v12.trn t' n_v11_v12.out.symm
  replace HD := Lib.hid (HD.out.trn HL_v11.out t')
  clear t' v11
  have v11 := r'
  clear r'
  go_wp2_with (first | ((with_reducible refine storeTrap (k := 0) (v := 0) v12 ?_ ?_ ?_ ?_); rfl; rfl; rfl; intro w' r' t'; refine Hid.out ?_))
  refine Lib.hid ?_
  replace oa := Lib.hid (oa.out.trn v12 (NoU8.trap _ _) t')
  replace ob := Lib.hid (ob.out.trn v12 (NoU8.trap _ _) t')
  replace v3 := v3.trn t' n_v3_v12.out
  replace v9 := v9.trn t' n_v9_v12.out
  replace v10 := v10.trn t' n_v10_v12.out
  replace v11 := v11.trn t' n_v11_v12.out
  replace HD := Lib.hid (HD.out.trn HL_v12.out t')
  clear t' v12
  have v12 := r'
  clear r'
  go_wp2_with (first | ((with_reducible refine load33 v11 lmb ?_ ?_ ?_); rfl; rfl) | (go_at_call 12; (with_reducible refine (C3.out _ ma mb ub.out ob.out (T.dn HD.out)).mono ?_); rintro e w' ⟨mc, rfl, oc', uc, d'⟩; refine Hid.out ?_))
  refine Lib.hid ?_
  replace v3 := v3.dn d'
  replace v9 := v9.dn d'
  replace v10 := v10.dn d'
  replace v11 := v11.dn d'
  replace v12 := v12.dn d'
  replace oa := Lib.hid (oa.out.dn d')
  replace ob := Lib.hid (ob.out.dn d')
  replace HD := Lib.hid (HD.out.trans d')
  clear d'
  have lmc := oc'.out.len
  have nc : mc.c.getD 2 0 = 0 := by rw [uc.out.c]; exact g2.out
  have oc := Lib.hid oc'.out
  go_wp2_with (first | ((with_reducible refine wpList_alloc zeroMach ?_ ?_); rfl; intro b_v13 w' nn; refine Hid.out ?_))
  refine Lib.hid ?_
  have n_v3_v13 := Lib.hid (nn.ne _ v3.lt)
  have n_v9_v13 := Lib.hid (nn.ne _ v9.lt)
  have n_v10_v13 := Lib.hid (nn.ne _ v10.lt)
  have n_v11_v13 := Lib.hid (nn.ne _ v11.lt)
  have n_v12_v13 := Lib.hid (nn.ne _ v12.lt)
  have HL_v13 : Hid (W.heap.size ≤ b_v13) := Lib.hid (Blk.hi nn HD.out.size)
  have d' := nn.dn
  replace v3 := v3.dn d'
  replace v9 := v9.dn d'
  replace v10 := v10.dn d'
  replace v11 := v11.dn d'
  replace v12 := v12.dn d'
  replace oa := Lib.hid (oa.out.dn d')
  replace ob := Lib.hid (ob.out.dn d')
  replace oc := Lib.hid (oc.out.dn d')
  replace HD := Lib.hid (HD.out.trans d')
  have v13 := nn.blk
  clear d' nn
  go_wp2_with (first | ((with_reducible refine wpList_alloc zeroTrap ?_ ?_); rfl; intro b_v14 w' nn; refine Hid.out ?_))
  refine Lib.hid ?_
  have n_v3_v14 := Lib.hid (nn.ne _ v3.lt)
  have n_v9_v14 := Lib.hid (nn.ne _ v9.lt)
  have n_v10_v14 := Lib.hid (nn.ne _ v10.lt)
  have n_v11_v14 := Lib.hid (nn.ne _ v11.lt)
  have n_v12_v14 := Lib.hid (nn.ne _ v12.lt)
  have n_v13_v14 := Lib.hid (nn.ne _ v13.lt)
  have HL_v14 : Hid (W.heap.size ≤ b_v14) := Lib.hid (Blk.hi nn HD.out.size)
  have d' := nn.dn
  replace v3 := v3.dn d'
  replace v9 := v9.dn d'
  replace v10 := v10.dn d'
  replace v11 := v11.dn d'
  replace v12 := v12.dn d'
  replace v13 := v13.dn d'
  replace oa := Lib.hid (oa.out.dn d')
  replace ob := Lib.hid (ob.out.dn d')
  replace oc := Lib.hid (oc.out.dn d')
  replace HD := Lib.hid (HD.out.trans d')
  have v14 := nn.blk
  clear d' nn
  go_wp2_with (first | ((with_reducible refine store33 mc lmc v13 zlen ?_ ?_ ?_ ?_); rfl; rfl; rfl; intro w' r' t'; refine Hid.out ?_))
  refine Lib.hid ?_
  replace oa := Lib.hid (oa.out.trn v13 (NoU8.mach _) t')
  replace ob := Lib.hid (ob.out.trn v13 (NoU8.mach _) t')
  replace oc := Lib.hid (oc.out.trn v13 (NoU8.mach _) t')
  replace v3 := v3.trn t' n_v3_v13.out
  replace v9 := v9.trn t' n_v9_v13.out
  replace v10 := v10.trn t' n_v10_v13.out
  replace v11 := v11.trn t' n_v11_v13.out
  replace v12 := v12.trn t' n_v12_v13.out
  replace v14 := v14.trn t' n_v13_v14.out.symm
  replace HD := Lib.hid (HD.out.trn HL_v13.out t')
  clear t' v13
  have v13 := r'
  clear r'
  go_wp2_with (first | ((with_reducible refine storeTrap (k := 0) (v := 0) v14 ?_ ?_ ?_ ?_); rfl; rfl; rfl; intro w' r' t'; refine Hid.out ?_))
  refine Lib.hid ?_
  replace oa := Lib.hid (oa.out.trn v14 (NoU8.trap _ _) t')
  replace ob := Lib.hid (ob.out.trn v14 (NoU8.trap _ _) t')
  replace oc := Lib.hid (oc.out.trn v14 (NoU8.trap _ _) t')
  replace v3 := v3.trn t' n_v3_v14.out
  replace v9 := v9.trn t' n_v9_v14.out
  replace v10 := v10.trn t' n_v10_v14.out
  replace v11 := v11.trn t' n_v11_v14.out
  replace v12 := v12.trn t' n_v12_v14.out
  replace v13 := v13.trn t' n_v13_v14.out
  replace HD := Lib.hid (HD.out.trn HL_v14.out t')
  clear t' v14
  have v14 := r'
  clear r'
  have ck0 := v11.word lmb 1 rfl
  rw [nb] at ck0
  have ck1 := v13.word lmc 2 rfl
  rw [nc] at ck1
  have ck2 := v3.mem l1
  go_wp2_with (first | ((with_reducible refine load33 v11 lmb ?_ ?_ ?_); rfl; rfl) | (go_at_call 12; (with_reducible refine (C5.out _ ma mb ub.out ob.out (T.dn HD.out)).mono ?_); rintro e w' ⟨md, rfl, od', ud, d'⟩; refine Hid.out ?_))
  refine Lib.hid ?_
  clear ck0 ck1 ck2
  replace v3 := v3.dn d'
  replace v9 := v9.dn d'
  replace v10 := v10.dn d'
  replace v11 := v11.dn d'
  replace v12 := v12.dn d'
  replace v13 := v13.dn d'
  replace v14 := v14.dn d'
  replace oa := Lib.hid (oa.out.dn d')
  replace ob := Lib.hid (ob.out.dn d')
  replace oc := Lib.hid (oc.out.dn d')
  replace HD := Lib.hid (HD.out.trans d')
  clear d'
  have lmd := od'.out.len
  have od := Lib.hid od'.out
  go_wp2_with (first | ((with_reducible refine wpList_alloc zeroMach ?_ ?_); rfl; intro b_v16 w' nn; refine Hid.out ?_))
  refine Lib.hid ?_
  have n_v3_v16 := Lib.hid (nn.ne _ v3.lt)
  have n_v9_v16 := Lib.hid (nn.ne _ v9.lt)
  have n_v10_v16 := Lib.hid (nn.ne _ v10.lt)
  have n_v11_v16 := Lib.hid (nn.ne _ v11.lt)
  have n_v12_v16 := Lib.hid (nn.ne _ v12.lt)
  have n_v13_v16 := Lib.hid (nn.ne _ v13.lt)
  have n_v14_v16 := Lib.hid (nn.ne _ v14.lt)
  have HL_v16 : Hid (W.heap.size ≤ b_v16) := Lib.hid (Blk.hi nn HD.out.size)
  have d' := nn.dn
  replace v3 := v3.dn d'
  replace v9 := v9.dn d'
  replace v10 := v10.dn d'
  replace v11 := v11.dn d'
  replace v12 := v12.dn d'
  replace v13 := v13.dn d'
  replace v14 := v14.dn d'
  replace oa := Lib.hid (oa.out.dn d')
  replace ob := Lib.hid (ob.out.dn d')
  replace oc := Lib.hid (oc.out.dn d')
  replace od := Lib.hid (od.out.dn d')
  replace HD := Lib.hid (HD.out.trans d')
  have v16 := nn.blk
  clear d' nn
  go_wp2_with (first | ((with_reducible refine wpList_alloc zeroTrap ?_ ?_); rfl; intro b_v17 w' nn; refine Hid.out ?_))
  refine Lib.hid ?_
  have n_v3_v17 := Lib.hid (nn.ne _ v3.lt)
  have n_v9_v17 := Lib.hid (nn.ne _ v9.lt)
  have n_v10_v17 := Lib.hid (nn.ne _ v10.lt)
  have n_v11_v17 := Lib.hid (nn.ne _ v11.lt)
  have n_v12_v17 := Lib.hid (nn.ne _ v12.lt)
  have n_v13_v17 := Lib.hid (nn.ne _ v13.lt)
  have n_v14_v17 := Lib.hid (nn.ne _ v14.lt)
  have n_v16_v17 := Lib.hid (nn.ne _ v16.lt)
  have HL_v17 : Hid (W.heap.size ≤ b_v17) := Lib.hid (Blk.hi nn HD.out.size)
  have d' := nn.dn
  replace v3 := v3.dn d'
  replace v9 := v9.dn d'
  replace v10 := v10.dn d'
  replace v11 := v11.dn d'
  replace v12 := v12.dn d'
  replace v13 := v13.dn d'
  replace v14 := v14.dn d'
  replace v16 := v16.dn d'
  replace oa := Lib.hid (oa.out.dn d')
  replace ob := Lib.hid (ob.out.dn d')
  replace oc := Lib.hid (oc.out.dn d')
  replace od := Lib.hid (od.out.dn d')
  replace HD := Lib.hid (HD.out.trans d')
  have v17 := nn.blk
  clear d' nn
  go_wp2_with (first | ((with_reducible refine store33 md lmd v16 zlen ?_ ?_ ?_ ?_); rfl; rfl; rfl; intro w' r' t'; refine Hid.out ?_))
  refine Lib.hid ?_
  replace oa := Lib.hid (oa.out.trn v16 (NoU8.mach _) t')
  replace ob := Lib.hid (ob.out.trn v16 (NoU8.mach _) t')
  replace oc := Lib.hid (oc.out.trn v16 (NoU8.mach _) t')
  replace od := Lib.hid (od.out.trn v16 (NoU8.mach _) t')
  replace v3 := v3.trn t' n_v3_v16.out
  replace v9 := v9.trn t' n_v9_v16.out
  replace v10 := v10.trn t' n_v10_v16.out
  replace v11 := v11.trn t' n_v11_v16.out
  replace v12 := v12.trn t' n_v12_v16.out
  replace v13 := v13.trn t' n_v13_v16.out
  replace v14 := v14.trn t' n_v14_v16.out
  replace v17 := v17.trn t' n_v16_v17.out.symm
  replace HD := Lib.hid (HD.out.trn HL_v16.out t')
  clear t' v16
  have v16 := r'
  clear r'
  go_wp2_with (first | ((with_reducible refine storeTrap (k := 0) (v := 0) v17 ?_ ?_ ?_ ?_); rfl; rfl; rfl; intro w' r' t'; refine Hid.out ?_))
  refine Lib.hid ?_
  replace oa := Lib.hid (oa.out.trn v17 (NoU8.trap _ _) t')
  replace ob := Lib.hid (ob.out.trn v17 (NoU8.trap _ _) t')
  replace oc := Lib.hid (oc.out.trn v17 (NoU8.trap _ _) t')
  replace od := Lib.hid (od.out.trn v17 (NoU8.trap _ _) t')
  replace v3 := v3.trn t' n_v3_v17.out
  replace v9 := v9.trn t' n_v9_v17.out
  replace v10 := v10.trn t' n_v10_v17.out
  replace v11 := v11.trn t' n_v11_v17.out
  replace v12 := v12.trn t' n_v12_v17.out
  replace v13 := v13.trn t' n_v13_v17.out
  replace v14 := v14.trn t' n_v14_v17.out
  replace v16 := v16.trn t' n_v16_v17.out
  replace HD := Lib.hid (HD.out.trn HL_v17.out t')
  clear t' v17
  have v17 := r'
  clear r'
  go_wp2_with (first | ((with_reducible refine loadTrap v17 ?_ ?_ ?_); rfl; rfl) | fail)
  go_loopw [18] (fun k w => KbRel w' k w) (fun k _ => 4 - (intOf k).toNat)
  case atStart => exact ⟨0, by decide, rfl, Dn.refl _⟩
  case round =>
    obtain ⟨j, hj, rfl, dn⟩ := hrel
    replace v3 := v3.dn dn
    replace v9 := v9.dn dn
    replace v10 := v10.dn dn
    replace v11 := v11.dn dn
    replace v12 := v12.dn dn
    replace v13 := v13.dn dn
    replace v14 := v14.dn dn
    replace v16 := v16.dn dn
    replace v17 := v17.dn dn
    replace oa := Lib.hid (oa.out.dn dn)
    replace ob := Lib.hid (ob.out.dn dn)
    replace oc := Lib.hid (oc.out.dn dn)
    replace od := Lib.hid (od.out.dn dn)
    have HW := Lib.hid (HD.out.trans dn)
    have DJ := Lib.hid dn
    clear HD dn
    by_cases hlt : j < 4
    · have hlt2 : (j : Int) < 4 := by omega
      obtain ⟨ce, he1, he2⟩ := H6.out j hlt
      have C7 := Lib.hid (C6.out j hlt ce he1)
      have g3 := Lib.hid he2
      clear he1 he2
      have TR := T.dn HW.out
      have HD := Lib.hid (Dn.refl wr)
      go_wp2_with (first | ((with_reducible refine load33 v16 lmd ?_ ?_ ?_); rfl; rfl) | (go_at_call 12; (with_reducible refine (C7.out _ mb md ud.out od.out (TR.dn HD.out)).mono ?_); rintro e w' ⟨me, rfl, oe', ue, d'⟩; refine Hid.out ?_))
      refine Lib.hid ?_
      replace v3 := v3.dn d'
      replace v9 := v9.dn d'
      replace v10 := v10.dn d'
      replace v11 := v11.dn d'
      replace v12 := v12.dn d'
      replace v13 := v13.dn d'
      replace v14 := v14.dn d'
      replace v16 := v16.dn d'
      replace v17 := v17.dn d'
      replace oa := Lib.hid (oa.out.dn d')
      replace ob := Lib.hid (ob.out.dn d')
      replace oc := Lib.hid (oc.out.dn d')
      replace od := Lib.hid (od.out.dn d')
      replace HD := Lib.hid (HD.out.trans d')
      clear d'
      have lme := oe'.out.len
      have ne : me.c.getD 3 0 = (v / 2 ^ (8 * j)).tmod 256 := by rw [ue.out.c, Int.tmod_eq_emod_of_nonneg (Int.ediv_nonneg v0 (Int.le_of_lt (M.pow_pos _)))]; exact g3.out
      have oe := Lib.hid oe'.out
      go_wp2_with (first | ((with_reducible refine wpList_alloc zeroMach ?_ ?_); rfl; intro b_v19 w' nn; refine Hid.out ?_))
      refine Lib.hid ?_
      have n_v3_v19 := Lib.hid (nn.ne _ v3.lt)
      have n_v9_v19 := Lib.hid (nn.ne _ v9.lt)
      have n_v10_v19 := Lib.hid (nn.ne _ v10.lt)
      have n_v11_v19 := Lib.hid (nn.ne _ v11.lt)
      have n_v12_v19 := Lib.hid (nn.ne _ v12.lt)
      have n_v13_v19 := Lib.hid (nn.ne _ v13.lt)
      have n_v14_v19 := Lib.hid (nn.ne _ v14.lt)
      have n_v16_v19 := Lib.hid (nn.ne _ v16.lt)
      have n_v17_v19 := Lib.hid (nn.ne _ v17.lt)
      have HL_v19 : Hid (wr.heap.size ≤ b_v19) := Lib.hid (Blk.hi nn HD.out.size)
      have d' := nn.dn
      replace v3 := v3.dn d'
      replace v9 := v9.dn d'
      replace v10 := v10.dn d'
      replace v11 := v11.dn d'
      replace v12 := v12.dn d'
      replace v13 := v13.dn d'
      replace v14 := v14.dn d'
      replace v16 := v16.dn d'
      replace v17 := v17.dn d'
      replace oa := Lib.hid (oa.out.dn d')
      replace ob := Lib.hid (ob.out.dn d')
      replace oc := Lib.hid (oc.out.dn d')
      replace od := Lib.hid (od.out.dn d')
      replace oe := Lib.hid (oe.out.dn d')
      replace HD := Lib.hid (HD.out.trans d')
      have v19 := nn.blk
      clear d' nn
      go_wp2_with (first | ((with_reducible refine wpList_alloc zeroTrap ?_ ?_); rfl; intro b_v20 w' nn; refine Hid.out ?_))
      refine Lib.hid ?_
      have n_v3_v20 := Lib.hid (nn.ne _ v3.lt)
      have n_v9_v20 := Lib.hid (nn.ne _ v9.lt)
      have n_v10_v20 := Lib.hid (nn.ne _ v10.lt)
      have n_v11_v20 := Lib.hid (nn.ne _ v11.lt)
      have n_v12_v20 := Lib.hid (nn.ne _ v12.lt)
      have n_v13_v20 := Lib.hid (nn.ne _ v13.lt)
      have n_v14_v20 := Lib.hid (nn.ne _ v14.lt)
      have n_v16_v20 := Lib.hid (nn.ne _ v16.lt)
      have n_v17_v20 := Lib.hid (nn.ne _ v17.lt)
      have n_v19_v20 := Lib.hid (nn.ne _ v19.lt)
      have HL_v20 : Hid (wr.heap.size ≤ b_v20) := Lib.hid (Blk.hi nn HD.out.size)
      have d' := nn.dn
      replace v3 := v3.dn d'
      replace v9 := v9.dn d'
      replace v10 := v10.dn d'
      replace v11 := v11.dn d'
      replace v12 := v12.dn d'
      replace v13 := v13.dn d'
      replace v14 := v14.dn d'
      replace v16 := v16.dn d'
      replace v17 := v17.dn d'
      replace v19 := v19.dn d'
      replace oa := Lib.hid (oa.out.dn d')
      replace ob := Lib.hid (ob.out.dn d')
      replace oc := Lib.hid (oc.out.dn d')
      replace od := Lib.hid (od.out.dn d')
      replace oe := Lib.hid (oe.out.dn d')
      replace HD := Lib.hid (HD.out.trans d')
      have v20 := nn.blk
      clear d' nn
      go_wp2_with (first | ((with_reducible refine store33 me lme v19 zlen ?_ ?_ ?_ ?_); rfl; rfl; rfl; intro w' r' t'; refine Hid.out ?_))
      refine Lib.hid ?_
      replace oa := Lib.hid (oa.out.trn v19 (NoU8.mach _) t')
      replace ob := Lib.hid (ob.out.trn v19 (NoU8.mach _) t')
      replace oc := Lib.hid (oc.out.trn v19 (NoU8.mach _) t')
      replace od := Lib.hid (od.out.trn v19 (NoU8.mach _) t')
      replace oe := Lib.hid (oe.out.trn v19 (NoU8.mach _) t')
      replace v3 := v3.trn t' n_v3_v19.out
      replace v9 := v9.trn t' n_v9_v19.out
      replace v10 := v10.trn t' n_v10_v19.out
      replace v11 := v11.trn t' n_v11_v19.out
      replace v12 := v12.trn t' n_v12_v19.out
      replace v13 := v13.trn t' n_v13_v19.out
      replace v14 := v14.trn t' n_v14_v19.out
      replace v16 := v16.trn t' n_v16_v19.out
      replace v17 := v17.trn t' n_v17_v19.out
      replace v20 := v20.trn t' n_v19_v20.out.symm
      replace HD := Lib.hid (HD.out.trn HL_v19.out t')
      clear t' v19
      have v19 := r'
      clear r'
      go_wp2_with (first | ((with_reducible refine storeTrap (k := 0) (v := 0) v20 ?_ ?_ ?_ ?_); rfl; rfl; rfl; intro w' r' t'; refine Hid.out ?_))
      refine Lib.hid ?_
      replace oa := Lib.hid (oa.out.trn v20 (NoU8.trap _ _) t')
      replace ob := Lib.hid (ob.out.trn v20 (NoU8.trap _ _) t')
      replace oc := Lib.hid (oc.out.trn v20 (NoU8.trap _ _) t')
      replace od := Lib.hid (od.out.trn v20 (NoU8.trap _ _) t')
      replace oe := Lib.hid (oe.out.trn v20 (NoU8.trap _ _) t')
      replace v3 := v3.trn t' n_v3_v20.out
      replace v9 := v9.trn t' n_v9_v20.out
      replace v10 := v10.trn t' n_v10_v20.out
      replace v11 := v11.trn t' n_v11_v20.out
      replace v12 := v12.trn t' n_v12_v20.out
      replace v13 := v13.trn t' n_v13_v20.out
      replace v14 := v14.trn t' n_v14_v20.out
      replace v16 := v16.trn t' n_v16_v20.out
      replace v17 := v17.trn t' n_v17_v20.out
      replace v19 := v19.trn t' n_v19_v20.out
      replace HD := Lib.hid (HD.out.trn HL_v20.out t')
      clear t' v20
      have v20 := r'
      clear r'
      have ck0 := v19.word lme 3 rfl
      rw [ne] at ck0
      go_wp2_with (first | ((with_reducible refine loadTrap v20 ?_ ?_ ?_); rfl; rfl) | fail)
      exact ⟨⟨j + 1, by omega, by go_num, DJ.out.trans HD.out⟩, by simp [intOf]; omega⟩
    · have hlt2 : ¬ (j : Int) < 4 := by omega
      have HD := HW
      go_wp2_with fail
      go_ret
      exact ⟨rfl, HD.out⟩
set_option maxRecDepth 100000 in
set_option maxHeartbeats 2000000 in
theorem kb_b (m : Mc) (v at_ : Int) (W : World) (hm : m.Ok W) (T : Is.Tabs W) (hx : m.xs.length ≤ 9223372036854775807) (hy : m.ys.length ≤ 9223372036854775807) (v0 : 0 ≤ v) (v1 : v < 4294967296) (a0 : 0 ≤ at_) (a1 : at_ < 256) (hf : decide (m.xs.length ≤ 600 ∧ m.ys.length ≤ 600) = true) (h4 : 4 ≤ m.xs.length) (m1 : Mc) (e1 : m1 = { m with c := m.c.set 17 1 }) (hb : 131072 ≤ v / 16384) (p0 : 0 ≤ (4 * (at_ % ((m.xs.length : Int) / 4)))) (p1 : (4 * (at_ % ((m.xs.length : Int) / 4))) ≤ 600) (ca cb cc cd zd : List Int)
    (h1 : M.ex m1.c m.xs 10 1 0 0 (v / 16384 - 262144) = ⟨ca, m.xs, 0, 0⟩) (h2 : M.ex ca m.xs 9 1 1 0 (v % 16384) = ⟨cb, m.xs, 0, 0⟩) (h3 : M.ex cb m.xs 2 2 1 1 0 = ⟨cc, m.xs, 0, 0⟩) (h5 : M.ex cb m.xs 12 1 0 0 (4 * (at_ % ((m.xs.length : Int) / 4))) = ⟨cd, zd, 0, 0⟩) (zl : zd.length ≤ 600) (g1 : cb.getD 1 0 = v) (g2 : cc.getD 2 0 = 0)
    (h6 : ∀ k : Nat, k < 4 → ∃ ce, M.ex cd zd 13 3 0 0 ((4 * (at_ % ((m.xs.length : Int) / 4))) + k) = ⟨ce, zd, 0, 0⟩ ∧ ce.getD 3 0 = v / 2 ^ (8 * k) % 256) (v1_ : Is.M.ok 10 1 0 0 (v / 16384 - 262144) = true) (v2_ : Is.M.ok 9 1 1 0 (v % 16384) = true) (v5_ : Is.M.ok 12 1 0 0 (4 * (at_ % ((m.xs.length : Int) / 4))) = true) (v6_ : ∀ k : Nat, k < 4 → Is.M.ok 13 3 0 0 ((4 * (at_ % ((m.xs.length : Int) / 4))) + k) = true) :
    Calls Tryd.prog 6 #[.agg (mach m), .int .u32 v, .int .u8 at_] W fun e W' => e = .returned (.bool true) ∧ Dn W W' := by
  have hl := hm.len
  have hc := hm.core
  have hs : m.xs.length ≤ 600 := by simp only [decide_eq_true_eq] at hf; omega
  have C0 := Lib.hid fun w => fun (t : Is.Tabs w) => awake w t
  have CF := Lib.hid fun w => fun (ow : m.Ok w) => rfew m true w ow hx hy hf
  clear hf
  have l1 : m1.c.length = 29 := by rw [e1]; simp [hl]
  have x1 : m1.xs = m.xs := by rw [e1]
  have hm1 : m1.Ok W := by rw [e1]; exact ⟨hc.set 17 1 (by decide) (by decide), hm.mem, hm.out, hm.t0, hm.t1⟩
  have C1 := Lib.hid fun (w : World) (ow : m1.Ok w) (t : Is.Tabs w) => xRun m1 10 1 0 0 (v / 16384 - 262144) _ _ rfl x1 ⟨ca, m.xs, 0, 0⟩ h1 (by omega) (by omega) (by omega) v1_ rfl w ow t
  have C2 := Lib.hid fun (w : World) (ma : Mc) (e : Exd m1 ⟨ca, m.xs, 0, 0⟩ ma) (ow : ma.Ok w) (t : Is.Tabs w) => xRun ma 9 1 1 0 (v % 16384) ca m.xs e.c e.xs ⟨cb, m.xs, 0, 0⟩ h2 (by omega) (by omega) (by omega) v2_ rfl w ow t
  have C3 := Lib.hid fun (w : World) (ma mb : Mc) (e : Exd ma ⟨cb, m.xs, 0, 0⟩ mb) (ow : mb.Ok w) (t : Is.Tabs w) => xRun mb 2 2 1 1 0 cb m.xs e.c e.xs ⟨cc, m.xs, 0, 0⟩ h3 (by omega) (by decide) (by decide) rfl rfl w ow t
  have C5 := Lib.hid fun (w : World) (ma mb : Mc) (e : Exd ma ⟨cb, m.xs, 0, 0⟩ mb) (ow : mb.Ok w) (t : Is.Tabs w) => xRun mb 12 1 0 0 (4 * (at_ % ((m.xs.length : Int) / 4))) cb m.xs e.c e.xs ⟨cd, zd, 0, 0⟩ h5 (by omega) (by omega) (by omega) v5_ rfl w ow t
  have C6 := Lib.hid fun (k : Nat) (hk : k < 4) (ce : List Int) (h : M.ex cd zd 13 3 0 0 ((4 * (at_ % ((m.xs.length : Int) / 4))) + k) = ⟨ce, zd, 0, 0⟩) (w : World) (mb md : Mc) (e : Exd mb ⟨cd, zd, 0, 0⟩ md) (ow : md.Ok w) (t : Is.Tabs w) => xRun md 13 3 0 0 ((4 * (at_ % ((m.xs.length : Int) / 4))) + k) cd zd e.c e.xs ⟨ce, zd, 0, 0⟩ h (by omega) (by omega) (by omega) (v6_ k hk) rfl w ow t
  have H6 := Lib.hid h6
  have g1 := Lib.hid g1
  have g2 := Lib.hid g2
  have E1 := Lib.hid e1
  have q0 := eqTrap_self 0 0
  have xl : m1.xs.length = m.xs.length := by rw [x1]
  have len4 : 4 ≤ (m.xs.length : Int) := by omega
  have len6 : (m.xs.length : Int) ≤ 600 := by omega
  have hq1 : ¬ ((m.xs.length : Int) / 4 = 0) := by omega
  have hq2 : ((m.xs.length : Int) / 4 == 0) = false := by rw [beq_eq_false_iff_ne]; exact hq1
  have hq3 : 0 ≤ (m.xs.length : Int) / 4 := by omega
  have hq4 : (m.xs.length : Int) / 4 ≤ 150 := by omega
  have hq5 : 0 ≤ at_ % ((m.xs.length : Int) / 4) := Int.emod_nonneg _ hq1
  have hq6 : at_ % ((m.xs.length : Int) / 4) < 150 := Int.lt_of_lt_of_le (Int.emod_lt_of_pos _ (by omega)) hq4
  have hq7 : decide ((m.xs.length : Int) < 4) = false := by simp; omega
  clear e1 h1 h2 h3 h5 h6 v1_ v2_ v5_ v6_ x1
  have HD := Lib.hid (Dn.refl W)
  go_enter Tryd.func6, Tryd.ntmps6
  go_wp2_with (first | ((with_reducible refine wpList_box (vs := (mach m)) ?_ ?_ ?_); rfl; rfl; intro b_v3 w' nn; refine Hid.out ?_))
  refine Lib.hid ?_
  have HL_v3 : Hid (W.heap.size ≤ b_v3) := Lib.hid (Blk.hi nn HD.out.size)
  have d' := nn.dn
  replace HD := Lib.hid (HD.out.trans d')
  have v3 := nn.blk
  clear d' nn
  go_wp2_with (first | (go_at_call 9; (with_reducible refine (C0.out _ (T.dn HD.out)).mono ?_); rintro e w' ⟨rfl, d'⟩; refine Hid.out ?_))
  refine Lib.hid ?_
  replace v3 := v3.dn d'
  replace HD := Lib.hid (HD.out.trans d')
  clear d'
  go_wp2_with (first | ((with_reducible refine load33 v3 hl ?_ ?_ ?_); rfl; rfl) | (go_at_call 10; (with_reducible refine (CF.out _ (hm.dn HD.out)).mono ?_); rintro e w' ⟨rfl, d'⟩; refine Hid.out ?_))
  refine Lib.hid ?_
  replace v3 := v3.dn d'
  replace HD := Lib.hid (HD.out.trans d')
  clear d'
  have ck0 := v3.mem hl
  go_wp2_with (first | ((with_reducible refine storeWord (i := 17) (u := 1) v3 hl ?_ ?_ ?_ ?_ ?_); rfl; rfl; rfl; rfl; intro w' r' t'; refine Hid.out ?_))
  refine Lib.hid ?_
  clear ck0
  rw [← E1.out] at r'
  replace HD := Lib.hid (HD.out.trn HL_v3.out t')
  clear t' v3
  have v3 := r'
  clear r'
  go_wp2_with (first | ((with_reducible refine load33 v3 l1 ?_ ?_ ?_); rfl; rfl) | (go_at_call 12; (with_reducible refine (C1.out _ (hm1.dn HD.out) (T.dn HD.out)).mono ?_); rintro e w' ⟨ma, rfl, oa', ua, d'⟩; refine Hid.out ?_))
  refine Lib.hid ?_
  replace v3 := v3.dn d'
  replace HD := Lib.hid (HD.out.trans d')
  clear d'
  have lma := oa'.out.len
  have oa := Lib.hid oa'.out
  go_wp2_with (first | ((with_reducible refine wpList_alloc zeroMach ?_ ?_); rfl; intro b_v9 w' nn; refine Hid.out ?_))
  refine Lib.hid ?_
  have n_v3_v9 := Lib.hid (nn.ne _ v3.lt)
  have HL_v9 : Hid (W.heap.size ≤ b_v9) := Lib.hid (Blk.hi nn HD.out.size)
  have d' := nn.dn
  replace v3 := v3.dn d'
  replace oa := Lib.hid (oa.out.dn d')
  replace HD := Lib.hid (HD.out.trans d')
  have v9 := nn.blk
  clear d' nn
  go_wp2_with (first | ((with_reducible refine wpList_alloc zeroTrap ?_ ?_); rfl; intro b_v10 w' nn; refine Hid.out ?_))
  refine Lib.hid ?_
  have n_v3_v10 := Lib.hid (nn.ne _ v3.lt)
  have n_v9_v10 := Lib.hid (nn.ne _ v9.lt)
  have HL_v10 : Hid (W.heap.size ≤ b_v10) := Lib.hid (Blk.hi nn HD.out.size)
  have d' := nn.dn
  replace v3 := v3.dn d'
  replace v9 := v9.dn d'
  replace oa := Lib.hid (oa.out.dn d')
  replace HD := Lib.hid (HD.out.trans d')
  have v10 := nn.blk
  clear d' nn
  go_wp2_with (first | ((with_reducible refine store33 ma lma v9 zlen ?_ ?_ ?_ ?_); rfl; rfl; rfl; intro w' r' t'; refine Hid.out ?_))
  refine Lib.hid ?_
  replace oa := Lib.hid (oa.out.trn v9 (NoU8.mach _) t')
  replace v3 := v3.trn t' n_v3_v9.out
  replace v10 := v10.trn t' n_v9_v10.out.symm
  replace HD := Lib.hid (HD.out.trn HL_v9.out t')
  clear t' v9
  have v9 := r'
  clear r'
  go_wp2_with (first | ((with_reducible refine storeTrap (k := 0) (v := 0) v10 ?_ ?_ ?_ ?_); rfl; rfl; rfl; intro w' r' t'; refine Hid.out ?_))
  refine Lib.hid ?_
  replace oa := Lib.hid (oa.out.trn v10 (NoU8.trap _ _) t')
  replace v3 := v3.trn t' n_v3_v10.out
  replace v9 := v9.trn t' n_v9_v10.out
  replace HD := Lib.hid (HD.out.trn HL_v10.out t')
  clear t' v10
  have v10 := r'
  clear r'
  go_wp2_with (first | ((with_reducible refine load33 v9 lma ?_ ?_ ?_); rfl; rfl) | (go_at_call 12; (with_reducible refine (C2.out _ ma ua.out oa.out (T.dn HD.out)).mono ?_); rintro e w' ⟨mb, rfl, ob', ub, d'⟩; refine Hid.out ?_))
  refine Lib.hid ?_
  replace v3 := v3.dn d'
  replace v9 := v9.dn d'
  replace v10 := v10.dn d'
  replace oa := Lib.hid (oa.out.dn d')
  replace HD := Lib.hid (HD.out.trans d')
  clear d'
  have lmb := ob'.out.len
  have nb : mb.c.getD 1 0 = v := by rw [ub.out.c]; exact g1.out
  have ob := Lib.hid ob'.out
  go_wp2_with (first | ((with_reducible refine wpList_alloc zeroMach ?_ ?_); rfl; intro b_v11 w' nn; refine Hid.out ?_))
  refine Lib.hid ?_
  have n_v3_v11 := Lib.hid (nn.ne _ v3.lt)
  have n_v9_v11 := Lib.hid (nn.ne _ v9.lt)
  have n_v10_v11 := Lib.hid (nn.ne _ v10.lt)
  have HL_v11 : Hid (W.heap.size ≤ b_v11) := Lib.hid (Blk.hi nn HD.out.size)
  have d' := nn.dn
  replace v3 := v3.dn d'
  replace v9 := v9.dn d'
  replace v10 := v10.dn d'
  replace oa := Lib.hid (oa.out.dn d')
  replace ob := Lib.hid (ob.out.dn d')
  replace HD := Lib.hid (HD.out.trans d')
  have v11 := nn.blk
  clear d' nn
  go_wp2_with (first | ((with_reducible refine wpList_alloc zeroTrap ?_ ?_); rfl; intro b_v12 w' nn; refine Hid.out ?_))
  refine Lib.hid ?_
  have n_v3_v12 := Lib.hid (nn.ne _ v3.lt)
  have n_v9_v12 := Lib.hid (nn.ne _ v9.lt)
  have n_v10_v12 := Lib.hid (nn.ne _ v10.lt)
  have n_v11_v12 := Lib.hid (nn.ne _ v11.lt)
  have HL_v12 : Hid (W.heap.size ≤ b_v12) := Lib.hid (Blk.hi nn HD.out.size)
  have d' := nn.dn
  replace v3 := v3.dn d'
  replace v9 := v9.dn d'
  replace v10 := v10.dn d'
  replace v11 := v11.dn d'
  replace oa := Lib.hid (oa.out.dn d')
  replace ob := Lib.hid (ob.out.dn d')
  replace HD := Lib.hid (HD.out.trans d')
  have v12 := nn.blk
  clear d' nn
  go_wp2_with (first | ((with_reducible refine store33 mb lmb v11 zlen ?_ ?_ ?_ ?_); rfl; rfl; rfl; intro w' r' t'; refine Hid.out ?_))
  refine Lib.hid ?_
  replace oa := Lib.hid (oa.out.trn v11 (NoU8.mach _) t')
  replace ob := Lib.hid (ob.out.trn v11 (NoU8.mach _) t')
  replace v3 := v3.trn t' n_v3_v11.out
  replace v9 := v9.trn t' n_v9_v11.out
  replace v10 := v10.trn t' n_v10_v11.out
  replace v12 := v12.trn t' n_v11_v12.out.symm
  replace HD := Lib.hid (HD.out.trn HL_v11.out t')
  clear t' v11
  have v11 := r'
  clear r'
  go_wp2_with (first | ((with_reducible refine storeTrap (k := 0) (v := 0) v12 ?_ ?_ ?_ ?_); rfl; rfl; rfl; intro w' r' t'; refine Hid.out ?_))
  refine Lib.hid ?_
  replace oa := Lib.hid (oa.out.trn v12 (NoU8.trap _ _) t')
  replace ob := Lib.hid (ob.out.trn v12 (NoU8.trap _ _) t')
  replace v3 := v3.trn t' n_v3_v12.out
  replace v9 := v9.trn t' n_v9_v12.out
  replace v10 := v10.trn t' n_v10_v12.out
  replace v11 := v11.trn t' n_v11_v12.out
  replace HD := Lib.hid (HD.out.trn HL_v12.out t')
  clear t' v12
  have v12 := r'
  clear r'
  go_wp2_with (first | ((with_reducible refine load33 v11 lmb ?_ ?_ ?_); rfl; rfl) | (go_at_call 12; (with_reducible refine (C3.out _ ma mb ub.out ob.out (T.dn HD.out)).mono ?_); rintro e w' ⟨mc, rfl, oc', uc, d'⟩; refine Hid.out ?_))
  refine Lib.hid ?_
  replace v3 := v3.dn d'
  replace v9 := v9.dn d'
  replace v10 := v10.dn d'
  replace v11 := v11.dn d'
  replace v12 := v12.dn d'
  replace oa := Lib.hid (oa.out.dn d')
  replace ob := Lib.hid (ob.out.dn d')
  replace HD := Lib.hid (HD.out.trans d')
  clear d'
  have lmc := oc'.out.len
  have nc : mc.c.getD 2 0 = 0 := by rw [uc.out.c]; exact g2.out
  have oc := Lib.hid oc'.out
  go_wp2_with (first | ((with_reducible refine wpList_alloc zeroMach ?_ ?_); rfl; intro b_v13 w' nn; refine Hid.out ?_))
  refine Lib.hid ?_
  have n_v3_v13 := Lib.hid (nn.ne _ v3.lt)
  have n_v9_v13 := Lib.hid (nn.ne _ v9.lt)
  have n_v10_v13 := Lib.hid (nn.ne _ v10.lt)
  have n_v11_v13 := Lib.hid (nn.ne _ v11.lt)
  have n_v12_v13 := Lib.hid (nn.ne _ v12.lt)
  have HL_v13 : Hid (W.heap.size ≤ b_v13) := Lib.hid (Blk.hi nn HD.out.size)
  have d' := nn.dn
  replace v3 := v3.dn d'
  replace v9 := v9.dn d'
  replace v10 := v10.dn d'
  replace v11 := v11.dn d'
  replace v12 := v12.dn d'
  replace oa := Lib.hid (oa.out.dn d')
  replace ob := Lib.hid (ob.out.dn d')
  replace oc := Lib.hid (oc.out.dn d')
  replace HD := Lib.hid (HD.out.trans d')
  have v13 := nn.blk
  clear d' nn
  go_wp2_with (first | ((with_reducible refine wpList_alloc zeroTrap ?_ ?_); rfl; intro b_v14 w' nn; refine Hid.out ?_))
  refine Lib.hid ?_
  have n_v3_v14 := Lib.hid (nn.ne _ v3.lt)
  have n_v9_v14 := Lib.hid (nn.ne _ v9.lt)
  have n_v10_v14 := Lib.hid (nn.ne _ v10.lt)
  have n_v11_v14 := Lib.hid (nn.ne _ v11.lt)
  have n_v12_v14 := Lib.hid (nn.ne _ v12.lt)
  have n_v13_v14 := Lib.hid (nn.ne _ v13.lt)
  have HL_v14 : Hid (W.heap.size ≤ b_v14) := Lib.hid (Blk.hi nn HD.out.size)
  have d' := nn.dn
  replace v3 := v3.dn d'
  replace v9 := v9.dn d'
  replace v10 := v10.dn d'
  replace v11 := v11.dn d'
  replace v12 := v12.dn d'
  replace v13 := v13.dn d'
  replace oa := Lib.hid (oa.out.dn d')
  replace ob := Lib.hid (ob.out.dn d')
  replace oc := Lib.hid (oc.out.dn d')
  replace HD := Lib.hid (HD.out.trans d')
  have v14 := nn.blk
  clear d' nn
  go_wp2_with (first | ((with_reducible refine store33 mc lmc v13 zlen ?_ ?_ ?_ ?_); rfl; rfl; rfl; intro w' r' t'; refine Hid.out ?_))
  refine Lib.hid ?_
  replace oa := Lib.hid (oa.out.trn v13 (NoU8.mach _) t')
  replace ob := Lib.hid (ob.out.trn v13 (NoU8.mach _) t')
  replace oc := Lib.hid (oc.out.trn v13 (NoU8.mach _) t')
  replace v3 := v3.trn t' n_v3_v13.out
  replace v9 := v9.trn t' n_v9_v13.out
  replace v10 := v10.trn t' n_v10_v13.out
  replace v11 := v11.trn t' n_v11_v13.out
  replace v12 := v12.trn t' n_v12_v13.out
  replace v14 := v14.trn t' n_v13_v14.out.symm
  replace HD := Lib.hid (HD.out.trn HL_v13.out t')
  clear t' v13
  have v13 := r'
  clear r'
  go_wp2_with (first | ((with_reducible refine storeTrap (k := 0) (v := 0) v14 ?_ ?_ ?_ ?_); rfl; rfl; rfl; intro w' r' t'; refine Hid.out ?_))
  refine Lib.hid ?_
  replace oa := Lib.hid (oa.out.trn v14 (NoU8.trap _ _) t')
  replace ob := Lib.hid (ob.out.trn v14 (NoU8.trap _ _) t')
  replace oc := Lib.hid (oc.out.trn v14 (NoU8.trap _ _) t')
  replace v3 := v3.trn t' n_v3_v14.out
  replace v9 := v9.trn t' n_v9_v14.out
  replace v10 := v10.trn t' n_v10_v14.out
  replace v11 := v11.trn t' n_v11_v14.out
  replace v12 := v12.trn t' n_v12_v14.out
  replace v13 := v13.trn t' n_v13_v14.out
  replace HD := Lib.hid (HD.out.trn HL_v14.out t')
  clear t' v14
  have v14 := r'
  clear r'
  have ck0 := v11.word lmb 1 rfl
  rw [nb] at ck0
  have ck1 := v13.word lmc 2 rfl
  rw [nc] at ck1
  have ck2 := v3.mem l1
  go_wp2_with (first | ((with_reducible refine load33 v11 lmb ?_ ?_ ?_); rfl; rfl) | (go_at_call 12; (with_reducible refine (C5.out _ ma mb ub.out ob.out (T.dn HD.out)).mono ?_); rintro e w' ⟨md, rfl, od', ud, d'⟩; refine Hid.out ?_))
  refine Lib.hid ?_
  clear ck0 ck1 ck2
  replace v3 := v3.dn d'
  replace v9 := v9.dn d'
  replace v10 := v10.dn d'
  replace v11 := v11.dn d'
  replace v12 := v12.dn d'
  replace v13 := v13.dn d'
  replace v14 := v14.dn d'
  replace oa := Lib.hid (oa.out.dn d')
  replace ob := Lib.hid (ob.out.dn d')
  replace oc := Lib.hid (oc.out.dn d')
  replace HD := Lib.hid (HD.out.trans d')
  clear d'
  have lmd := od'.out.len
  have od := Lib.hid od'.out
  go_wp2_with (first | ((with_reducible refine wpList_alloc zeroMach ?_ ?_); rfl; intro b_v16 w' nn; refine Hid.out ?_))
  refine Lib.hid ?_
  have n_v3_v16 := Lib.hid (nn.ne _ v3.lt)
  have n_v9_v16 := Lib.hid (nn.ne _ v9.lt)
  have n_v10_v16 := Lib.hid (nn.ne _ v10.lt)
  have n_v11_v16 := Lib.hid (nn.ne _ v11.lt)
  have n_v12_v16 := Lib.hid (nn.ne _ v12.lt)
  have n_v13_v16 := Lib.hid (nn.ne _ v13.lt)
  have n_v14_v16 := Lib.hid (nn.ne _ v14.lt)
  have HL_v16 : Hid (W.heap.size ≤ b_v16) := Lib.hid (Blk.hi nn HD.out.size)
  have d' := nn.dn
  replace v3 := v3.dn d'
  replace v9 := v9.dn d'
  replace v10 := v10.dn d'
  replace v11 := v11.dn d'
  replace v12 := v12.dn d'
  replace v13 := v13.dn d'
  replace v14 := v14.dn d'
  replace oa := Lib.hid (oa.out.dn d')
  replace ob := Lib.hid (ob.out.dn d')
  replace oc := Lib.hid (oc.out.dn d')
  replace od := Lib.hid (od.out.dn d')
  replace HD := Lib.hid (HD.out.trans d')
  have v16 := nn.blk
  clear d' nn
  go_wp2_with (first | ((with_reducible refine wpList_alloc zeroTrap ?_ ?_); rfl; intro b_v17 w' nn; refine Hid.out ?_))
  refine Lib.hid ?_
  have n_v3_v17 := Lib.hid (nn.ne _ v3.lt)
  have n_v9_v17 := Lib.hid (nn.ne _ v9.lt)
  have n_v10_v17 := Lib.hid (nn.ne _ v10.lt)
  have n_v11_v17 := Lib.hid (nn.ne _ v11.lt)
  have n_v12_v17 := Lib.hid (nn.ne _ v12.lt)
  have n_v13_v17 := Lib.hid (nn.ne _ v13.lt)
  have n_v14_v17 := Lib.hid (nn.ne _ v14.lt)
  have n_v16_v17 := Lib.hid (nn.ne _ v16.lt)
  have HL_v17 : Hid (W.heap.size ≤ b_v17) := Lib.hid (Blk.hi nn HD.out.size)
  have d' := nn.dn
  replace v3 := v3.dn d'
  replace v9 := v9.dn d'
  replace v10 := v10.dn d'
  replace v11 := v11.dn d'
  replace v12 := v12.dn d'
  replace v13 := v13.dn d'
  replace v14 := v14.dn d'
  replace v16 := v16.dn d'
  replace oa := Lib.hid (oa.out.dn d')
  replace ob := Lib.hid (ob.out.dn d')
  replace oc := Lib.hid (oc.out.dn d')
  replace od := Lib.hid (od.out.dn d')
  replace HD := Lib.hid (HD.out.trans d')
  have v17 := nn.blk
  clear d' nn
  go_wp2_with (first | ((with_reducible refine store33 md lmd v16 zlen ?_ ?_ ?_ ?_); rfl; rfl; rfl; intro w' r' t'; refine Hid.out ?_))
  refine Lib.hid ?_
  replace oa := Lib.hid (oa.out.trn v16 (NoU8.mach _) t')
  replace ob := Lib.hid (ob.out.trn v16 (NoU8.mach _) t')
  replace oc := Lib.hid (oc.out.trn v16 (NoU8.mach _) t')
  replace od := Lib.hid (od.out.trn v16 (NoU8.mach _) t')
  replace v3 := v3.trn t' n_v3_v16.out
  replace v9 := v9.trn t' n_v9_v16.out
  replace v10 := v10.trn t' n_v10_v16.out
  replace v11 := v11.trn t' n_v11_v16.out
  replace v12 := v12.trn t' n_v12_v16.out
  replace v13 := v13.trn t' n_v13_v16.out
  replace v14 := v14.trn t' n_v14_v16.out
  replace v17 := v17.trn t' n_v16_v17.out.symm
  replace HD := Lib.hid (HD.out.trn HL_v16.out t')
  clear t' v16
  have v16 := r'
  clear r'
  go_wp2_with (first | ((with_reducible refine storeTrap (k := 0) (v := 0) v17 ?_ ?_ ?_ ?_); rfl; rfl; rfl; intro w' r' t'; refine Hid.out ?_))
  refine Lib.hid ?_
  replace oa := Lib.hid (oa.out.trn v17 (NoU8.trap _ _) t')
  replace ob := Lib.hid (ob.out.trn v17 (NoU8.trap _ _) t')
  replace oc := Lib.hid (oc.out.trn v17 (NoU8.trap _ _) t')
  replace od := Lib.hid (od.out.trn v17 (NoU8.trap _ _) t')
  replace v3 := v3.trn t' n_v3_v17.out
  replace v9 := v9.trn t' n_v9_v17.out
  replace v10 := v10.trn t' n_v10_v17.out
  replace v11 := v11.trn t' n_v11_v17.out
  replace v12 := v12.trn t' n_v12_v17.out
  replace v13 := v13.trn t' n_v13_v17.out
  replace v14 := v14.trn t' n_v14_v17.out
  replace v16 := v16.trn t' n_v16_v17.out
  replace HD := Lib.hid (HD.out.trn HL_v17.out t')
  clear t' v17
  have v17 := r'
  clear r'
  go_wp2_with (first | ((with_reducible refine loadTrap v17 ?_ ?_ ?_); rfl; rfl) | fail)
  go_loopw [18] (fun k w => KbRel w' k w) (fun k _ => 4 - (intOf k).toNat)
  case atStart => exact ⟨0, by decide, rfl, Dn.refl _⟩
  case round =>
    obtain ⟨j, hj, rfl, dn⟩ := hrel
    replace v3 := v3.dn dn
    replace v9 := v9.dn dn
    replace v10 := v10.dn dn
    replace v11 := v11.dn dn
    replace v12 := v12.dn dn
    replace v13 := v13.dn dn
    replace v14 := v14.dn dn
    replace v16 := v16.dn dn
    replace v17 := v17.dn dn
    replace oa := Lib.hid (oa.out.dn dn)
    replace ob := Lib.hid (ob.out.dn dn)
    replace oc := Lib.hid (oc.out.dn dn)
    replace od := Lib.hid (od.out.dn dn)
    have HW := Lib.hid (HD.out.trans dn)
    have DJ := Lib.hid dn
    clear HD dn
    by_cases hlt : j < 4
    · have hlt2 : (j : Int) < 4 := by omega
      obtain ⟨ce, he1, he2⟩ := H6.out j hlt
      have C7 := Lib.hid (C6.out j hlt ce he1)
      have g3 := Lib.hid he2
      clear he1 he2
      have TR := T.dn HW.out
      have HD := Lib.hid (Dn.refl wr)
      go_wp2_with (first | ((with_reducible refine load33 v16 lmd ?_ ?_ ?_); rfl; rfl) | (go_at_call 12; (with_reducible refine (C7.out _ mb md ud.out od.out (TR.dn HD.out)).mono ?_); rintro e w' ⟨me, rfl, oe', ue, d'⟩; refine Hid.out ?_))
      refine Lib.hid ?_
      replace v3 := v3.dn d'
      replace v9 := v9.dn d'
      replace v10 := v10.dn d'
      replace v11 := v11.dn d'
      replace v12 := v12.dn d'
      replace v13 := v13.dn d'
      replace v14 := v14.dn d'
      replace v16 := v16.dn d'
      replace v17 := v17.dn d'
      replace oa := Lib.hid (oa.out.dn d')
      replace ob := Lib.hid (ob.out.dn d')
      replace oc := Lib.hid (oc.out.dn d')
      replace od := Lib.hid (od.out.dn d')
      replace HD := Lib.hid (HD.out.trans d')
      clear d'
      have lme := oe'.out.len
      have ne : me.c.getD 3 0 = (v / 2 ^ (8 * j)).tmod 256 := by rw [ue.out.c, Int.tmod_eq_emod_of_nonneg (Int.ediv_nonneg v0 (Int.le_of_lt (M.pow_pos _)))]; exact g3.out
      have oe := Lib.hid oe'.out
      go_wp2_with (first | ((with_reducible refine wpList_alloc zeroMach ?_ ?_); rfl; intro b_v19 w' nn; refine Hid.out ?_))
      refine Lib.hid ?_
      have n_v3_v19 := Lib.hid (nn.ne _ v3.lt)
      have n_v9_v19 := Lib.hid (nn.ne _ v9.lt)
      have n_v10_v19 := Lib.hid (nn.ne _ v10.lt)
      have n_v11_v19 := Lib.hid (nn.ne _ v11.lt)
      have n_v12_v19 := Lib.hid (nn.ne _ v12.lt)
      have n_v13_v19 := Lib.hid (nn.ne _ v13.lt)
      have n_v14_v19 := Lib.hid (nn.ne _ v14.lt)
      have n_v16_v19 := Lib.hid (nn.ne _ v16.lt)
      have n_v17_v19 := Lib.hid (nn.ne _ v17.lt)
      have HL_v19 : Hid (wr.heap.size ≤ b_v19) := Lib.hid (Blk.hi nn HD.out.size)
      have d' := nn.dn
      replace v3 := v3.dn d'
      replace v9 := v9.dn d'
      replace v10 := v10.dn d'
      replace v11 := v11.dn d'
      replace v12 := v12.dn d'
      replace v13 := v13.dn d'
      replace v14 := v14.dn d'
      replace v16 := v16.dn d'
      replace v17 := v17.dn d'
      replace oa := Lib.hid (oa.out.dn d')
      replace ob := Lib.hid (ob.out.dn d')
      replace oc := Lib.hid (oc.out.dn d')
      replace od := Lib.hid (od.out.dn d')
      replace oe := Lib.hid (oe.out.dn d')
      replace HD := Lib.hid (HD.out.trans d')
      have v19 := nn.blk
      clear d' nn
      go_wp2_with (first | ((with_reducible refine wpList_alloc zeroTrap ?_ ?_); rfl; intro b_v20 w' nn; refine Hid.out ?_))
      refine Lib.hid ?_
      have n_v3_v20 := Lib.hid (nn.ne _ v3.lt)
      have n_v9_v20 := Lib.hid (nn.ne _ v9.lt)
      have n_v10_v20 := Lib.hid (nn.ne _ v10.lt)
      have n_v11_v20 := Lib.hid (nn.ne _ v11.lt)
      have n_v12_v20 := Lib.hid (nn.ne _ v12.lt)
      have n_v13_v20 := Lib.hid (nn.ne _ v13.lt)
      have n_v14_v20 := Lib.hid (nn.ne _ v14.lt)
      have n_v16_v20 := Lib.hid (nn.ne _ v16.lt)
      have n_v17_v20 := Lib.hid (nn.ne _ v17.lt)
      have n_v19_v20 := Lib.hid (nn.ne _ v19.lt)
      have HL_v20 : Hid (wr.heap.size ≤ b_v20) := Lib.hid (Blk.hi nn HD.out.size)
      have d' := nn.dn
      replace v3 := v3.dn d'
      replace v9 := v9.dn d'
      replace v10 := v10.dn d'
      replace v11 := v11.dn d'
      replace v12 := v12.dn d'
      replace v13 := v13.dn d'
      replace v14 := v14.dn d'
      replace v16 := v16.dn d'
      replace v17 := v17.dn d'
      replace v19 := v19.dn d'
      replace oa := Lib.hid (oa.out.dn d')
      replace ob := Lib.hid (ob.out.dn d')
      replace oc := Lib.hid (oc.out.dn d')
      replace od := Lib.hid (od.out.dn d')
      replace oe := Lib.hid (oe.out.dn d')
      replace HD := Lib.hid (HD.out.trans d')
      have v20 := nn.blk
      clear d' nn
      go_wp2_with (first | ((with_reducible refine store33 me lme v19 zlen ?_ ?_ ?_ ?_); rfl; rfl; rfl; intro w' r' t'; refine Hid.out ?_))
      refine Lib.hid ?_
      replace oa := Lib.hid (oa.out.trn v19 (NoU8.mach _) t')
      replace ob := Lib.hid (ob.out.trn v19 (NoU8.mach _) t')
      replace oc := Lib.hid (oc.out.trn v19 (NoU8.mach _) t')
      replace od := Lib.hid (od.out.trn v19 (NoU8.mach _) t')
      replace oe := Lib.hid (oe.out.trn v19 (NoU8.mach _) t')
      replace v3 := v3.trn t' n_v3_v19.out
      replace v9 := v9.trn t' n_v9_v19.out
      replace v10 := v10.trn t' n_v10_v19.out
      replace v11 := v11.trn t' n_v11_v19.out
      replace v12 := v12.trn t' n_v12_v19.out
      replace v13 := v13.trn t' n_v13_v19.out
      replace v14 := v14.trn t' n_v14_v19.out
      replace v16 := v16.trn t' n_v16_v19.out
      replace v17 := v17.trn t' n_v17_v19.out
      replace v20 := v20.trn t' n_v19_v20.out.symm
      replace HD := Lib.hid (HD.out.trn HL_v19.out t')
      clear t' v19
      have v19 := r'
      clear r'
      go_wp2_with (first | ((with_reducible refine storeTrap (k := 0) (v := 0) v20 ?_ ?_ ?_ ?_); rfl; rfl; rfl; intro w' r' t'; refine Hid.out ?_))
      refine Lib.hid ?_
      replace oa := Lib.hid (oa.out.trn v20 (NoU8.trap _ _) t')
      replace ob := Lib.hid (ob.out.trn v20 (NoU8.trap _ _) t')
      replace oc := Lib.hid (oc.out.trn v20 (NoU8.trap _ _) t')
      replace od := Lib.hid (od.out.trn v20 (NoU8.trap _ _) t')
      replace oe := Lib.hid (oe.out.trn v20 (NoU8.trap _ _) t')
      replace v3 := v3.trn t' n_v3_v20.out
      replace v9 := v9.trn t' n_v9_v20.out
      replace v10 := v10.trn t' n_v10_v20.out
      replace v11 := v11.trn t' n_v11_v20.out
      replace v12 := v12.trn t' n_v12_v20.out
      replace v13 := v13.trn t' n_v13_v20.out
      replace v14 := v14.trn t' n_v14_v20.out
      replace v16 := v16.trn t' n_v16_v20.out
      replace v17 := v17.trn t' n_v17_v20.out
      replace v19 := v19.trn t' n_v19_v20.out
      replace HD := Lib.hid (HD.out.trn HL_v20.out t')
      clear t' v20
      have v20 := r'
      clear r'
      have ck0 := v19.word lme 3 rfl
      rw [ne] at ck0
      go_wp2_with (first | ((with_reducible refine loadTrap v20 ?_ ?_ ?_); rfl; rfl) | fail)
      exact ⟨⟨j + 1, by omega, by go_num, DJ.out.trans HD.out⟩, by simp [intOf]; omega⟩
    · have hlt2 : ¬ (j : Int) < 4 := by omega
      have HD := HW
      go_wp2_with fail
      go_ret
      exact ⟨rfl, HD.out⟩
end Go.Proofs.YtpdahbcjecphmaaDoor
namespace Go.Proofs.YtpdahbcjecphmaaDoor
open Go.ChangeShapes Go.WideShapes Go.ChangeAt Go.RowKit Go.Sort
set_option linter.unusedVariables false

set_option maxRecDepth 100000 in
set_option maxHeartbeats 2000000 in
theorem kb_few (m : Mc) (v at_ : Int) (W : World) (hm : m.Ok W) (T : Is.Tabs W) (hx : m.xs.length ≤ 9223372036854775807) (hy : m.ys.length ≤ 9223372036854775807) (v0 : 0 ≤ v) (v1 : v < 4294967296) (a0 : 0 ≤ at_) (a1 : at_ < 256) (hf : decide (m.xs.length ≤ 600 ∧ m.ys.length ≤ 600) = false) :
    Calls Tryd.prog 6 #[.agg (mach m), .int .u32 v, .int .u8 at_] W fun e W' => e = .returned (.bool true) ∧ Dn W W' := by
  have C0 := Lib.hid fun w => fun (t : Is.Tabs w) => awake w t
  have CF := Lib.hid fun w => fun (ow : m.Ok w) => rfew m false w ow hx hy hf
  clear hf
  have HD := Lib.hid (Dn.refl W)
  go_enter Tryd.func6, Tryd.ntmps6
  go_wp2_with (first | ((with_reducible refine wpList_box (vs := (mach m)) ?_ ?_ ?_); rfl; rfl; intro b_v3 w' nn; refine Hid.out ?_))
  refine Lib.hid ?_
  have HL_v3 : Hid (W.heap.size ≤ b_v3) := Lib.hid (Blk.hi nn HD.out.size)
  have d' := nn.dn
  replace HD := Lib.hid (HD.out.trans d')
  have v3 := nn.blk
  clear d' nn
  go_wp2_with (first | (go_at_call 9; (with_reducible refine (C0.out _ (T.dn HD.out)).mono ?_); rintro e w' ⟨rfl, d'⟩; refine Hid.out ?_))
  refine Lib.hid ?_
  replace v3 := v3.dn d'
  replace HD := Lib.hid (HD.out.trans d')
  clear d'
  go_wp2_with (first | ((with_reducible refine load33 v3 hm.len ?_ ?_ ?_); rfl; rfl) | (go_at_call 10; (with_reducible refine (CF.out _ (hm.dn HD.out)).mono ?_); rintro e w' ⟨rfl, d'⟩; refine Hid.out ?_))
  refine Lib.hid ?_
  replace v3 := v3.dn d'
  replace HD := Lib.hid (HD.out.trans d')
  clear d'
  go_wp2_with (first | (go_at_call 9; (with_reducible refine (C0.out _ (T.dn HD.out)).mono ?_); rintro e w' ⟨rfl, d'⟩; refine Hid.out ?_))
  refine Lib.hid ?_
  replace v3 := v3.dn d'
  replace HD := Lib.hid (HD.out.trans d')
  clear d'
  go_wp2_with fail
  go_ret
  exact ⟨rfl, HD.out⟩
set_option maxRecDepth 100000 in
set_option maxHeartbeats 2000000 in
theorem kb_len (m : Mc) (v at_ : Int) (W : World) (hm : m.Ok W) (T : Is.Tabs W) (hx : m.xs.length ≤ 9223372036854775807) (hy : m.ys.length ≤ 9223372036854775807) (v0 : 0 ≤ v) (v1 : v < 4294967296) (a0 : 0 ≤ at_) (a1 : at_ < 256) (hf : decide (m.xs.length ≤ 600 ∧ m.ys.length ≤ 600) = true) (h4 : m.xs.length < 4) :
    Calls Tryd.prog 6 #[.agg (mach m), .int .u32 v, .int .u8 at_] W fun e W' => e = .returned (.bool true) ∧ Dn W W' := by
  have hl := hm.len
  have C0 := Lib.hid fun w => fun (t : Is.Tabs w) => awake w t
  have CF := Lib.hid fun w => fun (ow : m.Ok w) => rfew m true w ow hx hy hf
  clear hf
  have hq : decide ((m.xs.length : Int) < 4) = true := by simp; omega
  have hq2 : (m.xs.length : Int) < 4 := by omega
  have HD := Lib.hid (Dn.refl W)
  go_enter Tryd.func6, Tryd.ntmps6
  go_wp2_with (first | ((with_reducible refine wpList_box (vs := (mach m)) ?_ ?_ ?_); rfl; rfl; intro b_v3 w' nn; refine Hid.out ?_))
  refine Lib.hid ?_
  have HL_v3 : Hid (W.heap.size ≤ b_v3) := Lib.hid (Blk.hi nn HD.out.size)
  have d' := nn.dn
  replace HD := Lib.hid (HD.out.trans d')
  have v3 := nn.blk
  clear d' nn
  go_wp2_with (first | (go_at_call 9; (with_reducible refine (C0.out _ (T.dn HD.out)).mono ?_); rintro e w' ⟨rfl, d'⟩; refine Hid.out ?_))
  refine Lib.hid ?_
  replace v3 := v3.dn d'
  replace HD := Lib.hid (HD.out.trans d')
  clear d'
  go_wp2_with (first | ((with_reducible refine load33 v3 hl ?_ ?_ ?_); rfl; rfl) | (go_at_call 10; (with_reducible refine (CF.out _ (hm.dn HD.out)).mono ?_); rintro e w' ⟨rfl, d'⟩; refine Hid.out ?_))
  refine Lib.hid ?_
  replace v3 := v3.dn d'
  replace HD := Lib.hid (HD.out.trans d')
  clear d'
  have ck0 := v3.mem hl
  go_wp2_with (first | (go_at_call 9; (with_reducible refine (C0.out _ (T.dn HD.out)).mono ?_); rintro e w' ⟨rfl, d'⟩; refine Hid.out ?_))
  refine Lib.hid ?_
  clear ck0
  replace v3 := v3.dn d'
  replace HD := Lib.hid (HD.out.trans d')
  clear d'
  go_wp2_with fail
  go_ret
  exact ⟨rfl, HD.out⟩
theorem M.alv_byte {c xs : List Int} (hc : M.Core c) {a v : Int} (h : M.acz c xs.length a 4 = 0) (a0 : 0 ≤ a) (k : Nat) (hk : k < 4) (hb : M.acz c xs.length (a + k) 1 = 0) : M.alv c (M.asv c xs a 4 v) (a + k) 1 = v / 2 ^ (8 * k) % 256 := by
  have h1 := M.acz_hit h
  have hu := M.ub_rng hc
  unfold M.alv
  rw [M.asv_len, if_pos hb]
  unfold M.asv
  rw [if_pos h]
  generalize hp : (M.ub c + a).toNat = p
  have e1 : (M.ub c + (a + k)).toNat = p + k := by omega
  rw [e1]
  have hpn : p + (4 : Int).toNat ≤ xs.length := by have : ((4 : Int).toNat) = 4 := rfl; omega
  unfold M.st
  rw [if_pos hpn]
  have hw : (M.wr xs p (M.bytes v (4 : Int).toNat)).length = xs.length := M.wr_len (by rw [M.bytes_len]; exact hpn)
  unfold M.ld
  rw [hw, if_pos (by have : ((1 : Int).toNat) = 1 := rfl; have : ((4 : Int).toNat) = 4 := rfl; omega)]
  have hx : (M.wr xs p (M.bytes v 4))[p + k]? = some (v / 2 ^ (8 * k) % 256) := by
    rw [M.wr_at xs (M.bytes v 4) p (p + k) (by omega), if_neg (by omega), if_pos (by rw [M.bytes_len]; omega), Nat.add_sub_cancel_left]
    rcases (by omega : k = 0 ∨ k = 1 ∨ k = 2 ∨ k = 3) with rfl | rfl | rfl | rfl <;> rfl
  have hr : M.rd (M.wr xs p (M.bytes v 4)) (p + k) 1 = [v / 2 ^ (8 * k) % 256] := by
    unfold M.rd
    have hlt : p + k < (M.wr xs p (M.bytes v 4)).length := (List.getElem?_eq_some_iff.1 hx).1
    rw [List.drop_eq_getElem_cons hlt, (List.getElem?_eq_some_iff.1 hx).2]
    rfl
  show M.leval (M.rd (M.wr xs p (M.bytes v 4)) (p + k) 1) = _
  rw [hr]
  show v / 2 ^ (8 * k) % 256 + 256 * 0 = _
  omega
theorem M.okReg0 {r : Int} (h0 : 0 ≤ r) (h1 : r ≤ 15) : Is.M.okReg r true = true := by unfold Is.M.okReg; rw [if_pos rfl, decide_eq_true_eq]; exact ⟨h0, h1⟩
theorem M.okImm0 {x : Int} (h0 : -131072 ≤ x) (h1 : x < 131072) : Is.M.okImm x true false = true := by
  unfold Is.M.okImm Is.M.F
  rw [if_pos rfl, decide_eq_true_eq]
  exact ⟨Int.le_trans (by decide) h0, Int.lt_of_lt_of_le h1 (by decide)⟩
theorem M.ok_one {op d r x : Int} (ho : op = 9 ∨ op = 12 ∨ op = 13) (hd : d = 1 ∨ d = 3) (hr : r = 0 ∨ r = 1) (h0 : -131072 ≤ x) (h1 : x < 131072) : Is.M.ok op d r 0 x = true := by
  have e : Is.M.ok op d r 0 x = (true && (Is.M.okReg d true && Is.M.okReg r true && true && Is.M.okImm x true false)) := by rcases ho with rfl | rfl | rfl <;> rfl
  rw [e, M.okReg0 (by omega) (by omega), M.okReg0 (by omega) (by omega), M.okImm0 h0 h1]; rfl
theorem M.ok_lui {x : Int} (h0 : -131072 ≤ x) (h1 : x < 131072) : Is.M.ok 10 1 0 0 x = true := by
  show (true && (true && true && true && Is.M.okImm x true false)) = true
  rw [M.okImm0 h0 h1]; rfl
theorem kbWalk (m : Mc) (v at_ : Int) (W : World) (hm : m.Ok W) (T : Is.Tabs W) (hx : m.xs.length ≤ 9223372036854775807) (hy : m.ys.length ≤ 9223372036854775807) (v0 : 0 ≤ v) (v1 : v < 4294967296) (a0 : 0 ≤ at_) (a1 : at_ < 256) : Calls Tryd.prog 6 #[.agg (mach m), .int .u32 v, .int .u8 at_] W fun e W' => e = .returned (.bool true) ∧ Dn W W' := by
  cases hf : decide (m.xs.length ≤ 600 ∧ m.ys.length ≤ 600)
  · exact kb_few m v at_ W hm T hx hy v0 v1 a0 a1 hf
  · by_cases h4 : m.xs.length < 4
    · exact kb_len m v at_ W hm T hx hy v0 v1 a0 a1 hf h4
    have hs : m.xs.length ≤ 600 := by simp only [decide_eq_true_eq] at hf; omega
    obtain ⟨m1, e1⟩ : ∃ m1 : Mc, m1 = { m with c := m.c.set 17 1 } := ⟨_, rfl⟩
    have hc := hm.core
    have k1 : M.Core m1.c := by rw [e1]; exact hc.set 17 1 (by decide) (by decide)
    have q1 : M.csr m1.c 0 = 1 := by rw [e1]; exact (M.csr_set hc 0 0 1 (by decide)).trans (if_pos rfl)
    have hd : ((m.xs.length : Int) / 4) ≠ 0 := by omega
    have d1 : 0 ≤ at_ % ((m.xs.length : Int) / 4) := Int.emod_nonneg _ hd
    have d2 : at_ % ((m.xs.length : Int) / 4) < (m.xs.length : Int) / 4 := Int.emod_lt_of_pos _ (by omega)
    have p0 : 0 ≤ (4 * (at_ % ((m.xs.length : Int) / 4))) := by omega
    have p1 : (4 * (at_ % ((m.xs.length : Int) / 4))) ≤ 600 := by omega
    have p2 : (4 * (at_ % ((m.xs.length : Int) / 4))) + 4 ≤ (m.xs.length : Int) := by omega
    have p3 : (4 * (at_ % ((m.xs.length : Int) / 4))) % 4 = 0 := by omega
    have key : ∀ hi : Int, (M.iw hi * 16384 % 4294967296 + v % 16384) % 4294967296 = v → ∃ ca cb cc cd zd : List Int, M.ex m1.c m.xs 10 1 0 0 hi = ⟨ca, m.xs, 0, 0⟩ ∧ M.ex ca m.xs 9 1 1 0 (v % 16384) = ⟨cb, m.xs, 0, 0⟩ ∧ M.ex cb m.xs 2 2 1 1 0 = ⟨cc, m.xs, 0, 0⟩ ∧ M.ex cb m.xs 12 1 0 0 (4 * (at_ % ((m.xs.length : Int) / 4))) = ⟨cd, zd, 0, 0⟩ ∧ zd.length ≤ 600 ∧ cb.getD 1 0 = v ∧ cc.getD 2 0 = 0 ∧
        (∀ k : Nat, k < 4 → ∃ ce, M.ex cd zd 13 3 0 0 ((4 * (at_ % ((m.xs.length : Int) / 4))) + k) = ⟨ce, zd, 0, 0⟩ ∧ ce.getD 3 0 = v / 2 ^ (8 * k) % 256) := by
      intro hi hh
      have hw := M.wrap_rng (M.iw hi * 16384)
      generalize (4 * (at_ % ((m.xs.length : Int) / 4))) = p at p0 p1 p2 p3 ⊢
      have ka : M.Core (M.adv (M.setreg m1.c 1 (M.iw hi * 16384 % 4294967296)) 4) := (k1.setreg 1 hw).adv 4
      have ra : M.reg (M.adv (M.setreg m1.c 1 (M.iw hi * 16384 % 4294967296)) 4) 1 = M.iw hi * 16384 % 4294967296 := by rw [M.reg_adv, M.reg_setreg k1.len (by decide) (by decide)]
      have qa : M.csr (M.adv (M.setreg m1.c 1 (M.iw hi * 16384 % 4294967296)) 4) 0 = 1 := by rw [M.csr_adv, M.csr_setreg]; exact q1
      have ha : M.ex m1.c m.xs 10 1 0 0 hi = ⟨M.adv (M.setreg m1.c 1 (M.iw hi * 16384 % 4294967296)) 4, m.xs, 0, 0⟩ := M.ex_lui _ _ _ _ _ _
      generalize M.adv (M.setreg m1.c 1 (M.iw hi * 16384 % 4294967296)) 4 = ca at ha ka ra qa
      have hea : M.ea ca 1 (v % 16384) = v := by unfold M.ea; rw [ra]; unfold M.iw; unfold M.iw at hh; omega
      have hb : M.ex ca m.xs 9 1 1 0 (v % 16384) = ⟨M.adv (M.setreg ca 1 v) 4, m.xs, 0, 0⟩ := by rw [M.ex_addi, hea]
      have kb : M.Core (M.adv (M.setreg ca 1 v) 4) := (ka.setreg 1 ⟨v0, v1⟩).adv 4
      have rb : M.reg (M.adv (M.setreg ca 1 v) 4) 1 = v := by rw [M.reg_adv, M.reg_setreg ka.len (by decide) (by decide)]
      have gb : (M.adv (M.setreg ca 1 v) 4).getD 1 0 = v := by rw [M.adv_reg _ _ (by decide)]; exact M.setreg_at ka.len (by decide) (by decide) v
      have qb : M.csr (M.adv (M.setreg ca 1 v) 4) 0 = 1 := by rw [M.csr_adv, M.csr_setreg]; exact qa
      generalize M.adv (M.setreg ca 1 v) 4 = cb at hb kb rb gb qb
      have hz : M.acz cb m.xs.length p 4 = 0 := (M.acz_sup qb _ _ _).2 ⟨by omega, p2⟩
      have hep : ∀ c : List Int, ∀ x : Int, 0 ≤ x → x ≤ 700 → M.ea c 0 x = x := fun c x h0 h1 => M.ea_zero c h0 (by omega)
      refine ⟨ca, cb, M.adv (M.setreg cb 2 (M.ev 2 (M.reg cb 1) (M.reg cb 1))) 4, M.adv cb 4, M.asv cb m.xs p 4 v, ha, hb, M.ex_alu _ _ _ _ _ _ _ (by decide), ?_, by rw [M.asv_len]; exact hs, gb, ?_, fun k hk => ⟨M.adv (M.setreg (M.adv cb 4) 3 (v / 2 ^ (8 * k) % 256)) 4, ?_, ?_⟩⟩
      · rw [M.ex_sw, hep _ _ p0 (by omega), M.exS_ok _ _ _ hz, rb]
      · rw [M.adv_reg _ _ (by decide)]
        exact (M.setreg_at kb.len (r := 2) (by decide) (by decide) (M.ev 2 (M.reg cb 1) (M.reg cb 1))).trans (by rw [M.ev2, Int.sub_self]; rfl)
      · have hk1 : M.acz cb m.xs.length (p + k) 1 = 0 := (M.acz_sup qb _ _ _).2 ⟨by omega, by omega⟩
        rw [M.ex_lb, hep _ _ (by omega) (by omega), M.exL_ok _ _ _ (by rw [M.asv_len, M.acz_adv]; exact hk1), M.alv_adv, M.alv_byte kb hz p0 k hk hk1]
      · rw [M.adv_reg _ _ (by decide)]
        exact M.setreg_at (by unfold M.adv; rw [List.length_set]; exact kb.len) (r := 3) (by decide) (by decide) _
    have v2 : Is.M.ok 9 1 1 0 (v % 16384) = true := M.ok_one (by simp) (by simp) (by simp) (by omega) (by omega)
    have v5 : Is.M.ok 12 1 0 0 (4 * (at_ % ((m.xs.length : Int) / 4))) = true := M.ok_one (by simp) (by simp) (by simp) (by omega) (by omega)
    have v6 : ∀ k : Nat, k < 4 → Is.M.ok 13 3 0 0 ((4 * (at_ % ((m.xs.length : Int) / 4))) + k) = true := fun k hk => M.ok_one (by simp) (by simp) (by simp) (by omega) (by omega)
    by_cases hb : v / 16384 < 131072
    · obtain ⟨ca, cb, cc, cd, zd, r1, r2, r3, r5, zl, g1, g2, r6⟩ := key (v / 16384) (by unfold M.iw; omega)
      exact kb_s m v at_ W hm T hx hy v0 v1 a0 a1 hf (by omega) m1 e1 hb p0 p1 ca cb cc cd zd r1 r2 r3 r5 zl g1 g2 r6 (M.ok_lui (by omega) (by omega)) v2 v5 v6
    · obtain ⟨ca, cb, cc, cd, zd, r1, r2, r3, r5, zl, g1, g2, r6⟩ := key (v / 16384 - 262144) (by unfold M.iw; omega)
      exact kb_b m v at_ W hm T hx hy v0 v1 a0 a1 hf (by omega) m1 e1 (by omega) p0 p1 ca cb cc cd zd r1 r2 r3 r5 zl g1 g2 r6 (M.ok_lui (by omega) (by omega)) v2 v5 v6
end Go.Proofs.YtpdahbcjecphmaaDoor
namespace Go.Proofs.YtpdahbcjecphmaaDoor.execConstantsAndBytes
open Go.ChangeShapes Go.WideShapes Go.ChangeAt Go.RowKit
set_option linter.unusedVariables false

theorem readable : ∀ t ∈ Tryd.f6.params.toList, Tryd.prog.readableRec t = true ∧ t < Tryd.prog.types.size := by
  rw [Tryd.params6]
  intro t ht
  have hall : ([30, 22, 5].all fun t => Tryd.prog.readableRec t && decide (t < Tryd.prog.types.size)) = true := by kernel_rfl
  have h := List.all_eq_true.1 hall t ht
  simp only [Bool.and_eq_true, decide_eq_true_eq] at h
  exact h

theorem said (H : Type) (ds : List (DataW H)) (hl : ds.length = Tryd.f6.params.size) : (Rows.execConstantsAndBytesSpec.fn H ds).results = [.lit (.bool true)] ∧ (Rows.execConstantsAndBytesSpec.fn H ds).args = ds ∧ (Rows.execConstantsAndBytesSpec.fn H ds).vars = [] := by
  rw [Tryd.params6] at hl
  match ds, hl with
  | [d0, d1, d2], _ => exact ⟨rfl, rfl, rfl⟩

set_option maxRecDepth 100000 in
theorem walk {H : Type} {enc : TypeId × Value → H} (W : World) (base : Nat) (args : Array Value) (ds : List (DataW H)) (ps : List MemPlace) (E : Env W)
    (hval : ∀ (j : Nat) t v, Tryd.f6.params[j]? = some t → args[j]? = some v → Value.okWide Tryd.prog W .any base t v)
    (hA : DataW.TrodAll enc Tryd.prog W 0 (fun _ => true) true Tryd.f6.params.toList args.toList ds ps) :
    Calls Tryd.prog 6 args W fun e W' => e = .returned (.bool true) ∧ Dn W W' := by
  rw [Tryd.params6] at hA hval
  obtain ⟨v0, vs0, d0, ds0, p0, q0, hargs, rfl, rfl, h0, r0⟩ := trodAll_cons hA
  obtain ⟨v1, vs1, d1, ds1, p1, q1, rfl, rfl, rfl, h1, r1⟩ := trodAll_cons r0
  obtain ⟨v2, vs2, d2, ds2, p2, q2, rfl, rfl, rfl, h2, r2⟩ := trodAll_cons r1
  obtain ⟨rfl, rfl, rfl⟩ := trodAll_nil r2
  obtain rfl : args = #[v0, v1, v2] := by cases args; simp_all
  obtain ⟨m0, rfl, o0, l0, y0⟩ := open33 (hval 0 30 v0 rfl rfl) h0
  obtain ⟨x1, rfl, rfl, rfl, w1⟩ := open_int Tryd.underlying22 (hval 1 22 v1 rfl rfl) h1
  have bd1 := bounds_u32 w1
  obtain ⟨x2, rfl, rfl, rfl, w2⟩ := open_int Tryd.underlying5 (hval 2 5 v2 rfl rfl) h2
  have bd2 := bounds_u8 w2
  exact kbWalk m0 x1 x2 W o0 E  l0 y0 (by omega) (by omega) (by omega) (by omega)

set_option maxRecDepth 100000 in
theorem lifted (os : Os) (started : os.Started) (H : Type) (enc : TypeId × Value → H) :
    ReturnsInHanded {} Tryd.checked os 6 .any (fun w args => (Rows.execConstantsAndBytesSpec.pre enc Tryd.prog Tryd.f6 [] false w args ∧ laidMetH Tryd.prog laidL w) ∧ sizedMet enc Tryd.prog Tryd.f6 (OpenSpec.ofChange Rows.execConstantsAndBytesSpec) false w args)
      (Rows.execConstantsAndBytesSpec.post enc Tryd.prog Tryd.f6 false true false false) :=
  returns_of_walk (C := Tryd.checked) rfl own started (by kernel_rfl) Tryd.func6 rfl readable (by kernel_rfl) said
    (ChangeSpec.witness_shaped (enc := enc) (C := Tryd.checked) (os := os) (X := fun w _ => laidMetH Tryd.prog laidL w) false (World.laidAll Tryd.prog os laidL) #[.agg #[.int .u32 0, .int .u32 0, .int .u32 0, .int .u32 0, .int .u32 0, .int .u32 0, .int .u32 0, .int .u32 0, .int .u32 0, .int .u32 0, .int .u32 0, .int .u32 0, .int .u32 0, .int .u32 0, .int .u32 0, .int .u32 0, .int .u32 0, .int .u32 0, .int .u32 0, .int .u32 0, .int .u32 0, .int .u32 0, .int .u32 0, .int .u32 0, .int .u32 0, .int .u32 0, .int .u32 0, .int .u32 0, .int .u32 0, .slice none 0 0, .int .u64 0, .slice none 0 0, .bool false], .int .u32 0, .int .u8 0] 8 (World.laidAll_os _ _ _)
      (start_shaped os _) (by kernel_rfl) (by kernel_rfl) (by kernel_rfl) (start_met os _)) walk

theorem over : Rows.ExecConstantsAndBytesSaid :=
  OpenClaim.holds_of_wide 6 Tryd.f6 rfl rfl rfl rfl rfl rfl rfl ⟨rfl, rfl, rfl, rfl, rfl⟩ rfl rfl rfl rfl rfl (by kernel_rfl) Tryd.func6 (by kernel_rfl)
    (of_decide_eq_true (by kernel_rfl)) (by unfold Func.isWrapper; first | (rw [if_pos (by decide +kernel)]; kernel_rfl) | (rw [if_neg (by decide +kernel)]; exact ⟨rfl, rfl⟩))
    (fun os started H enc _ => lifted os started H enc)

/-- THE STATEMENT -/
theorem proved : Rows.ExecConstantsAndBytesCardSaid :=
  Claim7.holds_tied_plain_at .later [] [.data, .data] true (true, "91e72f67f80a65227298d3539401025c22714d779c4228c5751d5c899ac93c42") false
    over (fun _ h => by cases h) (by kernel_rfl) (fun _ h => by cases h) execConstantsAndBytes_row_tie rfl ⟨rfl, rfl⟩ (by kernel_rfl) rfl
    (fun f fn hf hfn => by
      obtain rfl : f = 6 := Option.some.inj ((show Tryd.prog.funcNamed "gaoler/gaolerlaw11.ExecConstantsAndBytes" = some 6 by kernel_rfl).symm.trans hf) |>.symm
      obtain rfl : fn = Tryd.f6 := (Option.some.inj (Tryd.func6.symm.trans hfn)).symm
      exact ⟨by kernel_rfl, fun j t ht => by
        rw [Tryd.params6] at ht
        have hm : t ∈ [30, 22, 5] := by simpa using Array.mem_of_getElem? ht
        have hall : ([30, 22, 5].all fun u => !Tryd.prog.wantsStandIn u) = true := by kernel_rfl
        exact (show Tryd.prog.wantsStandIn t = false by simpa using List.all_eq_true.1 hall t hm)⟩)
    (by kernel_rfl)
#print axioms proved
end Go.Proofs.YtpdahbcjecphmaaDoor.execConstantsAndBytes
