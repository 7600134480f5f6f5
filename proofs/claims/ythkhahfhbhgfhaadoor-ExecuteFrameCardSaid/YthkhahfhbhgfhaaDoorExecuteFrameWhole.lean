/-
  The law ExecuteFrame of the law package returns true at every input, and each argument reads as it did; conditions: the listed package variables hold what the program's text lays there (the card ties them to it).
-/
import Derived.Test.YthkhahfhbhgfhaaDoorCards
import Derived.Test.YthkhahfhbhgfhaaDoorTie
import Derived.Test.YthkhahfhbhgfhaaDoorPkB
import Derived.Test.YthkhahfhbhgfhaaDoorPkZ
import Derived.Test.YthkhahfhbhgfhaaDoorPkF
namespace Go.Proofs.YthkhahfhbhgfhaaDoor.M
open Go.RowKit
set_option linter.unusedVariables false

/-- a load of the cell that was stored -/
theorem alv_asv {c xs : List Int} {a n v : Int} (hc : Core c) (h : acz c xs.length a n = 0) (a0 : 0 ≤ a) (n0 : 1 ≤ n) (v0 : 0 ≤ v) : alv c (asv c xs a n v) a n = v % 256 ^ n.toNat := by
  have hk := acz_hit h
  have hu := ub_rng hc
  unfold alv
  rw [asv_len, if_pos h]
  unfold asv
  rw [if_pos h]
  generalize hp : (ub c + a).toNat = p
  have hpn : p + n.toNat ≤ xs.length := by omega
  unfold st
  rw [if_pos hpn]
  unfold ld
  rw [wr_len (by rw [bytes_len]; exact hpn), if_pos hpn]
  have e := rd_wr (xs := xs) (bs := bytes v n.toNat) (a := p) (by omega)
  rw [bytes_len] at e
  rw [e, leval_bytes v0]
/-- a load of a word that was not -/
theorem alv_other {c xs : List Int} {a b n v : Int} (hc : Core c) (h : acz c xs.length a n = 0) (a0 : 0 ≤ a) (b0 : 0 ≤ b) (hn : n = 4 ∨ n = 1) (hb : b % 4 = 0) (hab : a / 4 ≠ b / 4) : alv c (asv c xs a n v) b 4 = alv c xs b 4 := by
  have hk := acz_hit h
  have hu := ub_rng hc
  unfold alv
  rw [asv_len]
  split
  · rename_i hB
    have hkb := acz_hit hB
    unfold asv
    rw [if_pos h]
    generalize hp : (ub c + a).toNat = p
    generalize hq : (ub c + b).toNat = q
    have hpn : p + n.toNat ≤ xs.length := by omega
    have hqn : q + (4 : Int).toNat ≤ xs.length := by omega
    unfold st
    rw [if_pos hpn]
    unfold ld
    rw [wr_len (by rw [bytes_len]; exact hpn), if_pos hqn, if_pos hqn]
    congr 1
    by_cases hlt : q < p
    · exact rd_wr_before (by omega) (by omega)
    · exact rd_wr_after (by omega) (by rw [bytes_len]; omega)
  · rfl

theorem csr_adv (c : List Int) (d : Int) (i : Nat) : csr (adv c d) i = csr c i := by
  unfold csr adv
  rw [getD_set, if_neg (by omega)]
theorem csr_setreg (c : List Int) (r v : Int) (i : Nat) : csr (setreg c r v) i = csr c i := by
  unfold csr setreg
  split
  · rename_i h
    have := (stored_iff r).1 h
    rw [getD_set, if_neg (by omega)]
  · rfl
theorem ub_adv (c : List Int) (d : Int) : ub (adv c d) = ub c := by unfold ub sup; rw [csr_adv, csr_adv]
theorem un_adv (c : List Int) (d s : Int) : un (adv c d) s = un c s := by unfold un sup; rw [csr_adv, csr_adv]
theorem acz_adv (c : List Int) (d s a n : Int) : acz (adv c d) s a n = acz c s a n := by unfold acz; rw [ub_adv, un_adv]
theorem alv_adv (c xs : List Int) (d a n : Int) : alv (adv c d) xs a n = alv c xs a n := by unfold alv; rw [acz_adv, ub_adv]
theorem reg_adv (c : List Int) (d i : Int) : reg (adv c d) i = reg c i := by
  unfold reg adv
  split
  · rename_i h
    have := (stored_iff i).1 h
    rw [getD_set, if_neg (by omega)]
  · rfl
theorem reg_zero (c : List Int) : reg c 0 = 0 := rfl
theorem ea_zero (c : List Int) {x : Int} (h0 : 0 ≤ x) (h1 : x < 4294967296) : ea c 0 x = x := by unfold ea iw; rw [reg_zero]; omega
theorem setreg_at {c : List Int} (h : c.length = 29) {r : Int} (r0 : 0 < r) (r1 : r < 16) (v : Int) : (setreg c r v).getD r.toNat 0 = v := by
  unfold setreg
  rw [if_pos ((stored_iff r).2 ⟨r0, r1⟩), getD_set, if_pos ⟨rfl, by omega⟩]
theorem reg_setreg {c : List Int} (h : c.length = 29) {r : Int} (r0 : 0 < r) (r1 : r < 16) (v : Int) : reg (setreg c r v) r = v := by
  rw [reg_in ((stored_iff r).2 ⟨r0, r1⟩), setreg_at h r0 r1]
theorem adv_reg (c : List Int) (d : Int) {i : Nat} (hi : i ≠ 16) : (adv c d).getD i 0 = c.getD i 0 := by unfold adv; rw [getD_set, if_neg (by omega)]
/-- in supervisor mode an address is its own place -/
theorem acz_sup {c : List Int} (h : csr c 0 = 1) (s a n : Int) : acz c s a n = 0 ↔ ¬ (n = 4 ∧ a % 4 ≠ 0) ∧ a + n ≤ s := by
  have hs : sup c = true := by unfold sup; rw [h]; rfl
  have h1 : ub c = 0 := by unfold ub; rw [if_pos hs]
  have h2 : un c s = s := by unfold un; rw [if_pos hs]
  rw [acz_iff, h1, h2]
  omega
end Go.Proofs.YthkhahfhbhgfhaaDoor.M
namespace Go.Proofs.YthkhahfhbhgfhaaDoor
open Go.ChangeShapes Go.WideShapes Go.ChangeAt Go.RowKit Go.Sort
set_option linter.unusedVariables false

/-- the loops' relation: k of N rounds are done, of what was there nothing has turned -/
def FrRel (N : Nat) (w0 : World) (k : Value) (w : World) : Prop := ∃ j : Nat, j ≤ N ∧ k = .int .i64 j ∧ Dn w0 w
theorem eq12 {c d : List Int} (hc : c.length = 12) (hd : d.length = 12) (w : World) : (Op.equalIn 10000 24 (.agg (ints .u32 c)) (.agg (ints .u32 d))).run Tryd.prog w = .ok (c == d) w :=
  equal_ints 9998 Tryd.underlying24 Tryd.underlying22 infoW c d hc hd w
end Go.Proofs.YthkhahfhbhgfhaaDoor
namespace Go.Proofs.YthkhahfhbhgfhaaDoor
open Go.ChangeShapes Go.WideShapes Go.ChangeAt Go.RowKit Go.Sort
set_option linter.unusedVariables false

set_option maxRecDepth 100000 in
set_option maxHeartbeats 2000000 in
theorem ef_o (m : Mc) (op rd ra rb imm : Int) (W : World) (hm : m.Ok W) (T : Is.Tabs W) (i0 : -2147483648 ≤ imm) (i1 : imm < 2147483648) (hx : m.xs.length ≤ 9223372036854775807) (hy : m.ys.length ≤ 9223372036854775807) (hf : decide (m.xs.length ≤ 600 ∧ m.ys.length ≤ 600) = true) (hpl : (Is.M.ok op rd ra rb imm && !Is.M.priv op) = true) (c1 z1 : List Int) (p q : Int) (h1 : M.ex m.c m.xs op rd ra rb imm = ⟨c1, z1, 0, 0⟩) (hpc : m.c.getD 16 0 = p) (hq : c1.getD 16 0 = q) (hd : c1.drop 17 = m.c.drop 17) (hr : ∀ j : Nat, j < 16 → ((j : Int) ≠ rd ∨ j = 0) → c1.getD j 0 = m.c.getD j 0) (hz1 : z1 = m.xs) (t12 : (op == 12) = false) (t14 : (op == 14) = false) (t15 : (op == 15) = false) (t16 : (op == 16) = false) (t17 : (op == 17) = false) (t20 : (op == 20) = false) (hq5 : (q == (p + 4) % 4294967296) = true) :
    Calls Tryd.prog 3 #[.agg (mach m), .agg (ins op rd ra rb imm)] W fun e W' => e = .returned (.bool true) ∧ Dn W W' := by
  have hl := hm.len
  have hc := hm.core
  have hs : m.xs.length ≤ 100000 := by simp only [decide_eq_true_eq] at hf; omega
  have hy2 : m.ys.length ≤ 100000 := by simp only [decide_eq_true_eq] at hf; omega
  have hvp : Is.M.ok op rd ra rb imm = true ∧ Is.M.priv op = false := by simpa using hpl
  have C0 := Lib.hid fun w => fun (t : Is.Tabs w) => awake w t
  have CF := Lib.hid fun w => fun (ow : m.Ok w) => rfew m true w ow hx hy hf
  have CP := Lib.hid (rPlain op rd ra rb imm true i0 i1 hpl)
  have C1 := Lib.hid fun w => fun (ow : m.Ok w) (t : Is.Tabs w) => (by exact xRun m op rd ra rb imm _ _ rfl rfl ⟨c1, z1, 0, 0⟩ h1 hs i0 i1 hvp.1 hvp.2 w ow t : Calls Tryd.prog 12 #[.agg (mach m), .agg (ins op rd ra rb imm)] w fun e W' => ∃ m1, e = .returned (.tuple #[.agg (mach m1), .agg #[.int .i64 0, .int .u32 0]]) ∧ Hid (m1.Ok W') ∧ Hid (Exd m ⟨c1, z1, 0, 0⟩ m1) ∧ Dn w W')
  have CS := Lib.hid fun (w : World) (ow : m.Ok w) (ma : Mc) (oa : ma.Ok w) (ea : Exd m ⟨c1, z1, 0, 0⟩ ma) => same_yes ma.B m.B ma.q m.q ma.ys.length m.ys.length ma.ys m.ys w oa.out ow.out rfl rfl ea.ys (by rw [ea.ys]; exact hy2)
  have CM := Lib.hid fun (w : World) (ow : m.Ok w) (ma : Mc) (oa : ma.Ok w) (ea : Exd m ⟨c1, z1, 0, 0⟩ ma) => same_yes ma.A m.A ma.k m.k ma.xs.length m.xs.length ma.xs m.xs w oa.mem ow.mem rfl rfl (ea.xs.trans hz1) (by rw [ea.xs, hz1]; exact hs)
  have q0 := eqTrap_self 0 0
  have p0 := (M.core_pc hc).1
  have p1 := (M.core_pc hc).2
  rw [show M.pc m.c = p from hpc] at p0 p1
  have HQ := Lib.hid hq
  have HD1 := Lib.hid hd
  have HR := Lib.hid hr
  have hwr : IntKind.u32.wrap (p + 4) = (p + 4) % 4294967296 := rfl
  clear hf hpl hvp h1 hq hd hr hz1
  have HD := Lib.hid (Dn.refl W)
  go_enter Tryd.func3, Tryd.ntmps3
  go_wp2_with (first | ((with_reducible refine wpList_box (vs := (mach m)) ?_ ?_ ?_); rfl; rfl; intro b_v2 w' nn; refine Hid.out ?_))
  refine Lib.hid ?_
  have HL_v2 : Hid (W.heap.size ≤ b_v2) := Lib.hid (Blk.hi nn HD.out.size)
  have d' := nn.dn
  replace HD := Lib.hid (HD.out.trans d')
  have v2 := nn.blk
  clear d' nn
  go_wp2_with (first | ((with_reducible refine wpList_box (vs := (ins op rd ra rb imm)) ?_ ?_ ?_); rfl; rfl; intro b_v3 w' nn; refine Hid.out ?_))
  refine Lib.hid ?_
  have n_v2_v3 := Lib.hid (nn.ne _ v2.lt)
  have HL_v3 : Hid (W.heap.size ≤ b_v3) := Lib.hid (Blk.hi nn HD.out.size)
  have d' := nn.dn
  replace v2 := v2.dn d'
  replace HD := Lib.hid (HD.out.trans d')
  have v3 := nn.blk
  clear d' nn
  go_wp2_with (first | (go_at_call 9; (with_reducible refine (C0.out _ (T.dn HD.out)).mono ?_); rintro e w' ⟨rfl, d'⟩; refine Hid.out ?_))
  refine Lib.hid ?_
  replace v2 := v2.dn d'
  replace v3 := v3.dn d'
  replace HD := Lib.hid (HD.out.trans d')
  clear d'
  go_wp2_with (first | ((with_reducible refine load33 v2 hl ?_ ?_ ?_); rfl; rfl) | (go_at_call 10; (with_reducible refine (CF.out _ (hm.dn HD.out)).mono ?_); rintro e w' ⟨rfl, d'⟩; refine Hid.out ?_))
  refine Lib.hid ?_
  replace v2 := v2.dn d'
  replace v3 := v3.dn d'
  replace HD := Lib.hid (HD.out.trans d')
  clear d'
  go_wp2_with (first | ((with_reducible refine loadI v3 ?_ ?_ ?_); rfl; rfl) | (go_at_call 11; (with_reducible refine (CP.out _).mono ?_); rintro e w' ⟨rfl, d'⟩; refine Hid.out ?_))
  refine Lib.hid ?_
  replace v2 := v2.dn d'
  replace v3 := v3.dn d'
  replace HD := Lib.hid (HD.out.trans d')
  clear d'
  go_wp2_with (first | ((with_reducible refine load33 v2 hl ?_ ?_ ?_); rfl; rfl) | ((with_reducible refine loadI v3 ?_ ?_ ?_); rfl; rfl) | (go_at_call 12; (with_reducible refine (C1.out _ (hm.dn HD.out) (T.dn HD.out)).mono ?_); rintro e w' ⟨ma, rfl, oa', ea, d'⟩; refine Hid.out ?_))
  refine Lib.hid ?_
  replace v2 := v2.dn d'
  replace v3 := v3.dn d'
  replace HD := Lib.hid (HD.out.trans d')
  clear d'
  have la := oa'.out.len
  have nt : ma.t = m.t := ea.out.t
  have nh : ma.h = m.h := ea.out.h
  have na : ma.c.getD 16 0 = q := by rw [ea.out.c]; exact HQ.out
  have q12 : ∀ w, (Op.equalIn 10000 24 (.agg (ints .u32 (ma.c.drop 17))) (.agg (ints .u32 (m.c.drop 17)))).run Tryd.prog w = .ok true w := fun w => by rw [show ma.c.drop 17 = m.c.drop 17 by rw [ea.out.c]; exact HD1.out, eq12 (drop17 hl) (drop17 hl), beq_self_eq_true]
  have RA := Lib.hid (fun j hj => by rw [ea.out.c]; exact HR.out j hj : ∀ j : Nat, j < 16 → ((j : Int) ≠ rd ∨ j = 0) → ma.c.getD j 0 = m.c.getD j 0)
  have oa := Lib.hid oa'.out
  go_wp2_with (first | ((with_reducible refine wpList_alloc zeroMach ?_ ?_); rfl; intro b_v5 w' nn; refine Hid.out ?_))
  refine Lib.hid ?_
  have n_v2_v5 := Lib.hid (nn.ne _ v2.lt)
  have n_v3_v5 := Lib.hid (nn.ne _ v3.lt)
  have HL_v5 : Hid (W.heap.size ≤ b_v5) := Lib.hid (Blk.hi nn HD.out.size)
  have d' := nn.dn
  replace v2 := v2.dn d'
  replace v3 := v3.dn d'
  replace oa := Lib.hid (oa.out.dn d')
  replace HD := Lib.hid (HD.out.trans d')
  have v5 := nn.blk
  clear d' nn
  go_wp2_with (first | ((with_reducible refine wpList_alloc zeroTrap ?_ ?_); rfl; intro b_v6 w' nn; refine Hid.out ?_))
  refine Lib.hid ?_
  have n_v2_v6 := Lib.hid (nn.ne _ v2.lt)
  have n_v3_v6 := Lib.hid (nn.ne _ v3.lt)
  have n_v5_v6 := Lib.hid (nn.ne _ v5.lt)
  have HL_v6 : Hid (W.heap.size ≤ b_v6) := Lib.hid (Blk.hi nn HD.out.size)
  have d' := nn.dn
  replace v2 := v2.dn d'
  replace v3 := v3.dn d'
  replace v5 := v5.dn d'
  replace oa := Lib.hid (oa.out.dn d')
  replace HD := Lib.hid (HD.out.trans d')
  have v6 := nn.blk
  clear d' nn
  go_wp2_with (first | ((with_reducible refine store33 ma la v5 zlen ?_ ?_ ?_ ?_); rfl; rfl; rfl; intro w' r' t'; refine Hid.out ?_))
  refine Lib.hid ?_
  replace oa := Lib.hid (oa.out.trn v5 (NoU8.mach _) t')
  replace v2 := v2.trn t' n_v2_v5.out
  replace v3 := v3.trn t' n_v3_v5.out
  replace v6 := v6.trn t' n_v5_v6.out.symm
  replace HD := Lib.hid (HD.out.trn HL_v5.out t')
  clear t' v5
  have v5 := r'
  clear r'
  go_wp2_with (first | ((with_reducible refine storeTrap (k := 0) (v := 0) v6 ?_ ?_ ?_ ?_); rfl; rfl; rfl; intro w' r' t'; refine Hid.out ?_))
  refine Lib.hid ?_
  replace oa := Lib.hid (oa.out.trn v6 (NoU8.trap _ _) t')
  replace v2 := v2.trn t' n_v2_v6.out
  replace v3 := v3.trn t' n_v3_v6.out
  replace v5 := v5.trn t' n_v5_v6.out
  replace HD := Lib.hid (HD.out.trn HL_v6.out t')
  clear t' v6
  have v6 := r'
  clear r'
  have ck0 := v3.iop
  have ck1 := v5.time la
  rw [nt] at ck1
  have ck2 := v2.time hl
  have ck3 := v5.halted la
  rw [nh] at ck3
  have ck4 := v2.halted hl
  have ck5 := v5.out la
  have ck6 := v2.out hl
  go_wp2_with (first | ((with_reducible refine loadTrap v6 ?_ ?_ ?_); rfl; rfl) | ((with_reducible refine loadCsr v5 la ?_ ?_ ?_); rfl; rfl) | ((with_reducible refine loadCsr v2 hl ?_ ?_ ?_); rfl; rfl) | (go_at_call 14; (with_reducible refine (CS.out _ (hm.dn HD.out) ma oa.out ea.out).mono ?_); rintro e w' ⟨rfl, d'⟩; refine Hid.out ?_))
  refine Lib.hid ?_
  clear ck0 ck1 ck2 ck3 ck4 ck5 ck6
  replace v2 := v2.dn d'
  replace v3 := v3.dn d'
  replace v5 := v5.dn d'
  replace v6 := v6.dn d'
  replace oa := Lib.hid (oa.out.dn d')
  replace HD := Lib.hid (HD.out.trans d')
  clear d'
  have ck0 := v5.mem la
  have ck1 := v2.mem hl
  go_wp2_with (first | (go_at_call 14; (with_reducible refine (CM.out _ (hm.dn HD.out) ma oa.out ea.out).mono ?_); rintro e w' ⟨rfl, d'⟩; refine Hid.out ?_))
  refine Lib.hid ?_
  clear ck0 ck1
  replace v2 := v2.dn d'
  replace v3 := v3.dn d'
  replace v5 := v5.dn d'
  replace v6 := v6.dn d'
  replace oa := Lib.hid (oa.out.dn d')
  replace HD := Lib.hid (HD.out.trans d')
  clear d'
  have ck0 := v3.iop
  go_wp2_with fail
  go_loopw [9] (fun k w => FrRel 16 w' k w) (fun k _ => 16 - (intOf k).toNat)
  case atStart => exact ⟨0, by decide, rfl, Dn.refl _⟩
  case round =>
    obtain ⟨j, hj, rfl, dn⟩ := hrel
    replace v2 := v2.dn dn
    replace v3 := v3.dn dn
    replace v5 := v5.dn dn
    replace v6 := v6.dn dn
    replace oa := Lib.hid (oa.out.dn dn)
    have HW := Lib.hid (HD.out.trans dn)
    have DJ := Lib.hid dn
    clear HD dn
    by_cases hlt : j < 16
    · have hlt2 : (j : Int) < 16 := by omega
      by_cases hjr : (j : Int) ≠ rd ∨ j = 0
      · have hz := RA.out j hlt hjr
        clear hjr
        have HD := Lib.hid (Dn.refl wr)
        have lo0 : (0 : Int) ≤ (j : Int) := by omega
        go_wp2_with fail
        have ck0 := v5.word la j (by simp; omega)
        have ck1 := v2.word hl j (by simp; omega)
        rw [hz] at ck0
        generalize m.c.getD j 0 = z at ck0 ck1
        have ck2 := v3.iop
        have ck3 := v3.ird
        have ck4 := v3.iimm
        have lck0 := fun d os => cell_regrown ck0 d os
        have lck1 := fun d os => cell_regrown ck1 d os
        have lck2 := fun d os => cell_regrown ck2 d os
        have lck3 := fun d os => cell_regrown ck3 d os
        have lck4 := fun d os => cell_regrown ck4 d os
        refine wp_region_quiet_below (by kernel_rfl) (by kernel_rfl) ?_
        repeat (first | go_big_quiet_skip | (go_big_quiet_want; (go_big_quiet_op; go_big_quiet_on)))
        refine wpQuiet_nil ?_
        intro _ hw'
        obtain ⟨⟨dq, osq⟩, hw''⟩ := hw'
        subst hw''
        have d' := below_regrown wr dq osq
        clear lck0 lck1 lck2 lck3 lck4 ck0 ck1 ck2 ck3 ck4
        replace v2 := v2.dn d'
        replace v3 := v3.dn d'
        replace v5 := v5.dn d'
        replace v6 := v6.dn d'
        replace oa := Lib.hid (oa.out.dn d')
        replace HD := Lib.hid (HD.out.trans d')
        clear d'
        generalize grow (redrawn wr dq) osq = w' at v2 v3 v5 v6 oa HD ⊢
        go_wp2_with fail
        exact ⟨⟨j + 1, by omega, by go_num, DJ.out.trans HD.out⟩, by simp [intOf]; omega⟩
      · obtain ⟨hj1, hj2⟩ : (j : Int) = rd ∧ j ≠ 0 := by omega
        clear hjr
        by_cases hz : ma.c.getD j 0 = m.c.getD j 0
        · clear hj1 hj2
          have HD := Lib.hid (Dn.refl wr)
          have lo0 : (0 : Int) ≤ (j : Int) := by omega
          go_wp2_with fail
          have ck0 := v5.word la j (by simp; omega)
          have ck1 := v2.word hl j (by simp; omega)
          rw [hz] at ck0
          generalize m.c.getD j 0 = z at ck0 ck1
          have ck2 := v3.iop
          have ck3 := v3.ird
          have ck4 := v3.iimm
          have lck0 := fun d os => cell_regrown ck0 d os
          have lck1 := fun d os => cell_regrown ck1 d os
          have lck2 := fun d os => cell_regrown ck2 d os
          have lck3 := fun d os => cell_regrown ck3 d os
          have lck4 := fun d os => cell_regrown ck4 d os
          refine wp_region_quiet_below (by kernel_rfl) (by kernel_rfl) ?_
          repeat (first | go_big_quiet_skip | (go_big_quiet_want; (go_big_quiet_op; go_big_quiet_on)))
          refine wpQuiet_nil ?_
          intro _ hw'
          obtain ⟨⟨dq, osq⟩, hw''⟩ := hw'
          subst hw''
          have d' := below_regrown wr dq osq
          clear lck0 lck1 lck2 lck3 lck4 ck0 ck1 ck2 ck3 ck4
          replace v2 := v2.dn d'
          replace v3 := v3.dn d'
          replace v5 := v5.dn d'
          replace v6 := v6.dn d'
          replace oa := Lib.hid (oa.out.dn d')
          replace HD := Lib.hid (HD.out.trans d')
          clear d'
          generalize grow (redrawn wr dq) osq = w' at v2 v3 v5 v6 oa HD ⊢
          go_wp2_with fail
          exact ⟨⟨j + 1, by omega, by go_num, DJ.out.trans HD.out⟩, by simp [intOf]; omega⟩
        · have hje : ((j : Int) == rd) = true := by rw [beq_iff_eq]; exact hj1
          have hjn : ((j : Int) != rd) = false := by rw [bne_eq_false_iff_eq]; exact hj1
          have hj3 : ((j : Int) == 0) = false := by rw [beq_eq_false_iff_ne]; omega
          have hzb : (ma.c.getD j 0 == m.c.getD j 0) = false := by rw [beq_eq_false_iff_ne]; exact hz
          have hzn : (ma.c.getD j 0 != m.c.getD j 0) = true := by rw [bne_iff_ne]; exact hz
          clear hz hj1 hj2
          have HD := Lib.hid (Dn.refl wr)
          have lo0 : (0 : Int) ≤ (j : Int) := by omega
          go_wp2_with fail
          have ck0 := v5.word la j (by simp; omega)
          have ck1 := v2.word hl j (by simp; omega)
          generalize ma.c.getD j 0 = y, m.c.getD j 0 = z at ck0 ck1 hzb hzn
          have ck2 := v3.iop
          have ck3 := v3.ird
          have ck4 := v3.iimm
          have lck0 := fun d os => cell_regrown ck0 d os
          have lck1 := fun d os => cell_regrown ck1 d os
          have lck2 := fun d os => cell_regrown ck2 d os
          have lck3 := fun d os => cell_regrown ck3 d os
          have lck4 := fun d os => cell_regrown ck4 d os
          refine wp_region_quiet_below (by kernel_rfl) (by kernel_rfl) ?_
          repeat (first | go_big_quiet_skip | (go_big_quiet_want; (go_big_quiet_op; go_big_quiet_on)))
          refine wpQuiet_nil ?_
          intro _ hw'
          obtain ⟨⟨dq, osq⟩, hw''⟩ := hw'
          subst hw''
          have d' := below_regrown wr dq osq
          clear lck0 lck1 lck2 lck3 lck4 ck0 ck1 ck2 ck3 ck4
          replace v2 := v2.dn d'
          replace v3 := v3.dn d'
          replace v5 := v5.dn d'
          replace v6 := v6.dn d'
          replace oa := Lib.hid (oa.out.dn d')
          replace HD := Lib.hid (HD.out.trans d')
          clear d'
          generalize grow (redrawn wr dq) osq = w' at v2 v3 v5 v6 oa HD ⊢
          go_wp2_with fail
          exact ⟨⟨j + 1, by omega, by go_num, DJ.out.trans HD.out⟩, by simp [intOf]; omega⟩
    · have hlt2 : ¬ (j : Int) < 16 := by omega
      have HD := HW
      have ck0 := v5.word la 16 rfl
      rw [na] at ck0
      have ck1 := v2.word hl 16 rfl
      rw [hpc] at ck1
      go_wp2_with fail
      go_ret
      exact ⟨rfl, HD.out⟩
end Go.Proofs.YthkhahfhbhgfhaaDoor
namespace Go.Proofs.YthkhahfhbhgfhaaDoor
open Go.ChangeShapes Go.WideShapes Go.ChangeAt Go.RowKit Go.Sort
set_option linter.unusedVariables false

set_option maxRecDepth 100000 in
set_option maxHeartbeats 2000000 in
theorem ef_18 (m : Mc) (rd ra rb imm : Int) (W : World) (hm : m.Ok W) (T : Is.Tabs W) (i0 : -2147483648 ≤ imm) (i1 : imm < 2147483648) (hx : m.xs.length ≤ 9223372036854775807) (hy : m.ys.length ≤ 9223372036854775807) (hf : decide (m.xs.length ≤ 600 ∧ m.ys.length ≤ 600) = true) (hpl : (Is.M.ok 18 rd ra rb imm && !Is.M.priv 18) = true) (c1 z1 : List Int) (p q : Int) (h1 : M.ex m.c m.xs 18 rd ra rb imm = ⟨c1, z1, 0, 0⟩) (hpc : m.c.getD 16 0 = p) (hq : c1.getD 16 0 = q) (hd : c1.drop 17 = m.c.drop 17) (hr : ∀ j : Nat, j < 16 → ((j : Int) ≠ rd ∨ j = 0) → c1.getD j 0 = m.c.getD j 0) (hz1 : z1 = m.xs) (hq5 : (q == (p + 4) % 4294967296) = false) :
    Calls Tryd.prog 3 #[.agg (mach m), .agg (ins 18 rd ra rb imm)] W fun e W' => e = .returned (.bool true) ∧ Dn W W' := by
  have hl := hm.len
  have hc := hm.core
  have hs : m.xs.length ≤ 100000 := by simp only [decide_eq_true_eq] at hf; omega
  have hy2 : m.ys.length ≤ 100000 := by simp only [decide_eq_true_eq] at hf; omega
  have hvp : Is.M.ok 18 rd ra rb imm = true ∧ Is.M.priv 18 = false := by simpa using hpl
  have C0 := Lib.hid fun w => fun (t : Is.Tabs w) => awake w t
  have CF := Lib.hid fun w => fun (ow : m.Ok w) => rfew m true w ow hx hy hf
  have CP := Lib.hid (rPlain 18 rd ra rb imm true i0 i1 hpl)
  have C1 := Lib.hid fun w => fun (ow : m.Ok w) (t : Is.Tabs w) => (by exact xRun m 18 rd ra rb imm _ _ rfl rfl ⟨c1, z1, 0, 0⟩ h1 hs i0 i1 hvp.1 hvp.2 w ow t : Calls Tryd.prog 12 #[.agg (mach m), .agg (ins 18 rd ra rb imm)] w fun e W' => ∃ m1, e = .returned (.tuple #[.agg (mach m1), .agg #[.int .i64 0, .int .u32 0]]) ∧ Hid (m1.Ok W') ∧ Hid (Exd m ⟨c1, z1, 0, 0⟩ m1) ∧ Dn w W')
  have CS := Lib.hid fun (w : World) (ow : m.Ok w) (ma : Mc) (oa : ma.Ok w) (ea : Exd m ⟨c1, z1, 0, 0⟩ ma) => same_yes ma.B m.B ma.q m.q ma.ys.length m.ys.length ma.ys m.ys w oa.out ow.out rfl rfl ea.ys (by rw [ea.ys]; exact hy2)
  have CM := Lib.hid fun (w : World) (ow : m.Ok w) (ma : Mc) (oa : ma.Ok w) (ea : Exd m ⟨c1, z1, 0, 0⟩ ma) => same_yes ma.A m.A ma.k m.k ma.xs.length m.xs.length ma.xs m.xs w oa.mem ow.mem rfl rfl (ea.xs.trans hz1) (by rw [ea.xs, hz1]; exact hs)
  have q0 := eqTrap_self 0 0
  have p0 := (M.core_pc hc).1
  have p1 := (M.core_pc hc).2
  rw [show M.pc m.c = p from hpc] at p0 p1
  have HQ := Lib.hid hq
  have HD1 := Lib.hid hd
  have HR := Lib.hid hr
  have hwr : IntKind.u32.wrap (p + 4) = (p + 4) % 4294967296 := rfl
  clear hf hpl hvp h1 hq hd hr hz1
  have HD := Lib.hid (Dn.refl W)
  go_enter Tryd.func3, Tryd.ntmps3
  go_wp2_with (first | ((with_reducible refine wpList_box (vs := (mach m)) ?_ ?_ ?_); rfl; rfl; intro b_v2 w' nn; refine Hid.out ?_))
  refine Lib.hid ?_
  have HL_v2 : Hid (W.heap.size ≤ b_v2) := Lib.hid (Blk.hi nn HD.out.size)
  have d' := nn.dn
  replace HD := Lib.hid (HD.out.trans d')
  have v2 := nn.blk
  clear d' nn
  go_wp2_with (first | ((with_reducible refine wpList_box (vs := (ins 18 rd ra rb imm)) ?_ ?_ ?_); rfl; rfl; intro b_v3 w' nn; refine Hid.out ?_))
  refine Lib.hid ?_
  have n_v2_v3 := Lib.hid (nn.ne _ v2.lt)
  have HL_v3 : Hid (W.heap.size ≤ b_v3) := Lib.hid (Blk.hi nn HD.out.size)
  have d' := nn.dn
  replace v2 := v2.dn d'
  replace HD := Lib.hid (HD.out.trans d')
  have v3 := nn.blk
  clear d' nn
  go_wp2_with (first | (go_at_call 9; (with_reducible refine (C0.out _ (T.dn HD.out)).mono ?_); rintro e w' ⟨rfl, d'⟩; refine Hid.out ?_))
  refine Lib.hid ?_
  replace v2 := v2.dn d'
  replace v3 := v3.dn d'
  replace HD := Lib.hid (HD.out.trans d')
  clear d'
  go_wp2_with (first | ((with_reducible refine load33 v2 hl ?_ ?_ ?_); rfl; rfl) | (go_at_call 10; (with_reducible refine (CF.out _ (hm.dn HD.out)).mono ?_); rintro e w' ⟨rfl, d'⟩; refine Hid.out ?_))
  refine Lib.hid ?_
  replace v2 := v2.dn d'
  replace v3 := v3.dn d'
  replace HD := Lib.hid (HD.out.trans d')
  clear d'
  go_wp2_with (first | ((with_reducible refine loadI v3 ?_ ?_ ?_); rfl; rfl) | (go_at_call 11; (with_reducible refine (CP.out _).mono ?_); rintro e w' ⟨rfl, d'⟩; refine Hid.out ?_))
  refine Lib.hid ?_
  replace v2 := v2.dn d'
  replace v3 := v3.dn d'
  replace HD := Lib.hid (HD.out.trans d')
  clear d'
  go_wp2_with (first | ((with_reducible refine load33 v2 hl ?_ ?_ ?_); rfl; rfl) | ((with_reducible refine loadI v3 ?_ ?_ ?_); rfl; rfl) | (go_at_call 12; (with_reducible refine (C1.out _ (hm.dn HD.out) (T.dn HD.out)).mono ?_); rintro e w' ⟨ma, rfl, oa', ea, d'⟩; refine Hid.out ?_))
  refine Lib.hid ?_
  replace v2 := v2.dn d'
  replace v3 := v3.dn d'
  replace HD := Lib.hid (HD.out.trans d')
  clear d'
  have la := oa'.out.len
  have nt : ma.t = m.t := ea.out.t
  have nh : ma.h = m.h := ea.out.h
  have na : ma.c.getD 16 0 = q := by rw [ea.out.c]; exact HQ.out
  have q12 : ∀ w, (Op.equalIn 10000 24 (.agg (ints .u32 (ma.c.drop 17))) (.agg (ints .u32 (m.c.drop 17)))).run Tryd.prog w = .ok true w := fun w => by rw [show ma.c.drop 17 = m.c.drop 17 by rw [ea.out.c]; exact HD1.out, eq12 (drop17 hl) (drop17 hl), beq_self_eq_true]
  have RA := Lib.hid (fun j hj => by rw [ea.out.c]; exact HR.out j hj : ∀ j : Nat, j < 16 → ((j : Int) ≠ rd ∨ j = 0) → ma.c.getD j 0 = m.c.getD j 0)
  have oa := Lib.hid oa'.out
  go_wp2_with (first | ((with_reducible refine wpList_alloc zeroMach ?_ ?_); rfl; intro b_v5 w' nn; refine Hid.out ?_))
  refine Lib.hid ?_
  have n_v2_v5 := Lib.hid (nn.ne _ v2.lt)
  have n_v3_v5 := Lib.hid (nn.ne _ v3.lt)
  have HL_v5 : Hid (W.heap.size ≤ b_v5) := Lib.hid (Blk.hi nn HD.out.size)
  have d' := nn.dn
  replace v2 := v2.dn d'
  replace v3 := v3.dn d'
  replace oa := Lib.hid (oa.out.dn d')
  replace HD := Lib.hid (HD.out.trans d')
  have v5 := nn.blk
  clear d' nn
  go_wp2_with (first | ((with_reducible refine wpList_alloc zeroTrap ?_ ?_); rfl; intro b_v6 w' nn; refine Hid.out ?_))
  refine Lib.hid ?_
  have n_v2_v6 := Lib.hid (nn.ne _ v2.lt)
  have n_v3_v6 := Lib.hid (nn.ne _ v3.lt)
  have n_v5_v6 := Lib.hid (nn.ne _ v5.lt)
  have HL_v6 : Hid (W.heap.size ≤ b_v6) := Lib.hid (Blk.hi nn HD.out.size)
  have d' := nn.dn
  replace v2 := v2.dn d'
  replace v3 := v3.dn d'
  replace v5 := v5.dn d'
  replace oa := Lib.hid (oa.out.dn d')
  replace HD := Lib.hid (HD.out.trans d')
  have v6 := nn.blk
  clear d' nn
  go_wp2_with (first | ((with_reducible refine store33 ma la v5 zlen ?_ ?_ ?_ ?_); rfl; rfl; rfl; intro w' r' t'; refine Hid.out ?_))
  refine Lib.hid ?_
  replace oa := Lib.hid (oa.out.trn v5 (NoU8.mach _) t')
  replace v2 := v2.trn t' n_v2_v5.out
  replace v3 := v3.trn t' n_v3_v5.out
  replace v6 := v6.trn t' n_v5_v6.out.symm
  replace HD := Lib.hid (HD.out.trn HL_v5.out t')
  clear t' v5
  have v5 := r'
  clear r'
  go_wp2_with (first | ((with_reducible refine storeTrap (k := 0) (v := 0) v6 ?_ ?_ ?_ ?_); rfl; rfl; rfl; intro w' r' t'; refine Hid.out ?_))
  refine Lib.hid ?_
  replace oa := Lib.hid (oa.out.trn v6 (NoU8.trap _ _) t')
  replace v2 := v2.trn t' n_v2_v6.out
  replace v3 := v3.trn t' n_v3_v6.out
  replace v5 := v5.trn t' n_v5_v6.out
  replace HD := Lib.hid (HD.out.trn HL_v6.out t')
  clear t' v6
  have v6 := r'
  clear r'
  have ck0 := v3.iop
  have ck1 := v5.time la
  rw [nt] at ck1
  have ck2 := v2.time hl
  have ck3 := v5.halted la
  rw [nh] at ck3
  have ck4 := v2.halted hl
  have ck5 := v5.out la
  have ck6 := v2.out hl
  go_wp2_with (first | ((with_reducible refine loadTrap v6 ?_ ?_ ?_); rfl; rfl) | ((with_reducible refine loadCsr v5 la ?_ ?_ ?_); rfl; rfl) | ((with_reducible refine loadCsr v2 hl ?_ ?_ ?_); rfl; rfl) | (go_at_call 14; (with_reducible refine (CS.out _ (hm.dn HD.out) ma oa.out ea.out).mono ?_); rintro e w' ⟨rfl, d'⟩; refine Hid.out ?_))
  refine Lib.hid ?_
  clear ck0 ck1 ck2 ck3 ck4 ck5 ck6
  replace v2 := v2.dn d'
  replace v3 := v3.dn d'
  replace v5 := v5.dn d'
  replace v6 := v6.dn d'
  replace oa := Lib.hid (oa.out.dn d')
  replace HD := Lib.hid (HD.out.trans d')
  clear d'
  have ck0 := v5.mem la
  have ck1 := v2.mem hl
  go_wp2_with (first | (go_at_call 14; (with_reducible refine (CM.out _ (hm.dn HD.out) ma oa.out ea.out).mono ?_); rintro e w' ⟨rfl, d'⟩; refine Hid.out ?_))
  refine Lib.hid ?_
  clear ck0 ck1
  replace v2 := v2.dn d'
  replace v3 := v3.dn d'
  replace v5 := v5.dn d'
  replace v6 := v6.dn d'
  replace oa := Lib.hid (oa.out.dn d')
  replace HD := Lib.hid (HD.out.trans d')
  clear d'
  have ck0 := v3.iop
  go_wp2_with fail
  go_loopw [9] (fun k w => FrRel 16 w' k w) (fun k _ => 16 - (intOf k).toNat)
  case atStart => exact ⟨0, by decide, rfl, Dn.refl _⟩
  case round =>
    obtain ⟨j, hj, rfl, dn⟩ := hrel
    replace v2 := v2.dn dn
    replace v3 := v3.dn dn
    replace v5 := v5.dn dn
    replace v6 := v6.dn dn
    replace oa := Lib.hid (oa.out.dn dn)
    have HW := Lib.hid (HD.out.trans dn)
    have DJ := Lib.hid dn
    clear HD dn
    by_cases hlt : j < 16
    · have hlt2 : (j : Int) < 16 := by omega
      by_cases hjr : (j : Int) ≠ rd ∨ j = 0
      · have hz := RA.out j hlt hjr
        clear hjr
        have HD := Lib.hid (Dn.refl wr)
        have lo0 : (0 : Int) ≤ (j : Int) := by omega
        go_wp2_with fail
        have ck0 := v5.word la j (by simp; omega)
        have ck1 := v2.word hl j (by simp; omega)
        rw [hz] at ck0
        generalize m.c.getD j 0 = z at ck0 ck1
        have ck2 := v3.iop
        have ck3 := v3.ird
        have ck4 := v3.iimm
        have lck0 := fun d os => cell_regrown ck0 d os
        have lck1 := fun d os => cell_regrown ck1 d os
        have lck2 := fun d os => cell_regrown ck2 d os
        have lck3 := fun d os => cell_regrown ck3 d os
        have lck4 := fun d os => cell_regrown ck4 d os
        refine wp_region_quiet_below (by kernel_rfl) (by kernel_rfl) ?_
        repeat (first | go_big_quiet_skip | (go_big_quiet_want; (go_big_quiet_op; go_big_quiet_on)))
        refine wpQuiet_nil ?_
        intro _ hw'
        obtain ⟨⟨dq, osq⟩, hw''⟩ := hw'
        subst hw''
        have d' := below_regrown wr dq osq
        clear lck0 lck1 lck2 lck3 lck4 ck0 ck1 ck2 ck3 ck4
        replace v2 := v2.dn d'
        replace v3 := v3.dn d'
        replace v5 := v5.dn d'
        replace v6 := v6.dn d'
        replace oa := Lib.hid (oa.out.dn d')
        replace HD := Lib.hid (HD.out.trans d')
        clear d'
        generalize grow (redrawn wr dq) osq = w' at v2 v3 v5 v6 oa HD ⊢
        go_wp2_with fail
        exact ⟨⟨j + 1, by omega, by go_num, DJ.out.trans HD.out⟩, by simp [intOf]; omega⟩
      · obtain ⟨hj1, hj2⟩ : (j : Int) = rd ∧ j ≠ 0 := by omega
        clear hjr
        by_cases hz : ma.c.getD j 0 = m.c.getD j 0
        · clear hj1 hj2
          have HD := Lib.hid (Dn.refl wr)
          have lo0 : (0 : Int) ≤ (j : Int) := by omega
          go_wp2_with fail
          have ck0 := v5.word la j (by simp; omega)
          have ck1 := v2.word hl j (by simp; omega)
          rw [hz] at ck0
          generalize m.c.getD j 0 = z at ck0 ck1
          have ck2 := v3.iop
          have ck3 := v3.ird
          have ck4 := v3.iimm
          have lck0 := fun d os => cell_regrown ck0 d os
          have lck1 := fun d os => cell_regrown ck1 d os
          have lck2 := fun d os => cell_regrown ck2 d os
          have lck3 := fun d os => cell_regrown ck3 d os
          have lck4 := fun d os => cell_regrown ck4 d os
          refine wp_region_quiet_below (by kernel_rfl) (by kernel_rfl) ?_
          repeat (first | go_big_quiet_skip | (go_big_quiet_want; (go_big_quiet_op; go_big_quiet_on)))
          refine wpQuiet_nil ?_
          intro _ hw'
          obtain ⟨⟨dq, osq⟩, hw''⟩ := hw'
          subst hw''
          have d' := below_regrown wr dq osq
          clear lck0 lck1 lck2 lck3 lck4 ck0 ck1 ck2 ck3 ck4
          replace v2 := v2.dn d'
          replace v3 := v3.dn d'
          replace v5 := v5.dn d'
          replace v6 := v6.dn d'
          replace oa := Lib.hid (oa.out.dn d')
          replace HD := Lib.hid (HD.out.trans d')
          clear d'
          generalize grow (redrawn wr dq) osq = w' at v2 v3 v5 v6 oa HD ⊢
          go_wp2_with fail
          exact ⟨⟨j + 1, by omega, by go_num, DJ.out.trans HD.out⟩, by simp [intOf]; omega⟩
        · have hje : ((j : Int) == rd) = true := by rw [beq_iff_eq]; exact hj1
          have hjn : ((j : Int) != rd) = false := by rw [bne_eq_false_iff_eq]; exact hj1
          have hj3 : ((j : Int) == 0) = false := by rw [beq_eq_false_iff_ne]; omega
          have hzb : (ma.c.getD j 0 == m.c.getD j 0) = false := by rw [beq_eq_false_iff_ne]; exact hz
          have hzn : (ma.c.getD j 0 != m.c.getD j 0) = true := by rw [bne_iff_ne]; exact hz
          clear hz hj1 hj2
          have HD := Lib.hid (Dn.refl wr)
          have lo0 : (0 : Int) ≤ (j : Int) := by omega
          go_wp2_with fail
          have ck0 := v5.word la j (by simp; omega)
          have ck1 := v2.word hl j (by simp; omega)
          generalize ma.c.getD j 0 = y, m.c.getD j 0 = z at ck0 ck1 hzb hzn
          have ck2 := v3.iop
          have ck3 := v3.ird
          have ck4 := v3.iimm
          have lck0 := fun d os => cell_regrown ck0 d os
          have lck1 := fun d os => cell_regrown ck1 d os
          have lck2 := fun d os => cell_regrown ck2 d os
          have lck3 := fun d os => cell_regrown ck3 d os
          have lck4 := fun d os => cell_regrown ck4 d os
          refine wp_region_quiet_below (by kernel_rfl) (by kernel_rfl) ?_
          repeat (first | go_big_quiet_skip | (go_big_quiet_want; (go_big_quiet_op; go_big_quiet_on)))
          refine wpQuiet_nil ?_
          intro _ hw'
          obtain ⟨⟨dq, osq⟩, hw''⟩ := hw'
          subst hw''
          have d' := below_regrown wr dq osq
          clear lck0 lck1 lck2 lck3 lck4 ck0 ck1 ck2 ck3 ck4
          replace v2 := v2.dn d'
          replace v3 := v3.dn d'
          replace v5 := v5.dn d'
          replace v6 := v6.dn d'
          replace oa := Lib.hid (oa.out.dn d')
          replace HD := Lib.hid (HD.out.trans d')
          clear d'
          generalize grow (redrawn wr dq) osq = w' at v2 v3 v5 v6 oa HD ⊢
          go_wp2_with fail
          exact ⟨⟨j + 1, by omega, by go_num, DJ.out.trans HD.out⟩, by simp [intOf]; omega⟩
    · have hlt2 : ¬ (j : Int) < 16 := by omega
      have HD := HW
      have ck0 := v5.word la 16 rfl
      rw [na] at ck0
      have ck1 := v2.word hl 16 rfl
      rw [hpc] at ck1
      have ck2 := v3.iop
      go_wp2_with fail
      go_ret
      exact ⟨rfl, HD.out⟩
set_option maxRecDepth 100000 in
set_option maxHeartbeats 2000000 in
theorem ef_19 (m : Mc) (rd ra rb imm : Int) (W : World) (hm : m.Ok W) (T : Is.Tabs W) (i0 : -2147483648 ≤ imm) (i1 : imm < 2147483648) (hx : m.xs.length ≤ 9223372036854775807) (hy : m.ys.length ≤ 9223372036854775807) (hf : decide (m.xs.length ≤ 600 ∧ m.ys.length ≤ 600) = true) (hpl : (Is.M.ok 19 rd ra rb imm && !Is.M.priv 19) = true) (c1 z1 : List Int) (p q : Int) (h1 : M.ex m.c m.xs 19 rd ra rb imm = ⟨c1, z1, 0, 0⟩) (hpc : m.c.getD 16 0 = p) (hq : c1.getD 16 0 = q) (hd : c1.drop 17 = m.c.drop 17) (hr : ∀ j : Nat, j < 16 → ((j : Int) ≠ rd ∨ j = 0) → c1.getD j 0 = m.c.getD j 0) (hz1 : z1 = m.xs) (hq5 : (q == (p + 4) % 4294967296) = false) :
    Calls Tryd.prog 3 #[.agg (mach m), .agg (ins 19 rd ra rb imm)] W fun e W' => e = .returned (.bool true) ∧ Dn W W' := by
  have hl := hm.len
  have hc := hm.core
  have hs : m.xs.length ≤ 100000 := by simp only [decide_eq_true_eq] at hf; omega
  have hy2 : m.ys.length ≤ 100000 := by simp only [decide_eq_true_eq] at hf; omega
  have hvp : Is.M.ok 19 rd ra rb imm = true ∧ Is.M.priv 19 = false := by simpa using hpl
  have C0 := Lib.hid fun w => fun (t : Is.Tabs w) => awake w t
  have CF := Lib.hid fun w => fun (ow : m.Ok w) => rfew m true w ow hx hy hf
  have CP := Lib.hid (rPlain 19 rd ra rb imm true i0 i1 hpl)
  have C1 := Lib.hid fun w => fun (ow : m.Ok w) (t : Is.Tabs w) => (by exact xRun m 19 rd ra rb imm _ _ rfl rfl ⟨c1, z1, 0, 0⟩ h1 hs i0 i1 hvp.1 hvp.2 w ow t : Calls Tryd.prog 12 #[.agg (mach m), .agg (ins 19 rd ra rb imm)] w fun e W' => ∃ m1, e = .returned (.tuple #[.agg (mach m1), .agg #[.int .i64 0, .int .u32 0]]) ∧ Hid (m1.Ok W') ∧ Hid (Exd m ⟨c1, z1, 0, 0⟩ m1) ∧ Dn w W')
  have CS := Lib.hid fun (w : World) (ow : m.Ok w) (ma : Mc) (oa : ma.Ok w) (ea : Exd m ⟨c1, z1, 0, 0⟩ ma) => same_yes ma.B m.B ma.q m.q ma.ys.length m.ys.length ma.ys m.ys w oa.out ow.out rfl rfl ea.ys (by rw [ea.ys]; exact hy2)
  have CM := Lib.hid fun (w : World) (ow : m.Ok w) (ma : Mc) (oa : ma.Ok w) (ea : Exd m ⟨c1, z1, 0, 0⟩ ma) => same_yes ma.A m.A ma.k m.k ma.xs.length m.xs.length ma.xs m.xs w oa.mem ow.mem rfl rfl (ea.xs.trans hz1) (by rw [ea.xs, hz1]; exact hs)
  have q0 := eqTrap_self 0 0
  have p0 := (M.core_pc hc).1
  have p1 := (M.core_pc hc).2
  rw [show M.pc m.c = p from hpc] at p0 p1
  have HQ := Lib.hid hq
  have HD1 := Lib.hid hd
  have HR := Lib.hid hr
  have hwr : IntKind.u32.wrap (p + 4) = (p + 4) % 4294967296 := rfl
  clear hf hpl hvp h1 hq hd hr hz1
  have HD := Lib.hid (Dn.refl W)
  go_enter Tryd.func3, Tryd.ntmps3
  go_wp2_with (first | ((with_reducible refine wpList_box (vs := (mach m)) ?_ ?_ ?_); rfl; rfl; intro b_v2 w' nn; refine Hid.out ?_))
  refine Lib.hid ?_
  have HL_v2 : Hid (W.heap.size ≤ b_v2) := Lib.hid (Blk.hi nn HD.out.size)
  have d' := nn.dn
  replace HD := Lib.hid (HD.out.trans d')
  have v2 := nn.blk
  clear d' nn
  go_wp2_with (first | ((with_reducible refine wpList_box (vs := (ins 19 rd ra rb imm)) ?_ ?_ ?_); rfl; rfl; intro b_v3 w' nn; refine Hid.out ?_))
  refine Lib.hid ?_
  have n_v2_v3 := Lib.hid (nn.ne _ v2.lt)
  have HL_v3 : Hid (W.heap.size ≤ b_v3) := Lib.hid (Blk.hi nn HD.out.size)
  have d' := nn.dn
  replace v2 := v2.dn d'
  replace HD := Lib.hid (HD.out.trans d')
  have v3 := nn.blk
  clear d' nn
  go_wp2_with (first | (go_at_call 9; (with_reducible refine (C0.out _ (T.dn HD.out)).mono ?_); rintro e w' ⟨rfl, d'⟩; refine Hid.out ?_))
  refine Lib.hid ?_
  replace v2 := v2.dn d'
  replace v3 := v3.dn d'
  replace HD := Lib.hid (HD.out.trans d')
  clear d'
  go_wp2_with (first | ((with_reducible refine load33 v2 hl ?_ ?_ ?_); rfl; rfl) | (go_at_call 10; (with_reducible refine (CF.out _ (hm.dn HD.out)).mono ?_); rintro e w' ⟨rfl, d'⟩; refine Hid.out ?_))
  refine Lib.hid ?_
  replace v2 := v2.dn d'
  replace v3 := v3.dn d'
  replace HD := Lib.hid (HD.out.trans d')
  clear d'
  go_wp2_with (first | ((with_reducible refine loadI v3 ?_ ?_ ?_); rfl; rfl) | (go_at_call 11; (with_reducible refine (CP.out _).mono ?_); rintro e w' ⟨rfl, d'⟩; refine Hid.out ?_))
  refine Lib.hid ?_
  replace v2 := v2.dn d'
  replace v3 := v3.dn d'
  replace HD := Lib.hid (HD.out.trans d')
  clear d'
  go_wp2_with (first | ((with_reducible refine load33 v2 hl ?_ ?_ ?_); rfl; rfl) | ((with_reducible refine loadI v3 ?_ ?_ ?_); rfl; rfl) | (go_at_call 12; (with_reducible refine (C1.out _ (hm.dn HD.out) (T.dn HD.out)).mono ?_); rintro e w' ⟨ma, rfl, oa', ea, d'⟩; refine Hid.out ?_))
  refine Lib.hid ?_
  replace v2 := v2.dn d'
  replace v3 := v3.dn d'
  replace HD := Lib.hid (HD.out.trans d')
  clear d'
  have la := oa'.out.len
  have nt : ma.t = m.t := ea.out.t
  have nh : ma.h = m.h := ea.out.h
  have na : ma.c.getD 16 0 = q := by rw [ea.out.c]; exact HQ.out
  have q12 : ∀ w, (Op.equalIn 10000 24 (.agg (ints .u32 (ma.c.drop 17))) (.agg (ints .u32 (m.c.drop 17)))).run Tryd.prog w = .ok true w := fun w => by rw [show ma.c.drop 17 = m.c.drop 17 by rw [ea.out.c]; exact HD1.out, eq12 (drop17 hl) (drop17 hl), beq_self_eq_true]
  have RA := Lib.hid (fun j hj => by rw [ea.out.c]; exact HR.out j hj : ∀ j : Nat, j < 16 → ((j : Int) ≠ rd ∨ j = 0) → ma.c.getD j 0 = m.c.getD j 0)
  have oa := Lib.hid oa'.out
  go_wp2_with (first | ((with_reducible refine wpList_alloc zeroMach ?_ ?_); rfl; intro b_v5 w' nn; refine Hid.out ?_))
  refine Lib.hid ?_
  have n_v2_v5 := Lib.hid (nn.ne _ v2.lt)
  have n_v3_v5 := Lib.hid (nn.ne _ v3.lt)
  have HL_v5 : Hid (W.heap.size ≤ b_v5) := Lib.hid (Blk.hi nn HD.out.size)
  have d' := nn.dn
  replace v2 := v2.dn d'
  replace v3 := v3.dn d'
  replace oa := Lib.hid (oa.out.dn d')
  replace HD := Lib.hid (HD.out.trans d')
  have v5 := nn.blk
  clear d' nn
  go_wp2_with (first | ((with_reducible refine wpList_alloc zeroTrap ?_ ?_); rfl; intro b_v6 w' nn; refine Hid.out ?_))
  refine Lib.hid ?_
  have n_v2_v6 := Lib.hid (nn.ne _ v2.lt)
  have n_v3_v6 := Lib.hid (nn.ne _ v3.lt)
  have n_v5_v6 := Lib.hid (nn.ne _ v5.lt)
  have HL_v6 : Hid (W.heap.size ≤ b_v6) := Lib.hid (Blk.hi nn HD.out.size)
  have d' := nn.dn
  replace v2 := v2.dn d'
  replace v3 := v3.dn d'
  replace v5 := v5.dn d'
  replace oa := Lib.hid (oa.out.dn d')
  replace HD := Lib.hid (HD.out.trans d')
  have v6 := nn.blk
  clear d' nn
  go_wp2_with (first | ((with_reducible refine store33 ma la v5 zlen ?_ ?_ ?_ ?_); rfl; rfl; rfl; intro w' r' t'; refine Hid.out ?_))
  refine Lib.hid ?_
  replace oa := Lib.hid (oa.out.trn v5 (NoU8.mach _) t')
  replace v2 := v2.trn t' n_v2_v5.out
  replace v3 := v3.trn t' n_v3_v5.out
  replace v6 := v6.trn t' n_v5_v6.out.symm
  replace HD := Lib.hid (HD.out.trn HL_v5.out t')
  clear t' v5
  have v5 := r'
  clear r'
  go_wp2_with (first | ((with_reducible refine storeTrap (k := 0) (v := 0) v6 ?_ ?_ ?_ ?_); rfl; rfl; rfl; intro w' r' t'; refine Hid.out ?_))
  refine Lib.hid ?_
  replace oa := Lib.hid (oa.out.trn v6 (NoU8.trap _ _) t')
  replace v2 := v2.trn t' n_v2_v6.out
  replace v3 := v3.trn t' n_v3_v6.out
  replace v5 := v5.trn t' n_v5_v6.out
  replace HD := Lib.hid (HD.out.trn HL_v6.out t')
  clear t' v6
  have v6 := r'
  clear r'
  have ck0 := v3.iop
  have ck1 := v5.time la
  rw [nt] at ck1
  have ck2 := v2.time hl
  have ck3 := v5.halted la
  rw [nh] at ck3
  have ck4 := v2.halted hl
  have ck5 := v5.out la
  have ck6 := v2.out hl
  go_wp2_with (first | ((with_reducible refine loadTrap v6 ?_ ?_ ?_); rfl; rfl) | ((with_reducible refine loadCsr v5 la ?_ ?_ ?_); rfl; rfl) | ((with_reducible refine loadCsr v2 hl ?_ ?_ ?_); rfl; rfl) | (go_at_call 14; (with_reducible refine (CS.out _ (hm.dn HD.out) ma oa.out ea.out).mono ?_); rintro e w' ⟨rfl, d'⟩; refine Hid.out ?_))
  refine Lib.hid ?_
  clear ck0 ck1 ck2 ck3 ck4 ck5 ck6
  replace v2 := v2.dn d'
  replace v3 := v3.dn d'
  replace v5 := v5.dn d'
  replace v6 := v6.dn d'
  replace oa := Lib.hid (oa.out.dn d')
  replace HD := Lib.hid (HD.out.trans d')
  clear d'
  have ck0 := v5.mem la
  have ck1 := v2.mem hl
  go_wp2_with (first | (go_at_call 14; (with_reducible refine (CM.out _ (hm.dn HD.out) ma oa.out ea.out).mono ?_); rintro e w' ⟨rfl, d'⟩; refine Hid.out ?_))
  refine Lib.hid ?_
  clear ck0 ck1
  replace v2 := v2.dn d'
  replace v3 := v3.dn d'
  replace v5 := v5.dn d'
  replace v6 := v6.dn d'
  replace oa := Lib.hid (oa.out.dn d')
  replace HD := Lib.hid (HD.out.trans d')
  clear d'
  have ck0 := v3.iop
  go_wp2_with fail
  go_loopw [9] (fun k w => FrRel 16 w' k w) (fun k _ => 16 - (intOf k).toNat)
  case atStart => exact ⟨0, by decide, rfl, Dn.refl _⟩
  case round =>
    obtain ⟨j, hj, rfl, dn⟩ := hrel
    replace v2 := v2.dn dn
    replace v3 := v3.dn dn
    replace v5 := v5.dn dn
    replace v6 := v6.dn dn
    replace oa := Lib.hid (oa.out.dn dn)
    have HW := Lib.hid (HD.out.trans dn)
    have DJ := Lib.hid dn
    clear HD dn
    by_cases hlt : j < 16
    · have hlt2 : (j : Int) < 16 := by omega
      by_cases hjr : (j : Int) ≠ rd ∨ j = 0
      · have hz := RA.out j hlt hjr
        clear hjr
        have HD := Lib.hid (Dn.refl wr)
        have lo0 : (0 : Int) ≤ (j : Int) := by omega
        go_wp2_with fail
        have ck0 := v5.word la j (by simp; omega)
        have ck1 := v2.word hl j (by simp; omega)
        rw [hz] at ck0
        generalize m.c.getD j 0 = z at ck0 ck1
        have ck2 := v3.iop
        have ck3 := v3.ird
        have ck4 := v3.iimm
        have lck0 := fun d os => cell_regrown ck0 d os
        have lck1 := fun d os => cell_regrown ck1 d os
        have lck2 := fun d os => cell_regrown ck2 d os
        have lck3 := fun d os => cell_regrown ck3 d os
        have lck4 := fun d os => cell_regrown ck4 d os
        refine wp_region_quiet_below (by kernel_rfl) (by kernel_rfl) ?_
        repeat (first | go_big_quiet_skip | (go_big_quiet_want; (go_big_quiet_op; go_big_quiet_on)))
        refine wpQuiet_nil ?_
        intro _ hw'
        obtain ⟨⟨dq, osq⟩, hw''⟩ := hw'
        subst hw''
        have d' := below_regrown wr dq osq
        clear lck0 lck1 lck2 lck3 lck4 ck0 ck1 ck2 ck3 ck4
        replace v2 := v2.dn d'
        replace v3 := v3.dn d'
        replace v5 := v5.dn d'
        replace v6 := v6.dn d'
        replace oa := Lib.hid (oa.out.dn d')
        replace HD := Lib.hid (HD.out.trans d')
        clear d'
        generalize grow (redrawn wr dq) osq = w' at v2 v3 v5 v6 oa HD ⊢
        go_wp2_with fail
        exact ⟨⟨j + 1, by omega, by go_num, DJ.out.trans HD.out⟩, by simp [intOf]; omega⟩
      · obtain ⟨hj1, hj2⟩ : (j : Int) = rd ∧ j ≠ 0 := by omega
        clear hjr
        by_cases hz : ma.c.getD j 0 = m.c.getD j 0
        · clear hj1 hj2
          have HD := Lib.hid (Dn.refl wr)
          have lo0 : (0 : Int) ≤ (j : Int) := by omega
          go_wp2_with fail
          have ck0 := v5.word la j (by simp; omega)
          have ck1 := v2.word hl j (by simp; omega)
          rw [hz] at ck0
          generalize m.c.getD j 0 = z at ck0 ck1
          have ck2 := v3.iop
          have ck3 := v3.ird
          have ck4 := v3.iimm
          have lck0 := fun d os => cell_regrown ck0 d os
          have lck1 := fun d os => cell_regrown ck1 d os
          have lck2 := fun d os => cell_regrown ck2 d os
          have lck3 := fun d os => cell_regrown ck3 d os
          have lck4 := fun d os => cell_regrown ck4 d os
          refine wp_region_quiet_below (by kernel_rfl) (by kernel_rfl) ?_
          repeat (first | go_big_quiet_skip | (go_big_quiet_want; (go_big_quiet_op; go_big_quiet_on)))
          refine wpQuiet_nil ?_
          intro _ hw'
          obtain ⟨⟨dq, osq⟩, hw''⟩ := hw'
          subst hw''
          have d' := below_regrown wr dq osq
          clear lck0 lck1 lck2 lck3 lck4 ck0 ck1 ck2 ck3 ck4
          replace v2 := v2.dn d'
          replace v3 := v3.dn d'
          replace v5 := v5.dn d'
          replace v6 := v6.dn d'
          replace oa := Lib.hid (oa.out.dn d')
          replace HD := Lib.hid (HD.out.trans d')
          clear d'
          generalize grow (redrawn wr dq) osq = w' at v2 v3 v5 v6 oa HD ⊢
          go_wp2_with fail
          exact ⟨⟨j + 1, by omega, by go_num, DJ.out.trans HD.out⟩, by simp [intOf]; omega⟩
        · have hje : ((j : Int) == rd) = true := by rw [beq_iff_eq]; exact hj1
          have hjn : ((j : Int) != rd) = false := by rw [bne_eq_false_iff_eq]; exact hj1
          have hj3 : ((j : Int) == 0) = false := by rw [beq_eq_false_iff_ne]; omega
          have hzb : (ma.c.getD j 0 == m.c.getD j 0) = false := by rw [beq_eq_false_iff_ne]; exact hz
          have hzn : (ma.c.getD j 0 != m.c.getD j 0) = true := by rw [bne_iff_ne]; exact hz
          clear hz hj1 hj2
          have HD := Lib.hid (Dn.refl wr)
          have lo0 : (0 : Int) ≤ (j : Int) := by omega
          go_wp2_with fail
          have ck0 := v5.word la j (by simp; omega)
          have ck1 := v2.word hl j (by simp; omega)
          generalize ma.c.getD j 0 = y, m.c.getD j 0 = z at ck0 ck1 hzb hzn
          have ck2 := v3.iop
          have ck3 := v3.ird
          have ck4 := v3.iimm
          have lck0 := fun d os => cell_regrown ck0 d os
          have lck1 := fun d os => cell_regrown ck1 d os
          have lck2 := fun d os => cell_regrown ck2 d os
          have lck3 := fun d os => cell_regrown ck3 d os
          have lck4 := fun d os => cell_regrown ck4 d os
          refine wp_region_quiet_below (by kernel_rfl) (by kernel_rfl) ?_
          repeat (first | go_big_quiet_skip | (go_big_quiet_want; (go_big_quiet_op; go_big_quiet_on)))
          refine wpQuiet_nil ?_
          intro _ hw'
          obtain ⟨⟨dq, osq⟩, hw''⟩ := hw'
          subst hw''
          have d' := below_regrown wr dq osq
          clear lck0 lck1 lck2 lck3 lck4 ck0 ck1 ck2 ck3 ck4
          replace v2 := v2.dn d'
          replace v3 := v3.dn d'
          replace v5 := v5.dn d'
          replace v6 := v6.dn d'
          replace oa := Lib.hid (oa.out.dn d')
          replace HD := Lib.hid (HD.out.trans d')
          clear d'
          generalize grow (redrawn wr dq) osq = w' at v2 v3 v5 v6 oa HD ⊢
          go_wp2_with fail
          exact ⟨⟨j + 1, by omega, by go_num, DJ.out.trans HD.out⟩, by simp [intOf]; omega⟩
    · have hlt2 : ¬ (j : Int) < 16 := by omega
      have HD := HW
      have ck0 := v5.word la 16 rfl
      rw [na] at ck0
      have ck1 := v2.word hl 16 rfl
      rw [hpc] at ck1
      have ck2 := v3.iop
      go_wp2_with fail
      go_ret
      exact ⟨rfl, HD.out⟩
end Go.Proofs.YthkhahfhbhgfhaaDoor
namespace Go.Proofs.YthkhahfhbhgfhaaDoor
open Go.ChangeShapes Go.WideShapes Go.ChangeAt Go.RowKit Go.Sort
set_option linter.unusedVariables false

set_option maxRecDepth 100000 in
set_option maxHeartbeats 2000000 in
theorem ef_12 (m : Mc) (rd ra rb imm : Int) (W : World) (hm : m.Ok W) (T : Is.Tabs W) (i0 : -2147483648 ≤ imm) (i1 : imm < 2147483648) (hx : m.xs.length ≤ 9223372036854775807) (hy : m.ys.length ≤ 9223372036854775807) (hf : decide (m.xs.length ≤ 600 ∧ m.ys.length ≤ 600) = true) (hpl : (Is.M.ok 12 rd ra rb imm && !Is.M.priv 12) = true) (c1 z1 : List Int) (p q : Int) (h1 : M.ex m.c m.xs 12 rd ra rb imm = ⟨c1, z1, 0, 0⟩) (hpc : m.c.getD 16 0 = p) (hq : c1.getD 16 0 = q) (hd : c1.drop 17 = m.c.drop 17) (hr : ∀ j : Nat, j < 16 → c1.getD j 0 = m.c.getD j 0) (hq5 : (q == (p + 4) % 4294967296) = true) :
    Calls Tryd.prog 3 #[.agg (mach m), .agg (ins 12 rd ra rb imm)] W fun e W' => e = .returned (.bool true) ∧ Dn W W' := by
  have hl := hm.len
  have hc := hm.core
  have hs : m.xs.length ≤ 100000 := by simp only [decide_eq_true_eq] at hf; omega
  have hy2 : m.ys.length ≤ 100000 := by simp only [decide_eq_true_eq] at hf; omega
  have hvp : Is.M.ok 12 rd ra rb imm = true ∧ Is.M.priv 12 = false := by simpa using hpl
  have C0 := Lib.hid fun w => fun (t : Is.Tabs w) => awake w t
  have CF := Lib.hid fun w => fun (ow : m.Ok w) => rfew m true w ow hx hy hf
  have CP := Lib.hid (rPlain 12 rd ra rb imm true i0 i1 hpl)
  have C1 := Lib.hid fun w => fun (ow : m.Ok w) (t : Is.Tabs w) => (by exact xRun m 12 rd ra rb imm _ _ rfl rfl ⟨c1, z1, 0, 0⟩ h1 hs i0 i1 hvp.1 hvp.2 w ow t : Calls Tryd.prog 12 #[.agg (mach m), .agg (ins 12 rd ra rb imm)] w fun e W' => ∃ m1, e = .returned (.tuple #[.agg (mach m1), .agg #[.int .i64 0, .int .u32 0]]) ∧ Hid (m1.Ok W') ∧ Hid (Exd m ⟨c1, z1, 0, 0⟩ m1) ∧ Dn w W')
  have CS := Lib.hid fun (w : World) (ow : m.Ok w) (ma : Mc) (oa : ma.Ok w) (ea : Exd m ⟨c1, z1, 0, 0⟩ ma) => same_yes ma.B m.B ma.q m.q ma.ys.length m.ys.length ma.ys m.ys w oa.out ow.out rfl rfl ea.ys (by rw [ea.ys]; exact hy2)
  have q0 := eqTrap_self 0 0
  have p0 := (M.core_pc hc).1
  have p1 := (M.core_pc hc).2
  rw [show M.pc m.c = p from hpc] at p0 p1
  have HQ := Lib.hid hq
  have HD1 := Lib.hid hd
  have HR := Lib.hid hr
  have hwr : IntKind.u32.wrap (p + 4) = (p + 4) % 4294967296 := rfl
  clear hf hpl hvp h1 hq hd hr
  have HD := Lib.hid (Dn.refl W)
  go_enter Tryd.func3, Tryd.ntmps3
  go_wp2_with (first | ((with_reducible refine wpList_box (vs := (mach m)) ?_ ?_ ?_); rfl; rfl; intro b_v2 w' nn; refine Hid.out ?_))
  refine Lib.hid ?_
  have HL_v2 : Hid (W.heap.size ≤ b_v2) := Lib.hid (Blk.hi nn HD.out.size)
  have d' := nn.dn
  replace HD := Lib.hid (HD.out.trans d')
  have v2 := nn.blk
  clear d' nn
  go_wp2_with (first | ((with_reducible refine wpList_box (vs := (ins 12 rd ra rb imm)) ?_ ?_ ?_); rfl; rfl; intro b_v3 w' nn; refine Hid.out ?_))
  refine Lib.hid ?_
  have n_v2_v3 := Lib.hid (nn.ne _ v2.lt)
  have HL_v3 : Hid (W.heap.size ≤ b_v3) := Lib.hid (Blk.hi nn HD.out.size)
  have d' := nn.dn
  replace v2 := v2.dn d'
  replace HD := Lib.hid (HD.out.trans d')
  have v3 := nn.blk
  clear d' nn
  go_wp2_with (first | (go_at_call 9; (with_reducible refine (C0.out _ (T.dn HD.out)).mono ?_); rintro e w' ⟨rfl, d'⟩; refine Hid.out ?_))
  refine Lib.hid ?_
  replace v2 := v2.dn d'
  replace v3 := v3.dn d'
  replace HD := Lib.hid (HD.out.trans d')
  clear d'
  go_wp2_with (first | ((with_reducible refine load33 v2 hl ?_ ?_ ?_); rfl; rfl) | (go_at_call 10; (with_reducible refine (CF.out _ (hm.dn HD.out)).mono ?_); rintro e w' ⟨rfl, d'⟩; refine Hid.out ?_))
  refine Lib.hid ?_
  replace v2 := v2.dn d'
  replace v3 := v3.dn d'
  replace HD := Lib.hid (HD.out.trans d')
  clear d'
  go_wp2_with (first | ((with_reducible refine loadI v3 ?_ ?_ ?_); rfl; rfl) | (go_at_call 11; (with_reducible refine (CP.out _).mono ?_); rintro e w' ⟨rfl, d'⟩; refine Hid.out ?_))
  refine Lib.hid ?_
  replace v2 := v2.dn d'
  replace v3 := v3.dn d'
  replace HD := Lib.hid (HD.out.trans d')
  clear d'
  go_wp2_with (first | ((with_reducible refine load33 v2 hl ?_ ?_ ?_); rfl; rfl) | ((with_reducible refine loadI v3 ?_ ?_ ?_); rfl; rfl) | (go_at_call 12; (with_reducible refine (C1.out _ (hm.dn HD.out) (T.dn HD.out)).mono ?_); rintro e w' ⟨ma, rfl, oa', ea, d'⟩; refine Hid.out ?_))
  refine Lib.hid ?_
  replace v2 := v2.dn d'
  replace v3 := v3.dn d'
  replace HD := Lib.hid (HD.out.trans d')
  clear d'
  have la := oa'.out.len
  have nt : ma.t = m.t := ea.out.t
  have nh : ma.h = m.h := ea.out.h
  have na : ma.c.getD 16 0 = q := by rw [ea.out.c]; exact HQ.out
  have q12 : ∀ w, (Op.equalIn 10000 24 (.agg (ints .u32 (ma.c.drop 17))) (.agg (ints .u32 (m.c.drop 17)))).run Tryd.prog w = .ok true w := fun w => by rw [show ma.c.drop 17 = m.c.drop 17 by rw [ea.out.c]; exact HD1.out, eq12 (drop17 hl) (drop17 hl), beq_self_eq_true]
  have RA := Lib.hid (fun j hj => by rw [ea.out.c]; exact HR.out j hj : ∀ j : Nat, j < 16 → ma.c.getD j 0 = m.c.getD j 0)
  have oa := Lib.hid oa'.out
  go_wp2_with (first | ((with_reducible refine wpList_alloc zeroMach ?_ ?_); rfl; intro b_v5 w' nn; refine Hid.out ?_))
  refine Lib.hid ?_
  have n_v2_v5 := Lib.hid (nn.ne _ v2.lt)
  have n_v3_v5 := Lib.hid (nn.ne _ v3.lt)
  have HL_v5 : Hid (W.heap.size ≤ b_v5) := Lib.hid (Blk.hi nn HD.out.size)
  have d' := nn.dn
  replace v2 := v2.dn d'
  replace v3 := v3.dn d'
  replace oa := Lib.hid (oa.out.dn d')
  replace HD := Lib.hid (HD.out.trans d')
  have v5 := nn.blk
  clear d' nn
  go_wp2_with (first | ((with_reducible refine wpList_alloc zeroTrap ?_ ?_); rfl; intro b_v6 w' nn; refine Hid.out ?_))
  refine Lib.hid ?_
  have n_v2_v6 := Lib.hid (nn.ne _ v2.lt)
  have n_v3_v6 := Lib.hid (nn.ne _ v3.lt)
  have n_v5_v6 := Lib.hid (nn.ne _ v5.lt)
  have HL_v6 : Hid (W.heap.size ≤ b_v6) := Lib.hid (Blk.hi nn HD.out.size)
  have d' := nn.dn
  replace v2 := v2.dn d'
  replace v3 := v3.dn d'
  replace v5 := v5.dn d'
  replace oa := Lib.hid (oa.out.dn d')
  replace HD := Lib.hid (HD.out.trans d')
  have v6 := nn.blk
  clear d' nn
  go_wp2_with (first | ((with_reducible refine store33 ma la v5 zlen ?_ ?_ ?_ ?_); rfl; rfl; rfl; intro w' r' t'; refine Hid.out ?_))
  refine Lib.hid ?_
  replace oa := Lib.hid (oa.out.trn v5 (NoU8.mach _) t')
  replace v2 := v2.trn t' n_v2_v5.out
  replace v3 := v3.trn t' n_v3_v5.out
  replace v6 := v6.trn t' n_v5_v6.out.symm
  replace HD := Lib.hid (HD.out.trn HL_v5.out t')
  clear t' v5
  have v5 := r'
  clear r'
  go_wp2_with (first | ((with_reducible refine storeTrap (k := 0) (v := 0) v6 ?_ ?_ ?_ ?_); rfl; rfl; rfl; intro w' r' t'; refine Hid.out ?_))
  refine Lib.hid ?_
  replace oa := Lib.hid (oa.out.trn v6 (NoU8.trap _ _) t')
  replace v2 := v2.trn t' n_v2_v6.out
  replace v3 := v3.trn t' n_v3_v6.out
  replace v5 := v5.trn t' n_v5_v6.out
  replace HD := Lib.hid (HD.out.trn HL_v6.out t')
  clear t' v6
  have v6 := r'
  clear r'
  have ck0 := v3.iop
  have ck1 := v5.time la
  rw [nt] at ck1
  have ck2 := v2.time hl
  have ck3 := v5.halted la
  rw [nh] at ck3
  have ck4 := v2.halted hl
  have ck5 := v5.out la
  have ck6 := v2.out hl
  go_wp2_with (first | ((with_reducible refine loadTrap v6 ?_ ?_ ?_); rfl; rfl) | ((with_reducible refine loadCsr v5 la ?_ ?_ ?_); rfl; rfl) | ((with_reducible refine loadCsr v2 hl ?_ ?_ ?_); rfl; rfl) | (go_at_call 14; (with_reducible refine (CS.out _ (hm.dn HD.out) ma oa.out ea.out).mono ?_); rintro e w' ⟨rfl, d'⟩; refine Hid.out ?_))
  refine Lib.hid ?_
  clear ck0 ck1 ck2 ck3 ck4 ck5 ck6
  replace v2 := v2.dn d'
  replace v3 := v3.dn d'
  replace v5 := v5.dn d'
  replace v6 := v6.dn d'
  replace oa := Lib.hid (oa.out.dn d')
  replace HD := Lib.hid (HD.out.trans d')
  clear d'
  have ck0 := v3.iop
  go_wp2_with fail
  go_loopw [9] (fun k w => FrRel 16 w' k w) (fun k _ => 16 - (intOf k).toNat)
  case atStart => exact ⟨0, by decide, rfl, Dn.refl _⟩
  case round =>
    obtain ⟨j, hj, rfl, dn⟩ := hrel
    replace v2 := v2.dn dn
    replace v3 := v3.dn dn
    replace v5 := v5.dn dn
    replace v6 := v6.dn dn
    replace oa := Lib.hid (oa.out.dn dn)
    have HW := Lib.hid (HD.out.trans dn)
    have DJ := Lib.hid dn
    clear HD dn
    by_cases hlt : j < 16
    · have hlt2 : (j : Int) < 16 := by omega
      have hz := RA.out j hlt
      have HD := Lib.hid (Dn.refl wr)
      have lo0 : (0 : Int) ≤ (j : Int) := by omega
      go_wp2_with fail
      have ck0 := v5.word la j (by simp; omega)
      have ck1 := v2.word hl j (by simp; omega)
      rw [hz] at ck0
      generalize m.c.getD j 0 = z at ck0 ck1
      have ck2 := v3.iop
      have ck3 := v3.ird
      have ck4 := v3.iimm
      have lck0 := fun d os => cell_regrown ck0 d os
      have lck1 := fun d os => cell_regrown ck1 d os
      have lck2 := fun d os => cell_regrown ck2 d os
      have lck3 := fun d os => cell_regrown ck3 d os
      have lck4 := fun d os => cell_regrown ck4 d os
      refine wp_region_quiet_below (by kernel_rfl) (by kernel_rfl) ?_
      repeat (first | go_big_quiet_skip | (go_big_quiet_want; (go_big_quiet_op; go_big_quiet_on)))
      refine wpQuiet_nil ?_
      intro _ hw'
      obtain ⟨⟨dq, osq⟩, hw''⟩ := hw'
      subst hw''
      have d' := below_regrown wr dq osq
      clear lck0 lck1 lck2 lck3 lck4 ck0 ck1 ck2 ck3 ck4
      replace v2 := v2.dn d'
      replace v3 := v3.dn d'
      replace v5 := v5.dn d'
      replace v6 := v6.dn d'
      replace oa := Lib.hid (oa.out.dn d')
      replace HD := Lib.hid (HD.out.trans d')
      clear d'
      generalize grow (redrawn wr dq) osq = w' at v2 v3 v5 v6 oa HD ⊢
      go_wp2_with fail
      exact ⟨⟨j + 1, by omega, by go_num, DJ.out.trans HD.out⟩, by simp [intOf]; omega⟩
    · have hlt2 : ¬ (j : Int) < 16 := by omega
      have HD := HW
      have ck0 := v5.word la 16 rfl
      rw [na] at ck0
      have ck1 := v2.word hl 16 rfl
      rw [hpc] at ck1
      go_wp2_with fail
      go_ret
      exact ⟨rfl, HD.out⟩
set_option maxRecDepth 100000 in
set_option maxHeartbeats 2000000 in
theorem ef_14 (m : Mc) (rd ra rb imm : Int) (W : World) (hm : m.Ok W) (T : Is.Tabs W) (i0 : -2147483648 ≤ imm) (i1 : imm < 2147483648) (hx : m.xs.length ≤ 9223372036854775807) (hy : m.ys.length ≤ 9223372036854775807) (hf : decide (m.xs.length ≤ 600 ∧ m.ys.length ≤ 600) = true) (hpl : (Is.M.ok 14 rd ra rb imm && !Is.M.priv 14) = true) (c1 z1 : List Int) (p q : Int) (h1 : M.ex m.c m.xs 14 rd ra rb imm = ⟨c1, z1, 0, 0⟩) (hpc : m.c.getD 16 0 = p) (hq : c1.getD 16 0 = q) (hd : c1.drop 17 = m.c.drop 17) (hr : ∀ j : Nat, j < 16 → c1.getD j 0 = m.c.getD j 0) (hq5 : (q == (p + 4) % 4294967296) = true) :
    Calls Tryd.prog 3 #[.agg (mach m), .agg (ins 14 rd ra rb imm)] W fun e W' => e = .returned (.bool true) ∧ Dn W W' := by
  have hl := hm.len
  have hc := hm.core
  have hs : m.xs.length ≤ 100000 := by simp only [decide_eq_true_eq] at hf; omega
  have hy2 : m.ys.length ≤ 100000 := by simp only [decide_eq_true_eq] at hf; omega
  have hvp : Is.M.ok 14 rd ra rb imm = true ∧ Is.M.priv 14 = false := by simpa using hpl
  have C0 := Lib.hid fun w => fun (t : Is.Tabs w) => awake w t
  have CF := Lib.hid fun w => fun (ow : m.Ok w) => rfew m true w ow hx hy hf
  have CP := Lib.hid (rPlain 14 rd ra rb imm true i0 i1 hpl)
  have C1 := Lib.hid fun w => fun (ow : m.Ok w) (t : Is.Tabs w) => (by exact xRun m 14 rd ra rb imm _ _ rfl rfl ⟨c1, z1, 0, 0⟩ h1 hs i0 i1 hvp.1 hvp.2 w ow t : Calls Tryd.prog 12 #[.agg (mach m), .agg (ins 14 rd ra rb imm)] w fun e W' => ∃ m1, e = .returned (.tuple #[.agg (mach m1), .agg #[.int .i64 0, .int .u32 0]]) ∧ Hid (m1.Ok W') ∧ Hid (Exd m ⟨c1, z1, 0, 0⟩ m1) ∧ Dn w W')
  have CS := Lib.hid fun (w : World) (ow : m.Ok w) (ma : Mc) (oa : ma.Ok w) (ea : Exd m ⟨c1, z1, 0, 0⟩ ma) => same_yes ma.B m.B ma.q m.q ma.ys.length m.ys.length ma.ys m.ys w oa.out ow.out rfl rfl ea.ys (by rw [ea.ys]; exact hy2)
  have q0 := eqTrap_self 0 0
  have p0 := (M.core_pc hc).1
  have p1 := (M.core_pc hc).2
  rw [show M.pc m.c = p from hpc] at p0 p1
  have HQ := Lib.hid hq
  have HD1 := Lib.hid hd
  have HR := Lib.hid hr
  have hwr : IntKind.u32.wrap (p + 4) = (p + 4) % 4294967296 := rfl
  clear hf hpl hvp h1 hq hd hr
  have HD := Lib.hid (Dn.refl W)
  go_enter Tryd.func3, Tryd.ntmps3
  go_wp2_with (first | ((with_reducible refine wpList_box (vs := (mach m)) ?_ ?_ ?_); rfl; rfl; intro b_v2 w' nn; refine Hid.out ?_))
  refine Lib.hid ?_
  have HL_v2 : Hid (W.heap.size ≤ b_v2) := Lib.hid (Blk.hi nn HD.out.size)
  have d' := nn.dn
  replace HD := Lib.hid (HD.out.trans d')
  have v2 := nn.blk
  clear d' nn
  go_wp2_with (first | ((with_reducible refine wpList_box (vs := (ins 14 rd ra rb imm)) ?_ ?_ ?_); rfl; rfl; intro b_v3 w' nn; refine Hid.out ?_))
  refine Lib.hid ?_
  have n_v2_v3 := Lib.hid (nn.ne _ v2.lt)
  have HL_v3 : Hid (W.heap.size ≤ b_v3) := Lib.hid (Blk.hi nn HD.out.size)
  have d' := nn.dn
  replace v2 := v2.dn d'
  replace HD := Lib.hid (HD.out.trans d')
  have v3 := nn.blk
  clear d' nn
  go_wp2_with (first | (go_at_call 9; (with_reducible refine (C0.out _ (T.dn HD.out)).mono ?_); rintro e w' ⟨rfl, d'⟩; refine Hid.out ?_))
  refine Lib.hid ?_
  replace v2 := v2.dn d'
  replace v3 := v3.dn d'
  replace HD := Lib.hid (HD.out.trans d')
  clear d'
  go_wp2_with (first | ((with_reducible refine load33 v2 hl ?_ ?_ ?_); rfl; rfl) | (go_at_call 10; (with_reducible refine (CF.out _ (hm.dn HD.out)).mono ?_); rintro e w' ⟨rfl, d'⟩; refine Hid.out ?_))
  refine Lib.hid ?_
  replace v2 := v2.dn d'
  replace v3 := v3.dn d'
  replace HD := Lib.hid (HD.out.trans d')
  clear d'
  go_wp2_with (first | ((with_reducible refine loadI v3 ?_ ?_ ?_); rfl; rfl) | (go_at_call 11; (with_reducible refine (CP.out _).mono ?_); rintro e w' ⟨rfl, d'⟩; refine Hid.out ?_))
  refine Lib.hid ?_
  replace v2 := v2.dn d'
  replace v3 := v3.dn d'
  replace HD := Lib.hid (HD.out.trans d')
  clear d'
  go_wp2_with (first | ((with_reducible refine load33 v2 hl ?_ ?_ ?_); rfl; rfl) | ((with_reducible refine loadI v3 ?_ ?_ ?_); rfl; rfl) | (go_at_call 12; (with_reducible refine (C1.out _ (hm.dn HD.out) (T.dn HD.out)).mono ?_); rintro e w' ⟨ma, rfl, oa', ea, d'⟩; refine Hid.out ?_))
  refine Lib.hid ?_
  replace v2 := v2.dn d'
  replace v3 := v3.dn d'
  replace HD := Lib.hid (HD.out.trans d')
  clear d'
  have la := oa'.out.len
  have nt : ma.t = m.t := ea.out.t
  have nh : ma.h = m.h := ea.out.h
  have na : ma.c.getD 16 0 = q := by rw [ea.out.c]; exact HQ.out
  have q12 : ∀ w, (Op.equalIn 10000 24 (.agg (ints .u32 (ma.c.drop 17))) (.agg (ints .u32 (m.c.drop 17)))).run Tryd.prog w = .ok true w := fun w => by rw [show ma.c.drop 17 = m.c.drop 17 by rw [ea.out.c]; exact HD1.out, eq12 (drop17 hl) (drop17 hl), beq_self_eq_true]
  have RA := Lib.hid (fun j hj => by rw [ea.out.c]; exact HR.out j hj : ∀ j : Nat, j < 16 → ma.c.getD j 0 = m.c.getD j 0)
  have oa := Lib.hid oa'.out
  go_wp2_with (first | ((with_reducible refine wpList_alloc zeroMach ?_ ?_); rfl; intro b_v5 w' nn; refine Hid.out ?_))
  refine Lib.hid ?_
  have n_v2_v5 := Lib.hid (nn.ne _ v2.lt)
  have n_v3_v5 := Lib.hid (nn.ne _ v3.lt)
  have HL_v5 : Hid (W.heap.size ≤ b_v5) := Lib.hid (Blk.hi nn HD.out.size)
  have d' := nn.dn
  replace v2 := v2.dn d'
  replace v3 := v3.dn d'
  replace oa := Lib.hid (oa.out.dn d')
  replace HD := Lib.hid (HD.out.trans d')
  have v5 := nn.blk
  clear d' nn
  go_wp2_with (first | ((with_reducible refine wpList_alloc zeroTrap ?_ ?_); rfl; intro b_v6 w' nn; refine Hid.out ?_))
  refine Lib.hid ?_
  have n_v2_v6 := Lib.hid (nn.ne _ v2.lt)
  have n_v3_v6 := Lib.hid (nn.ne _ v3.lt)
  have n_v5_v6 := Lib.hid (nn.ne _ v5.lt)
  have HL_v6 : Hid (W.heap.size ≤ b_v6) := Lib.hid (Blk.hi nn HD.out.size)
  have d' := nn.dn
  replace v2 := v2.dn d'
  replace v3 := v3.dn d'
  replace v5 := v5.dn d'
  replace oa := Lib.hid (oa.out.dn d')
  replace HD := Lib.hid (HD.out.trans d')
  have v6 := nn.blk
  clear d' nn
  go_wp2_with (first | ((with_reducible refine store33 ma la v5 zlen ?_ ?_ ?_ ?_); rfl; rfl; rfl; intro w' r' t'; refine Hid.out ?_))
  refine Lib.hid ?_
  replace oa := Lib.hid (oa.out.trn v5 (NoU8.mach _) t')
  replace v2 := v2.trn t' n_v2_v5.out
  replace v3 := v3.trn t' n_v3_v5.out
  replace v6 := v6.trn t' n_v5_v6.out.symm
  replace HD := Lib.hid (HD.out.trn HL_v5.out t')
  clear t' v5
  have v5 := r'
  clear r'
  go_wp2_with (first | ((with_reducible refine storeTrap (k := 0) (v := 0) v6 ?_ ?_ ?_ ?_); rfl; rfl; rfl; intro w' r' t'; refine Hid.out ?_))
  refine Lib.hid ?_
  replace oa := Lib.hid (oa.out.trn v6 (NoU8.trap _ _) t')
  replace v2 := v2.trn t' n_v2_v6.out
  replace v3 := v3.trn t' n_v3_v6.out
  replace v5 := v5.trn t' n_v5_v6.out
  replace HD := Lib.hid (HD.out.trn HL_v6.out t')
  clear t' v6
  have v6 := r'
  clear r'
  have ck0 := v3.iop
  have ck1 := v5.time la
  rw [nt] at ck1
  have ck2 := v2.time hl
  have ck3 := v5.halted la
  rw [nh] at ck3
  have ck4 := v2.halted hl
  have ck5 := v5.out la
  have ck6 := v2.out hl
  go_wp2_with (first | ((with_reducible refine loadTrap v6 ?_ ?_ ?_); rfl; rfl) | ((with_reducible refine loadCsr v5 la ?_ ?_ ?_); rfl; rfl) | ((with_reducible refine loadCsr v2 hl ?_ ?_ ?_); rfl; rfl) | (go_at_call 14; (with_reducible refine (CS.out _ (hm.dn HD.out) ma oa.out ea.out).mono ?_); rintro e w' ⟨rfl, d'⟩; refine Hid.out ?_))
  refine Lib.hid ?_
  clear ck0 ck1 ck2 ck3 ck4 ck5 ck6
  replace v2 := v2.dn d'
  replace v3 := v3.dn d'
  replace v5 := v5.dn d'
  replace v6 := v6.dn d'
  replace oa := Lib.hid (oa.out.dn d')
  replace HD := Lib.hid (HD.out.trans d')
  clear d'
  have ck0 := v3.iop
  go_wp2_with fail
  go_loopw [9] (fun k w => FrRel 16 w' k w) (fun k _ => 16 - (intOf k).toNat)
  case atStart => exact ⟨0, by decide, rfl, Dn.refl _⟩
  case round =>
    obtain ⟨j, hj, rfl, dn⟩ := hrel
    replace v2 := v2.dn dn
    replace v3 := v3.dn dn
    replace v5 := v5.dn dn
    replace v6 := v6.dn dn
    replace oa := Lib.hid (oa.out.dn dn)
    have HW := Lib.hid (HD.out.trans dn)
    have DJ := Lib.hid dn
    clear HD dn
    by_cases hlt : j < 16
    · have hlt2 : (j : Int) < 16 := by omega
      have hz := RA.out j hlt
      have HD := Lib.hid (Dn.refl wr)
      have lo0 : (0 : Int) ≤ (j : Int) := by omega
      go_wp2_with fail
      have ck0 := v5.word la j (by simp; omega)
      have ck1 := v2.word hl j (by simp; omega)
      rw [hz] at ck0
      generalize m.c.getD j 0 = z at ck0 ck1
      have ck2 := v3.iop
      have ck3 := v3.ird
      have ck4 := v3.iimm
      have lck0 := fun d os => cell_regrown ck0 d os
      have lck1 := fun d os => cell_regrown ck1 d os
      have lck2 := fun d os => cell_regrown ck2 d os
      have lck3 := fun d os => cell_regrown ck3 d os
      have lck4 := fun d os => cell_regrown ck4 d os
      refine wp_region_quiet_below (by kernel_rfl) (by kernel_rfl) ?_
      repeat (first | go_big_quiet_skip | (go_big_quiet_want; (go_big_quiet_op; go_big_quiet_on)))
      refine wpQuiet_nil ?_
      intro _ hw'
      obtain ⟨⟨dq, osq⟩, hw''⟩ := hw'
      subst hw''
      have d' := below_regrown wr dq osq
      clear lck0 lck1 lck2 lck3 lck4 ck0 ck1 ck2 ck3 ck4
      replace v2 := v2.dn d'
      replace v3 := v3.dn d'
      replace v5 := v5.dn d'
      replace v6 := v6.dn d'
      replace oa := Lib.hid (oa.out.dn d')
      replace HD := Lib.hid (HD.out.trans d')
      clear d'
      generalize grow (redrawn wr dq) osq = w' at v2 v3 v5 v6 oa HD ⊢
      go_wp2_with fail
      exact ⟨⟨j + 1, by omega, by go_num, DJ.out.trans HD.out⟩, by simp [intOf]; omega⟩
    · have hlt2 : ¬ (j : Int) < 16 := by omega
      have HD := HW
      have ck0 := v5.word la 16 rfl
      rw [na] at ck0
      have ck1 := v2.word hl 16 rfl
      rw [hpc] at ck1
      go_wp2_with fail
      go_ret
      exact ⟨rfl, HD.out⟩
set_option maxRecDepth 100000 in
set_option maxHeartbeats 2000000 in
theorem ef_t20 (m : Mc) (rd ra rb imm : Int) (W : World) (hm : m.Ok W) (T : Is.Tabs W) (i0 : -2147483648 ≤ imm) (i1 : imm < 2147483648) (hx : m.xs.length ≤ 9223372036854775807) (hy : m.ys.length ≤ 9223372036854775807) (hf : decide (m.xs.length ≤ 600 ∧ m.ys.length ≤ 600) = true) (hpl : (Is.M.ok 20 rd ra rb imm && !Is.M.priv 20) = true) (h1 : M.ex m.c m.xs 20 rd ra rb imm = ⟨m.c, m.xs, 5, 0⟩) :
    Calls Tryd.prog 3 #[.agg (mach m), .agg (ins 20 rd ra rb imm)] W fun e W' => e = .returned (.bool true) ∧ Dn W W' := by
  have hl := hm.len
  have hc := hm.core
  have hs : m.xs.length ≤ 100000 := by simp only [decide_eq_true_eq] at hf; omega
  have hy2 : m.ys.length ≤ 100000 := by simp only [decide_eq_true_eq] at hf; omega
  have hvp : Is.M.ok 20 rd ra rb imm = true ∧ Is.M.priv 20 = false := by simpa using hpl
  have C0 := Lib.hid fun w => fun (t : Is.Tabs w) => awake w t
  have CF := Lib.hid fun w => fun (ow : m.Ok w) => rfew m true w ow hx hy hf
  have CP := Lib.hid (rPlain 20 rd ra rb imm true i0 i1 hpl)
  have C1 := Lib.hid fun w => fun (ow : m.Ok w) (t : Is.Tabs w) => (by exact xRun m 20 rd ra rb imm _ _ rfl rfl ⟨m.c, m.xs, 5, 0⟩ h1 hs i0 i1 hvp.1 hvp.2 w ow t : Calls Tryd.prog 12 #[.agg (mach m), .agg (ins 20 rd ra rb imm)] w fun e W' => ∃ m1, e = .returned (.tuple #[.agg (mach m1), .agg #[.int .i64 5, .int .u32 0]]) ∧ Hid (m1.Ok W') ∧ Hid (Exd m ⟨m.c, m.xs, 5, 0⟩ m1) ∧ Dn w W')
  have CS := Lib.hid fun (w : World) (ow : m.Ok w) (ma : Mc) (oa : ma.Ok w) (ea : Exd m ⟨m.c, m.xs, 5, 0⟩ ma) => rsame_of w oa ow ea (⟨rfl, rfl, rfl, rfl, rfl⟩ : Exd m ⟨m.c, m.xs, 5, 0⟩ m) hs hy2
  have q0 : ∀ w, (Op.equalIn 10000 37 (.agg #[.int .i64 5, .int .u32 0]) (.agg #[.int .i64 0, .int .u32 0])).run Tryd.prog w = .ok false w := fun w => by rw [eqTrap]; simp
  clear hf hpl hvp h1
  have HD := Lib.hid (Dn.refl W)
  go_enter Tryd.func3, Tryd.ntmps3
  go_wp2_with (first | ((with_reducible refine wpList_box (vs := (mach m)) ?_ ?_ ?_); rfl; rfl; intro b_v2 w' nn; refine Hid.out ?_))
  refine Lib.hid ?_
  have HL_v2 : Hid (W.heap.size ≤ b_v2) := Lib.hid (Blk.hi nn HD.out.size)
  have d' := nn.dn
  replace HD := Lib.hid (HD.out.trans d')
  have v2 := nn.blk
  clear d' nn
  go_wp2_with (first | ((with_reducible refine wpList_box (vs := (ins 20 rd ra rb imm)) ?_ ?_ ?_); rfl; rfl; intro b_v3 w' nn; refine Hid.out ?_))
  refine Lib.hid ?_
  have n_v2_v3 := Lib.hid (nn.ne _ v2.lt)
  have HL_v3 : Hid (W.heap.size ≤ b_v3) := Lib.hid (Blk.hi nn HD.out.size)
  have d' := nn.dn
  replace v2 := v2.dn d'
  replace HD := Lib.hid (HD.out.trans d')
  have v3 := nn.blk
  clear d' nn
  go_wp2_with (first | (go_at_call 9; (with_reducible refine (C0.out _ (T.dn HD.out)).mono ?_); rintro e w' ⟨rfl, d'⟩; refine Hid.out ?_))
  refine Lib.hid ?_
  replace v2 := v2.dn d'
  replace v3 := v3.dn d'
  replace HD := Lib.hid (HD.out.trans d')
  clear d'
  go_wp2_with (first | ((with_reducible refine load33 v2 hl ?_ ?_ ?_); rfl; rfl) | (go_at_call 10; (with_reducible refine (CF.out _ (hm.dn HD.out)).mono ?_); rintro e w' ⟨rfl, d'⟩; refine Hid.out ?_))
  refine Lib.hid ?_
  replace v2 := v2.dn d'
  replace v3 := v3.dn d'
  replace HD := Lib.hid (HD.out.trans d')
  clear d'
  go_wp2_with (first | ((with_reducible refine loadI v3 ?_ ?_ ?_); rfl; rfl) | (go_at_call 11; (with_reducible refine (CP.out _).mono ?_); rintro e w' ⟨rfl, d'⟩; refine Hid.out ?_))
  refine Lib.hid ?_
  replace v2 := v2.dn d'
  replace v3 := v3.dn d'
  replace HD := Lib.hid (HD.out.trans d')
  clear d'
  go_wp2_with (first | ((with_reducible refine load33 v2 hl ?_ ?_ ?_); rfl; rfl) | ((with_reducible refine loadI v3 ?_ ?_ ?_); rfl; rfl) | (go_at_call 12; (with_reducible refine (C1.out _ (hm.dn HD.out) (T.dn HD.out)).mono ?_); rintro e w' ⟨ma, rfl, oa', ea, d'⟩; refine Hid.out ?_))
  refine Lib.hid ?_
  replace v2 := v2.dn d'
  replace v3 := v3.dn d'
  replace HD := Lib.hid (HD.out.trans d')
  clear d'
  have la := oa'.out.len
  have oa := Lib.hid oa'.out
  go_wp2_with (first | ((with_reducible refine wpList_alloc zeroMach ?_ ?_); rfl; intro b_v5 w' nn; refine Hid.out ?_))
  refine Lib.hid ?_
  have n_v2_v5 := Lib.hid (nn.ne _ v2.lt)
  have n_v3_v5 := Lib.hid (nn.ne _ v3.lt)
  have HL_v5 : Hid (W.heap.size ≤ b_v5) := Lib.hid (Blk.hi nn HD.out.size)
  have d' := nn.dn
  replace v2 := v2.dn d'
  replace v3 := v3.dn d'
  replace oa := Lib.hid (oa.out.dn d')
  replace HD := Lib.hid (HD.out.trans d')
  have v5 := nn.blk
  clear d' nn
  go_wp2_with (first | ((with_reducible refine wpList_alloc zeroTrap ?_ ?_); rfl; intro b_v6 w' nn; refine Hid.out ?_))
  refine Lib.hid ?_
  have n_v2_v6 := Lib.hid (nn.ne _ v2.lt)
  have n_v3_v6 := Lib.hid (nn.ne _ v3.lt)
  have n_v5_v6 := Lib.hid (nn.ne _ v5.lt)
  have HL_v6 : Hid (W.heap.size ≤ b_v6) := Lib.hid (Blk.hi nn HD.out.size)
  have d' := nn.dn
  replace v2 := v2.dn d'
  replace v3 := v3.dn d'
  replace v5 := v5.dn d'
  replace oa := Lib.hid (oa.out.dn d')
  replace HD := Lib.hid (HD.out.trans d')
  have v6 := nn.blk
  clear d' nn
  go_wp2_with (first | ((with_reducible refine store33 ma la v5 zlen ?_ ?_ ?_ ?_); rfl; rfl; rfl; intro w' r' t'; refine Hid.out ?_))
  refine Lib.hid ?_
  replace oa := Lib.hid (oa.out.trn v5 (NoU8.mach _) t')
  replace v2 := v2.trn t' n_v2_v5.out
  replace v3 := v3.trn t' n_v3_v5.out
  replace v6 := v6.trn t' n_v5_v6.out.symm
  replace HD := Lib.hid (HD.out.trn HL_v5.out t')
  clear t' v5
  have v5 := r'
  clear r'
  go_wp2_with (first | ((with_reducible refine storeTrap (k := 5) (v := 0) v6 ?_ ?_ ?_ ?_); rfl; rfl; rfl; intro w' r' t'; refine Hid.out ?_))
  refine Lib.hid ?_
  replace oa := Lib.hid (oa.out.trn v6 (NoU8.trap _ _) t')
  replace v2 := v2.trn t' n_v2_v6.out
  replace v3 := v3.trn t' n_v3_v6.out
  replace v5 := v5.trn t' n_v5_v6.out
  replace HD := Lib.hid (HD.out.trn HL_v6.out t')
  clear t' v6
  have v6 := r'
  clear r'
  go_wp2_with (first | ((with_reducible refine loadTrap v6 ?_ ?_ ?_); rfl; rfl) | ((with_reducible refine load33 v5 la ?_ ?_ ?_); rfl; rfl) | ((with_reducible refine load33 v2 hl ?_ ?_ ?_); rfl; rfl) | (go_at_call 13; (with_reducible refine (CS.out _ (hm.dn HD.out) ma oa.out ea.out).mono ?_); rintro e w' ⟨rfl, d'⟩; refine Hid.out ?_))
  refine Lib.hid ?_
  replace v2 := v2.dn d'
  replace v3 := v3.dn d'
  replace v5 := v5.dn d'
  replace v6 := v6.dn d'
  replace oa := Lib.hid (oa.out.dn d')
  replace HD := Lib.hid (HD.out.trans d')
  clear d'
  have ck0 := v3.iop
  have ck1 := v6.cell (i := 0) (v := .int .i64 5) rfl
  go_wp2_with fail
  go_ret
  exact ⟨rfl, HD.out⟩
set_option maxRecDepth 100000 in
set_option maxHeartbeats 2000000 in
theorem ef_t (m : Mc) (op rd ra rb imm : Int) (W : World) (hm : m.Ok W) (T : Is.Tabs W) (i0 : -2147483648 ≤ imm) (i1 : imm < 2147483648) (hx : m.xs.length ≤ 9223372036854775807) (hy : m.ys.length ≤ 9223372036854775807) (hf : decide (m.xs.length ≤ 600 ∧ m.ys.length ≤ 600) = true) (hpl : (Is.M.ok op rd ra rb imm && !Is.M.priv op) = true) (t20 : (op == 20) = false) (k v : Int) (h1 : M.ex m.c m.xs op rd ra rb imm = ⟨m.c, m.xs, k, v⟩) (t5 : (k == 5) = false) (g11 : decide (11 ≤ op) = true) (g14 : decide (op ≤ 14) = true) (hk0 : k ≠ 0) :
    Calls Tryd.prog 3 #[.agg (mach m), .agg (ins op rd ra rb imm)] W fun e W' => e = .returned (.bool true) ∧ Dn W W' := by
  have hl := hm.len
  have hc := hm.core
  have hs : m.xs.length ≤ 100000 := by simp only [decide_eq_true_eq] at hf; omega
  have hy2 : m.ys.length ≤ 100000 := by simp only [decide_eq_true_eq] at hf; omega
  have hvp : Is.M.ok op rd ra rb imm = true ∧ Is.M.priv op = false := by simpa using hpl
  have C0 := Lib.hid fun w => fun (t : Is.Tabs w) => awake w t
  have CF := Lib.hid fun w => fun (ow : m.Ok w) => rfew m true w ow hx hy hf
  have CP := Lib.hid (rPlain op rd ra rb imm true i0 i1 hpl)
  have C1 := Lib.hid fun w => fun (ow : m.Ok w) (t : Is.Tabs w) => (by exact xRun m op rd ra rb imm _ _ rfl rfl ⟨m.c, m.xs, k, v⟩ h1 hs i0 i1 hvp.1 hvp.2 w ow t : Calls Tryd.prog 12 #[.agg (mach m), .agg (ins op rd ra rb imm)] w fun e W' => ∃ m1, e = .returned (.tuple #[.agg (mach m1), .agg #[.int .i64 k, .int .u32 v]]) ∧ Hid (m1.Ok W') ∧ Hid (Exd m ⟨m.c, m.xs, k, v⟩ m1) ∧ Dn w W')
  have CS := Lib.hid fun (w : World) (ow : m.Ok w) (ma : Mc) (oa : ma.Ok w) (ea : Exd m ⟨m.c, m.xs, k, v⟩ ma) => rsame_of w oa ow ea (⟨rfl, rfl, rfl, rfl, rfl⟩ : Exd m ⟨m.c, m.xs, k, v⟩ m) hs hy2
  have q0 : ∀ w, (Op.equalIn 10000 37 (.agg #[.int .i64 k, .int .u32 v]) (.agg #[.int .i64 0, .int .u32 0])).run Tryd.prog w = .ok false w := fun w => by rw [eqTrap]; simp [hk0]
  clear hf hpl hvp h1 hk0
  have HD := Lib.hid (Dn.refl W)
  go_enter Tryd.func3, Tryd.ntmps3
  go_wp2_with (first | ((with_reducible refine wpList_box (vs := (mach m)) ?_ ?_ ?_); rfl; rfl; intro b_v2 w' nn; refine Hid.out ?_))
  refine Lib.hid ?_
  have HL_v2 : Hid (W.heap.size ≤ b_v2) := Lib.hid (Blk.hi nn HD.out.size)
  have d' := nn.dn
  replace HD := Lib.hid (HD.out.trans d')
  have v2 := nn.blk
  clear d' nn
  go_wp2_with (first | ((with_reducible refine wpList_box (vs := (ins op rd ra rb imm)) ?_ ?_ ?_); rfl; rfl; intro b_v3 w' nn; refine Hid.out ?_))
  refine Lib.hid ?_
  have n_v2_v3 := Lib.hid (nn.ne _ v2.lt)
  have HL_v3 : Hid (W.heap.size ≤ b_v3) := Lib.hid (Blk.hi nn HD.out.size)
  have d' := nn.dn
  replace v2 := v2.dn d'
  replace HD := Lib.hid (HD.out.trans d')
  have v3 := nn.blk
  clear d' nn
  go_wp2_with (first | (go_at_call 9; (with_reducible refine (C0.out _ (T.dn HD.out)).mono ?_); rintro e w' ⟨rfl, d'⟩; refine Hid.out ?_))
  refine Lib.hid ?_
  replace v2 := v2.dn d'
  replace v3 := v3.dn d'
  replace HD := Lib.hid (HD.out.trans d')
  clear d'
  go_wp2_with (first | ((with_reducible refine load33 v2 hl ?_ ?_ ?_); rfl; rfl) | (go_at_call 10; (with_reducible refine (CF.out _ (hm.dn HD.out)).mono ?_); rintro e w' ⟨rfl, d'⟩; refine Hid.out ?_))
  refine Lib.hid ?_
  replace v2 := v2.dn d'
  replace v3 := v3.dn d'
  replace HD := Lib.hid (HD.out.trans d')
  clear d'
  go_wp2_with (first | ((with_reducible refine loadI v3 ?_ ?_ ?_); rfl; rfl) | (go_at_call 11; (with_reducible refine (CP.out _).mono ?_); rintro e w' ⟨rfl, d'⟩; refine Hid.out ?_))
  refine Lib.hid ?_
  replace v2 := v2.dn d'
  replace v3 := v3.dn d'
  replace HD := Lib.hid (HD.out.trans d')
  clear d'
  go_wp2_with (first | ((with_reducible refine load33 v2 hl ?_ ?_ ?_); rfl; rfl) | ((with_reducible refine loadI v3 ?_ ?_ ?_); rfl; rfl) | (go_at_call 12; (with_reducible refine (C1.out _ (hm.dn HD.out) (T.dn HD.out)).mono ?_); rintro e w' ⟨ma, rfl, oa', ea, d'⟩; refine Hid.out ?_))
  refine Lib.hid ?_
  replace v2 := v2.dn d'
  replace v3 := v3.dn d'
  replace HD := Lib.hid (HD.out.trans d')
  clear d'
  have la := oa'.out.len
  have oa := Lib.hid oa'.out
  go_wp2_with (first | ((with_reducible refine wpList_alloc zeroMach ?_ ?_); rfl; intro b_v5 w' nn; refine Hid.out ?_))
  refine Lib.hid ?_
  have n_v2_v5 := Lib.hid (nn.ne _ v2.lt)
  have n_v3_v5 := Lib.hid (nn.ne _ v3.lt)
  have HL_v5 : Hid (W.heap.size ≤ b_v5) := Lib.hid (Blk.hi nn HD.out.size)
  have d' := nn.dn
  replace v2 := v2.dn d'
  replace v3 := v3.dn d'
  replace oa := Lib.hid (oa.out.dn d')
  replace HD := Lib.hid (HD.out.trans d')
  have v5 := nn.blk
  clear d' nn
  go_wp2_with (first | ((with_reducible refine wpList_alloc zeroTrap ?_ ?_); rfl; intro b_v6 w' nn; refine Hid.out ?_))
  refine Lib.hid ?_
  have n_v2_v6 := Lib.hid (nn.ne _ v2.lt)
  have n_v3_v6 := Lib.hid (nn.ne _ v3.lt)
  have n_v5_v6 := Lib.hid (nn.ne _ v5.lt)
  have HL_v6 : Hid (W.heap.size ≤ b_v6) := Lib.hid (Blk.hi nn HD.out.size)
  have d' := nn.dn
  replace v2 := v2.dn d'
  replace v3 := v3.dn d'
  replace v5 := v5.dn d'
  replace oa := Lib.hid (oa.out.dn d')
  replace HD := Lib.hid (HD.out.trans d')
  have v6 := nn.blk
  clear d' nn
  go_wp2_with (first | ((with_reducible refine store33 ma la v5 zlen ?_ ?_ ?_ ?_); rfl; rfl; rfl; intro w' r' t'; refine Hid.out ?_))
  refine Lib.hid ?_
  replace oa := Lib.hid (oa.out.trn v5 (NoU8.mach _) t')
  replace v2 := v2.trn t' n_v2_v5.out
  replace v3 := v3.trn t' n_v3_v5.out
  replace v6 := v6.trn t' n_v5_v6.out.symm
  replace HD := Lib.hid (HD.out.trn HL_v5.out t')
  clear t' v5
  have v5 := r'
  clear r'
  go_wp2_with (first | ((with_reducible refine storeTrap (k := k) (v := v) v6 ?_ ?_ ?_ ?_); rfl; rfl; rfl; intro w' r' t'; refine Hid.out ?_))
  refine Lib.hid ?_
  replace oa := Lib.hid (oa.out.trn v6 (NoU8.trap _ _) t')
  replace v2 := v2.trn t' n_v2_v6.out
  replace v3 := v3.trn t' n_v3_v6.out
  replace v5 := v5.trn t' n_v5_v6.out
  replace HD := Lib.hid (HD.out.trn HL_v6.out t')
  clear t' v6
  have v6 := r'
  clear r'
  go_wp2_with (first | ((with_reducible refine loadTrap v6 ?_ ?_ ?_); rfl; rfl) | ((with_reducible refine load33 v5 la ?_ ?_ ?_); rfl; rfl) | ((with_reducible refine load33 v2 hl ?_ ?_ ?_); rfl; rfl) | (go_at_call 13; (with_reducible refine (CS.out _ (hm.dn HD.out) ma oa.out ea.out).mono ?_); rintro e w' ⟨rfl, d'⟩; refine Hid.out ?_))
  refine Lib.hid ?_
  replace v2 := v2.dn d'
  replace v3 := v3.dn d'
  replace v5 := v5.dn d'
  replace v6 := v6.dn d'
  replace oa := Lib.hid (oa.out.dn d')
  replace HD := Lib.hid (HD.out.trans d')
  clear d'
  have ck0 := v3.iop
  have ck1 := v6.cell (i := 0) (v := .int .i64 k) rfl
  go_wp2_with fail
  go_ret
  exact ⟨rfl, HD.out⟩
end Go.Proofs.YthkhahfhbhgfhaaDoor
namespace Go.Proofs.YthkhahfhbhgfhaaDoor
open Go.ChangeShapes Go.WideShapes Go.ChangeAt Go.RowKit Go.Sort
set_option linter.unusedVariables false

set_option maxRecDepth 100000 in
set_option maxHeartbeats 2000000 in
theorem ef_15e (m : Mc) (rd ra rb imm : Int) (W : World) (hm : m.Ok W) (T : Is.Tabs W) (i0 : -2147483648 ≤ imm) (i1 : imm < 2147483648) (hx : m.xs.length ≤ 9223372036854775807) (hy : m.ys.length ≤ 9223372036854775807) (hf : decide (m.xs.length ≤ 600 ∧ m.ys.length ≤ 600) = true) (hpl : (Is.M.ok 15 rd ra rb imm && !Is.M.priv 15) = true) (c1 z1 : List Int) (p q : Int) (h1 : M.ex m.c m.xs 15 rd ra rb imm = ⟨c1, z1, 0, 0⟩) (hpc : m.c.getD 16 0 = p) (hq : c1.getD 16 0 = q) (hd : c1.drop 17 = m.c.drop 17) (hr : ∀ j : Nat, j < 16 → c1.getD j 0 = m.c.getD j 0) (hz1 : z1 = m.xs) (hq5 : (q == (p + 4) % 4294967296) = true) :
    Calls Tryd.prog 3 #[.agg (mach m), .agg (ins 15 rd ra rb imm)] W fun e W' => e = .returned (.bool true) ∧ Dn W W' := by
  have hl := hm.len
  have hc := hm.core
  have hs : m.xs.length ≤ 100000 := by simp only [decide_eq_true_eq] at hf; omega
  have hy2 : m.ys.length ≤ 100000 := by simp only [decide_eq_true_eq] at hf; omega
  have hvp : Is.M.ok 15 rd ra rb imm = true ∧ Is.M.priv 15 = false := by simpa using hpl
  have C0 := Lib.hid fun w => fun (t : Is.Tabs w) => awake w t
  have CF := Lib.hid fun w => fun (ow : m.Ok w) => rfew m true w ow hx hy hf
  have CP := Lib.hid (rPlain 15 rd ra rb imm true i0 i1 hpl)
  have C1 := Lib.hid fun w => fun (ow : m.Ok w) (t : Is.Tabs w) => (by exact xRun m 15 rd ra rb imm _ _ rfl rfl ⟨c1, z1, 0, 0⟩ h1 hs i0 i1 hvp.1 hvp.2 w ow t : Calls Tryd.prog 12 #[.agg (mach m), .agg (ins 15 rd ra rb imm)] w fun e W' => ∃ m1, e = .returned (.tuple #[.agg (mach m1), .agg #[.int .i64 0, .int .u32 0]]) ∧ Hid (m1.Ok W') ∧ Hid (Exd m ⟨c1, z1, 0, 0⟩ m1) ∧ Dn w W')
  have CS := Lib.hid fun (w : World) (ow : m.Ok w) (ma : Mc) (oa : ma.Ok w) (ea : Exd m ⟨c1, z1, 0, 0⟩ ma) => same_yes ma.B m.B ma.q m.q ma.ys.length m.ys.length ma.ys m.ys w oa.out ow.out rfl rfl ea.ys (by rw [ea.ys]; exact hy2)
  have CM := Lib.hid fun (w : World) (ow : m.Ok w) (ma : Mc) (oa : ma.Ok w) (ea : Exd m ⟨c1, z1, 0, 0⟩ ma) => same_yes ma.A m.A ma.k m.k ma.xs.length m.xs.length ma.xs m.xs w oa.mem ow.mem rfl rfl (ea.xs.trans hz1) (by rw [ea.xs, hz1]; exact hs)
  have q0 := eqTrap_self 0 0
  have p0 := (M.core_pc hc).1
  have p1 := (M.core_pc hc).2
  rw [show M.pc m.c = p from hpc] at p0 p1
  have HQ := Lib.hid hq
  have HD1 := Lib.hid hd
  have HR := Lib.hid hr
  have hwr : IntKind.u32.wrap (p + 4) = (p + 4) % 4294967296 := rfl
  clear hf hpl hvp h1 hq hd hr hz1
  have HD := Lib.hid (Dn.refl W)
  go_enter Tryd.func3, Tryd.ntmps3
  go_wp2_with (first | ((with_reducible refine wpList_box (vs := (mach m)) ?_ ?_ ?_); rfl; rfl; intro b_v2 w' nn; refine Hid.out ?_))
  refine Lib.hid ?_
  have HL_v2 : Hid (W.heap.size ≤ b_v2) := Lib.hid (Blk.hi nn HD.out.size)
  have d' := nn.dn
  replace HD := Lib.hid (HD.out.trans d')
  have v2 := nn.blk
  clear d' nn
  go_wp2_with (first | ((with_reducible refine wpList_box (vs := (ins 15 rd ra rb imm)) ?_ ?_ ?_); rfl; rfl; intro b_v3 w' nn; refine Hid.out ?_))
  refine Lib.hid ?_
  have n_v2_v3 := Lib.hid (nn.ne _ v2.lt)
  have HL_v3 : Hid (W.heap.size ≤ b_v3) := Lib.hid (Blk.hi nn HD.out.size)
  have d' := nn.dn
  replace v2 := v2.dn d'
  replace HD := Lib.hid (HD.out.trans d')
  have v3 := nn.blk
  clear d' nn
  go_wp2_with (first | (go_at_call 9; (with_reducible refine (C0.out _ (T.dn HD.out)).mono ?_); rintro e w' ⟨rfl, d'⟩; refine Hid.out ?_))
  refine Lib.hid ?_
  replace v2 := v2.dn d'
  replace v3 := v3.dn d'
  replace HD := Lib.hid (HD.out.trans d')
  clear d'
  go_wp2_with (first | ((with_reducible refine load33 v2 hl ?_ ?_ ?_); rfl; rfl) | (go_at_call 10; (with_reducible refine (CF.out _ (hm.dn HD.out)).mono ?_); rintro e w' ⟨rfl, d'⟩; refine Hid.out ?_))
  refine Lib.hid ?_
  replace v2 := v2.dn d'
  replace v3 := v3.dn d'
  replace HD := Lib.hid (HD.out.trans d')
  clear d'
  go_wp2_with (first | ((with_reducible refine loadI v3 ?_ ?_ ?_); rfl; rfl) | (go_at_call 11; (with_reducible refine (CP.out _).mono ?_); rintro e w' ⟨rfl, d'⟩; refine Hid.out ?_))
  refine Lib.hid ?_
  replace v2 := v2.dn d'
  replace v3 := v3.dn d'
  replace HD := Lib.hid (HD.out.trans d')
  clear d'
  go_wp2_with (first | ((with_reducible refine load33 v2 hl ?_ ?_ ?_); rfl; rfl) | ((with_reducible refine loadI v3 ?_ ?_ ?_); rfl; rfl) | (go_at_call 12; (with_reducible refine (C1.out _ (hm.dn HD.out) (T.dn HD.out)).mono ?_); rintro e w' ⟨ma, rfl, oa', ea, d'⟩; refine Hid.out ?_))
  refine Lib.hid ?_
  replace v2 := v2.dn d'
  replace v3 := v3.dn d'
  replace HD := Lib.hid (HD.out.trans d')
  clear d'
  have la := oa'.out.len
  have nt : ma.t = m.t := ea.out.t
  have nh : ma.h = m.h := ea.out.h
  have na : ma.c.getD 16 0 = q := by rw [ea.out.c]; exact HQ.out
  have q12 : ∀ w, (Op.equalIn 10000 24 (.agg (ints .u32 (ma.c.drop 17))) (.agg (ints .u32 (m.c.drop 17)))).run Tryd.prog w = .ok true w := fun w => by rw [show ma.c.drop 17 = m.c.drop 17 by rw [ea.out.c]; exact HD1.out, eq12 (drop17 hl) (drop17 hl), beq_self_eq_true]
  have RA := Lib.hid (fun j hj => by rw [ea.out.c]; exact HR.out j hj : ∀ j : Nat, j < 16 → ma.c.getD j 0 = m.c.getD j 0)
  have oa := Lib.hid oa'.out
  go_wp2_with (first | ((with_reducible refine wpList_alloc zeroMach ?_ ?_); rfl; intro b_v5 w' nn; refine Hid.out ?_))
  refine Lib.hid ?_
  have n_v2_v5 := Lib.hid (nn.ne _ v2.lt)
  have n_v3_v5 := Lib.hid (nn.ne _ v3.lt)
  have HL_v5 : Hid (W.heap.size ≤ b_v5) := Lib.hid (Blk.hi nn HD.out.size)
  have d' := nn.dn
  replace v2 := v2.dn d'
  replace v3 := v3.dn d'
  replace oa := Lib.hid (oa.out.dn d')
  replace HD := Lib.hid (HD.out.trans d')
  have v5 := nn.blk
  clear d' nn
  go_wp2_with (first | ((with_reducible refine wpList_alloc zeroTrap ?_ ?_); rfl; intro b_v6 w' nn; refine Hid.out ?_))
  refine Lib.hid ?_
  have n_v2_v6 := Lib.hid (nn.ne _ v2.lt)
  have n_v3_v6 := Lib.hid (nn.ne _ v3.lt)
  have n_v5_v6 := Lib.hid (nn.ne _ v5.lt)
  have HL_v6 : Hid (W.heap.size ≤ b_v6) := Lib.hid (Blk.hi nn HD.out.size)
  have d' := nn.dn
  replace v2 := v2.dn d'
  replace v3 := v3.dn d'
  replace v5 := v5.dn d'
  replace oa := Lib.hid (oa.out.dn d')
  replace HD := Lib.hid (HD.out.trans d')
  have v6 := nn.blk
  clear d' nn
  go_wp2_with (first | ((with_reducible refine store33 ma la v5 zlen ?_ ?_ ?_ ?_); rfl; rfl; rfl; intro w' r' t'; refine Hid.out ?_))
  refine Lib.hid ?_
  replace oa := Lib.hid (oa.out.trn v5 (NoU8.mach _) t')
  replace v2 := v2.trn t' n_v2_v5.out
  replace v3 := v3.trn t' n_v3_v5.out
  replace v6 := v6.trn t' n_v5_v6.out.symm
  replace HD := Lib.hid (HD.out.trn HL_v5.out t')
  clear t' v5
  have v5 := r'
  clear r'
  go_wp2_with (first | ((with_reducible refine storeTrap (k := 0) (v := 0) v6 ?_ ?_ ?_ ?_); rfl; rfl; rfl; intro w' r' t'; refine Hid.out ?_))
  refine Lib.hid ?_
  replace oa := Lib.hid (oa.out.trn v6 (NoU8.trap _ _) t')
  replace v2 := v2.trn t' n_v2_v6.out
  replace v3 := v3.trn t' n_v3_v6.out
  replace v5 := v5.trn t' n_v5_v6.out
  replace HD := Lib.hid (HD.out.trn HL_v6.out t')
  clear t' v6
  have v6 := r'
  clear r'
  have ck0 := v3.iop
  have ck1 := v5.time la
  rw [nt] at ck1
  have ck2 := v2.time hl
  have ck3 := v5.halted la
  rw [nh] at ck3
  have ck4 := v2.halted hl
  have ck5 := v5.out la
  have ck6 := v2.out hl
  go_wp2_with (first | ((with_reducible refine loadTrap v6 ?_ ?_ ?_); rfl; rfl) | ((with_reducible refine loadCsr v5 la ?_ ?_ ?_); rfl; rfl) | ((with_reducible refine loadCsr v2 hl ?_ ?_ ?_); rfl; rfl) | (go_at_call 14; (with_reducible refine (CS.out _ (hm.dn HD.out) ma oa.out ea.out).mono ?_); rintro e w' ⟨rfl, d'⟩; refine Hid.out ?_))
  refine Lib.hid ?_
  clear ck0 ck1 ck2 ck3 ck4 ck5 ck6
  replace v2 := v2.dn d'
  replace v3 := v3.dn d'
  replace v5 := v5.dn d'
  replace v6 := v6.dn d'
  replace oa := Lib.hid (oa.out.dn d')
  replace HD := Lib.hid (HD.out.trans d')
  clear d'
  have ck0 := v5.mem la
  have ck1 := v2.mem hl
  go_wp2_with (first | (go_at_call 14; (with_reducible refine (CM.out _ (hm.dn HD.out) ma oa.out ea.out).mono ?_); rintro e w' ⟨rfl, d'⟩; refine Hid.out ?_))
  refine Lib.hid ?_
  clear ck0 ck1
  replace v2 := v2.dn d'
  replace v3 := v3.dn d'
  replace v5 := v5.dn d'
  replace v6 := v6.dn d'
  replace oa := Lib.hid (oa.out.dn d')
  replace HD := Lib.hid (HD.out.trans d')
  clear d'
  have ck0 := v3.iop
  go_wp2_with fail
  go_loopw [9] (fun k w => FrRel 16 w' k w) (fun k _ => 16 - (intOf k).toNat)
  case atStart => exact ⟨0, by decide, rfl, Dn.refl _⟩
  case round =>
    obtain ⟨j, hj, rfl, dn⟩ := hrel
    replace v2 := v2.dn dn
    replace v3 := v3.dn dn
    replace v5 := v5.dn dn
    replace v6 := v6.dn dn
    replace oa := Lib.hid (oa.out.dn dn)
    have HW := Lib.hid (HD.out.trans dn)
    have DJ := Lib.hid dn
    clear HD dn
    by_cases hlt : j < 16
    · have hlt2 : (j : Int) < 16 := by omega
      have hz := RA.out j hlt
      have HD := Lib.hid (Dn.refl wr)
      have lo0 : (0 : Int) ≤ (j : Int) := by omega
      go_wp2_with fail
      have ck0 := v5.word la j (by simp; omega)
      have ck1 := v2.word hl j (by simp; omega)
      rw [hz] at ck0
      generalize m.c.getD j 0 = z at ck0 ck1
      have ck2 := v3.iop
      have ck3 := v3.ird
      have ck4 := v3.iimm
      have lck0 := fun d os => cell_regrown ck0 d os
      have lck1 := fun d os => cell_regrown ck1 d os
      have lck2 := fun d os => cell_regrown ck2 d os
      have lck3 := fun d os => cell_regrown ck3 d os
      have lck4 := fun d os => cell_regrown ck4 d os
      refine wp_region_quiet_below (by kernel_rfl) (by kernel_rfl) ?_
      repeat (first | go_big_quiet_skip | (go_big_quiet_want; (go_big_quiet_op; go_big_quiet_on)))
      refine wpQuiet_nil ?_
      intro _ hw'
      obtain ⟨⟨dq, osq⟩, hw''⟩ := hw'
      subst hw''
      have d' := below_regrown wr dq osq
      clear lck0 lck1 lck2 lck3 lck4 ck0 ck1 ck2 ck3 ck4
      replace v2 := v2.dn d'
      replace v3 := v3.dn d'
      replace v5 := v5.dn d'
      replace v6 := v6.dn d'
      replace oa := Lib.hid (oa.out.dn d')
      replace HD := Lib.hid (HD.out.trans d')
      clear d'
      generalize grow (redrawn wr dq) osq = w' at v2 v3 v5 v6 oa HD ⊢
      go_wp2_with fail
      exact ⟨⟨j + 1, by omega, by go_num, DJ.out.trans HD.out⟩, by simp [intOf]; omega⟩
    · have hlt2 : ¬ (j : Int) < 16 := by omega
      have HD := HW
      have ck0 := v5.word la 16 rfl
      rw [na] at ck0
      have ck1 := v2.word hl 16 rfl
      rw [hpc] at ck1
      go_wp2_with fail
      go_ret
      exact ⟨rfl, HD.out⟩
set_option maxRecDepth 100000 in
set_option maxHeartbeats 2000000 in
theorem ef_15n (m : Mc) (rd ra rb imm : Int) (W : World) (hm : m.Ok W) (T : Is.Tabs W) (i0 : -2147483648 ≤ imm) (i1 : imm < 2147483648) (hx : m.xs.length ≤ 9223372036854775807) (hy : m.ys.length ≤ 9223372036854775807) (hf : decide (m.xs.length ≤ 600 ∧ m.ys.length ≤ 600) = true) (hpl : (Is.M.ok 15 rd ra rb imm && !Is.M.priv 15) = true) (c1 z1 : List Int) (p q : Int) (h1 : M.ex m.c m.xs 15 rd ra rb imm = ⟨c1, z1, 0, 0⟩) (hpc : m.c.getD 16 0 = p) (hq : c1.getD 16 0 = q) (hd : c1.drop 17 = m.c.drop 17) (hr : ∀ j : Nat, j < 16 → c1.getD j 0 = m.c.getD j 0) (hz1 : z1 = m.xs) (hq5 : (q == (p + 4) % 4294967296) = false) :
    Calls Tryd.prog 3 #[.agg (mach m), .agg (ins 15 rd ra rb imm)] W fun e W' => e = .returned (.bool true) ∧ Dn W W' := by
  have hl := hm.len
  have hc := hm.core
  have hs : m.xs.length ≤ 100000 := by simp only [decide_eq_true_eq] at hf; omega
  have hy2 : m.ys.length ≤ 100000 := by simp only [decide_eq_true_eq] at hf; omega
  have hvp : Is.M.ok 15 rd ra rb imm = true ∧ Is.M.priv 15 = false := by simpa using hpl
  have C0 := Lib.hid fun w => fun (t : Is.Tabs w) => awake w t
  have CF := Lib.hid fun w => fun (ow : m.Ok w) => rfew m true w ow hx hy hf
  have CP := Lib.hid (rPlain 15 rd ra rb imm true i0 i1 hpl)
  have C1 := Lib.hid fun w => fun (ow : m.Ok w) (t : Is.Tabs w) => (by exact xRun m 15 rd ra rb imm _ _ rfl rfl ⟨c1, z1, 0, 0⟩ h1 hs i0 i1 hvp.1 hvp.2 w ow t : Calls Tryd.prog 12 #[.agg (mach m), .agg (ins 15 rd ra rb imm)] w fun e W' => ∃ m1, e = .returned (.tuple #[.agg (mach m1), .agg #[.int .i64 0, .int .u32 0]]) ∧ Hid (m1.Ok W') ∧ Hid (Exd m ⟨c1, z1, 0, 0⟩ m1) ∧ Dn w W')
  have CS := Lib.hid fun (w : World) (ow : m.Ok w) (ma : Mc) (oa : ma.Ok w) (ea : Exd m ⟨c1, z1, 0, 0⟩ ma) => same_yes ma.B m.B ma.q m.q ma.ys.length m.ys.length ma.ys m.ys w oa.out ow.out rfl rfl ea.ys (by rw [ea.ys]; exact hy2)
  have CM := Lib.hid fun (w : World) (ow : m.Ok w) (ma : Mc) (oa : ma.Ok w) (ea : Exd m ⟨c1, z1, 0, 0⟩ ma) => same_yes ma.A m.A ma.k m.k ma.xs.length m.xs.length ma.xs m.xs w oa.mem ow.mem rfl rfl (ea.xs.trans hz1) (by rw [ea.xs, hz1]; exact hs)
  have q0 := eqTrap_self 0 0
  have p0 := (M.core_pc hc).1
  have p1 := (M.core_pc hc).2
  rw [show M.pc m.c = p from hpc] at p0 p1
  have HQ := Lib.hid hq
  have HD1 := Lib.hid hd
  have HR := Lib.hid hr
  have hwr : IntKind.u32.wrap (p + 4) = (p + 4) % 4294967296 := rfl
  clear hf hpl hvp h1 hq hd hr hz1
  have HD := Lib.hid (Dn.refl W)
  go_enter Tryd.func3, Tryd.ntmps3
  go_wp2_with (first | ((with_reducible refine wpList_box (vs := (mach m)) ?_ ?_ ?_); rfl; rfl; intro b_v2 w' nn; refine Hid.out ?_))
  refine Lib.hid ?_
  have HL_v2 : Hid (W.heap.size ≤ b_v2) := Lib.hid (Blk.hi nn HD.out.size)
  have d' := nn.dn
  replace HD := Lib.hid (HD.out.trans d')
  have v2 := nn.blk
  clear d' nn
  go_wp2_with (first | ((with_reducible refine wpList_box (vs := (ins 15 rd ra rb imm)) ?_ ?_ ?_); rfl; rfl; intro b_v3 w' nn; refine Hid.out ?_))
  refine Lib.hid ?_
  have n_v2_v3 := Lib.hid (nn.ne _ v2.lt)
  have HL_v3 : Hid (W.heap.size ≤ b_v3) := Lib.hid (Blk.hi nn HD.out.size)
  have d' := nn.dn
  replace v2 := v2.dn d'
  replace HD := Lib.hid (HD.out.trans d')
  have v3 := nn.blk
  clear d' nn
  go_wp2_with (first | (go_at_call 9; (with_reducible refine (C0.out _ (T.dn HD.out)).mono ?_); rintro e w' ⟨rfl, d'⟩; refine Hid.out ?_))
  refine Lib.hid ?_
  replace v2 := v2.dn d'
  replace v3 := v3.dn d'
  replace HD := Lib.hid (HD.out.trans d')
  clear d'
  go_wp2_with (first | ((with_reducible refine load33 v2 hl ?_ ?_ ?_); rfl; rfl) | (go_at_call 10; (with_reducible refine (CF.out _ (hm.dn HD.out)).mono ?_); rintro e w' ⟨rfl, d'⟩; refine Hid.out ?_))
  refine Lib.hid ?_
  replace v2 := v2.dn d'
  replace v3 := v3.dn d'
  replace HD := Lib.hid (HD.out.trans d')
  clear d'
  go_wp2_with (first | ((with_reducible refine loadI v3 ?_ ?_ ?_); rfl; rfl) | (go_at_call 11; (with_reducible refine (CP.out _).mono ?_); rintro e w' ⟨rfl, d'⟩; refine Hid.out ?_))
  refine Lib.hid ?_
  replace v2 := v2.dn d'
  replace v3 := v3.dn d'
  replace HD := Lib.hid (HD.out.trans d')
  clear d'
  go_wp2_with (first | ((with_reducible refine load33 v2 hl ?_ ?_ ?_); rfl; rfl) | ((with_reducible refine loadI v3 ?_ ?_ ?_); rfl; rfl) | (go_at_call 12; (with_reducible refine (C1.out _ (hm.dn HD.out) (T.dn HD.out)).mono ?_); rintro e w' ⟨ma, rfl, oa', ea, d'⟩; refine Hid.out ?_))
  refine Lib.hid ?_
  replace v2 := v2.dn d'
  replace v3 := v3.dn d'
  replace HD := Lib.hid (HD.out.trans d')
  clear d'
  have la := oa'.out.len
  have nt : ma.t = m.t := ea.out.t
  have nh : ma.h = m.h := ea.out.h
  have na : ma.c.getD 16 0 = q := by rw [ea.out.c]; exact HQ.out
  have q12 : ∀ w, (Op.equalIn 10000 24 (.agg (ints .u32 (ma.c.drop 17))) (.agg (ints .u32 (m.c.drop 17)))).run Tryd.prog w = .ok true w := fun w => by rw [show ma.c.drop 17 = m.c.drop 17 by rw [ea.out.c]; exact HD1.out, eq12 (drop17 hl) (drop17 hl), beq_self_eq_true]
  have RA := Lib.hid (fun j hj => by rw [ea.out.c]; exact HR.out j hj : ∀ j : Nat, j < 16 → ma.c.getD j 0 = m.c.getD j 0)
  have oa := Lib.hid oa'.out
  go_wp2_with (first | ((with_reducible refine wpList_alloc zeroMach ?_ ?_); rfl; intro b_v5 w' nn; refine Hid.out ?_))
  refine Lib.hid ?_
  have n_v2_v5 := Lib.hid (nn.ne _ v2.lt)
  have n_v3_v5 := Lib.hid (nn.ne _ v3.lt)
  have HL_v5 : Hid (W.heap.size ≤ b_v5) := Lib.hid (Blk.hi nn HD.out.size)
  have d' := nn.dn
  replace v2 := v2.dn d'
  replace v3 := v3.dn d'
  replace oa := Lib.hid (oa.out.dn d')
  replace HD := Lib.hid (HD.out.trans d')
  have v5 := nn.blk
  clear d' nn
  go_wp2_with (first | ((with_reducible refine wpList_alloc zeroTrap ?_ ?_); rfl; intro b_v6 w' nn; refine Hid.out ?_))
  refine Lib.hid ?_
  have n_v2_v6 := Lib.hid (nn.ne _ v2.lt)
  have n_v3_v6 := Lib.hid (nn.ne _ v3.lt)
  have n_v5_v6 := Lib.hid (nn.ne _ v5.lt)
  have HL_v6 : Hid (W.heap.size ≤ b_v6) := Lib.hid (Blk.hi nn HD.out.size)
  have d' := nn.dn
  replace v2 := v2.dn d'
  replace v3 := v3.dn d'
  replace v5 := v5.dn d'
  replace oa := Lib.hid (oa.out.dn d')
  replace HD := Lib.hid (HD.out.trans d')
  have v6 := nn.blk
  clear d' nn
  go_wp2_with (first | ((with_reducible refine store33 ma la v5 zlen ?_ ?_ ?_ ?_); rfl; rfl; rfl; intro w' r' t'; refine Hid.out ?_))
  refine Lib.hid ?_
  replace oa := Lib.hid (oa.out.trn v5 (NoU8.mach _) t')
  replace v2 := v2.trn t' n_v2_v5.out
  replace v3 := v3.trn t' n_v3_v5.out
  replace v6 := v6.trn t' n_v5_v6.out.symm
  replace HD := Lib.hid (HD.out.trn HL_v5.out t')
  clear t' v5
  have v5 := r'
  clear r'
  go_wp2_with (first | ((with_reducible refine storeTrap (k := 0) (v := 0) v6 ?_ ?_ ?_ ?_); rfl; rfl; rfl; intro w' r' t'; refine Hid.out ?_))
  refine Lib.hid ?_
  replace oa := Lib.hid (oa.out.trn v6 (NoU8.trap _ _) t')
  replace v2 := v2.trn t' n_v2_v6.out
  replace v3 := v3.trn t' n_v3_v6.out
  replace v5 := v5.trn t' n_v5_v6.out
  replace HD := Lib.hid (HD.out.trn HL_v6.out t')
  clear t' v6
  have v6 := r'
  clear r'
  have ck0 := v3.iop
  have ck1 := v5.time la
  rw [nt] at ck1
  have ck2 := v2.time hl
  have ck3 := v5.halted la
  rw [nh] at ck3
  have ck4 := v2.halted hl
  have ck5 := v5.out la
  have ck6 := v2.out hl
  go_wp2_with (first | ((with_reducible refine loadTrap v6 ?_ ?_ ?_); rfl; rfl) | ((with_reducible refine loadCsr v5 la ?_ ?_ ?_); rfl; rfl) | ((with_reducible refine loadCsr v2 hl ?_ ?_ ?_); rfl; rfl) | (go_at_call 14; (with_reducible refine (CS.out _ (hm.dn HD.out) ma oa.out ea.out).mono ?_); rintro e w' ⟨rfl, d'⟩; refine Hid.out ?_))
  refine Lib.hid ?_
  clear ck0 ck1 ck2 ck3 ck4 ck5 ck6
  replace v2 := v2.dn d'
  replace v3 := v3.dn d'
  replace v5 := v5.dn d'
  replace v6 := v6.dn d'
  replace oa := Lib.hid (oa.out.dn d')
  replace HD := Lib.hid (HD.out.trans d')
  clear d'
  have ck0 := v5.mem la
  have ck1 := v2.mem hl
  go_wp2_with (first | (go_at_call 14; (with_reducible refine (CM.out _ (hm.dn HD.out) ma oa.out ea.out).mono ?_); rintro e w' ⟨rfl, d'⟩; refine Hid.out ?_))
  refine Lib.hid ?_
  clear ck0 ck1
  replace v2 := v2.dn d'
  replace v3 := v3.dn d'
  replace v5 := v5.dn d'
  replace v6 := v6.dn d'
  replace oa := Lib.hid (oa.out.dn d')
  replace HD := Lib.hid (HD.out.trans d')
  clear d'
  have ck0 := v3.iop
  go_wp2_with fail
  go_loopw [9] (fun k w => FrRel 16 w' k w) (fun k _ => 16 - (intOf k).toNat)
  case atStart => exact ⟨0, by decide, rfl, Dn.refl _⟩
  case round =>
    obtain ⟨j, hj, rfl, dn⟩ := hrel
    replace v2 := v2.dn dn
    replace v3 := v3.dn dn
    replace v5 := v5.dn dn
    replace v6 := v6.dn dn
    replace oa := Lib.hid (oa.out.dn dn)
    have HW := Lib.hid (HD.out.trans dn)
    have DJ := Lib.hid dn
    clear HD dn
    by_cases hlt : j < 16
    · have hlt2 : (j : Int) < 16 := by omega
      have hz := RA.out j hlt
      have HD := Lib.hid (Dn.refl wr)
      have lo0 : (0 : Int) ≤ (j : Int) := by omega
      go_wp2_with fail
      have ck0 := v5.word la j (by simp; omega)
      have ck1 := v2.word hl j (by simp; omega)
      rw [hz] at ck0
      generalize m.c.getD j 0 = z at ck0 ck1
      have ck2 := v3.iop
      have ck3 := v3.ird
      have ck4 := v3.iimm
      have lck0 := fun d os => cell_regrown ck0 d os
      have lck1 := fun d os => cell_regrown ck1 d os
      have lck2 := fun d os => cell_regrown ck2 d os
      have lck3 := fun d os => cell_regrown ck3 d os
      have lck4 := fun d os => cell_regrown ck4 d os
      refine wp_region_quiet_below (by kernel_rfl) (by kernel_rfl) ?_
      repeat (first | go_big_quiet_skip | (go_big_quiet_want; (go_big_quiet_op; go_big_quiet_on)))
      refine wpQuiet_nil ?_
      intro _ hw'
      obtain ⟨⟨dq, osq⟩, hw''⟩ := hw'
      subst hw''
      have d' := below_regrown wr dq osq
      clear lck0 lck1 lck2 lck3 lck4 ck0 ck1 ck2 ck3 ck4
      replace v2 := v2.dn d'
      replace v3 := v3.dn d'
      replace v5 := v5.dn d'
      replace v6 := v6.dn d'
      replace oa := Lib.hid (oa.out.dn d')
      replace HD := Lib.hid (HD.out.trans d')
      clear d'
      generalize grow (redrawn wr dq) osq = w' at v2 v3 v5 v6 oa HD ⊢
      go_wp2_with fail
      exact ⟨⟨j + 1, by omega, by go_num, DJ.out.trans HD.out⟩, by simp [intOf]; omega⟩
    · have hlt2 : ¬ (j : Int) < 16 := by omega
      have HD := HW
      have ck0 := v5.word la 16 rfl
      rw [na] at ck0
      have ck1 := v2.word hl 16 rfl
      rw [hpc] at ck1
      go_wp2_with fail
      go_ret
      exact ⟨rfl, HD.out⟩
set_option maxRecDepth 100000 in
set_option maxHeartbeats 2000000 in
theorem ef_16e (m : Mc) (rd ra rb imm : Int) (W : World) (hm : m.Ok W) (T : Is.Tabs W) (i0 : -2147483648 ≤ imm) (i1 : imm < 2147483648) (hx : m.xs.length ≤ 9223372036854775807) (hy : m.ys.length ≤ 9223372036854775807) (hf : decide (m.xs.length ≤ 600 ∧ m.ys.length ≤ 600) = true) (hpl : (Is.M.ok 16 rd ra rb imm && !Is.M.priv 16) = true) (c1 z1 : List Int) (p q : Int) (h1 : M.ex m.c m.xs 16 rd ra rb imm = ⟨c1, z1, 0, 0⟩) (hpc : m.c.getD 16 0 = p) (hq : c1.getD 16 0 = q) (hd : c1.drop 17 = m.c.drop 17) (hr : ∀ j : Nat, j < 16 → c1.getD j 0 = m.c.getD j 0) (hz1 : z1 = m.xs) (hq5 : (q == (p + 4) % 4294967296) = true) :
    Calls Tryd.prog 3 #[.agg (mach m), .agg (ins 16 rd ra rb imm)] W fun e W' => e = .returned (.bool true) ∧ Dn W W' := by
  have hl := hm.len
  have hc := hm.core
  have hs : m.xs.length ≤ 100000 := by simp only [decide_eq_true_eq] at hf; omega
  have hy2 : m.ys.length ≤ 100000 := by simp only [decide_eq_true_eq] at hf; omega
  have hvp : Is.M.ok 16 rd ra rb imm = true ∧ Is.M.priv 16 = false := by simpa using hpl
  have C0 := Lib.hid fun w => fun (t : Is.Tabs w) => awake w t
  have CF := Lib.hid fun w => fun (ow : m.Ok w) => rfew m true w ow hx hy hf
  have CP := Lib.hid (rPlain 16 rd ra rb imm true i0 i1 hpl)
  have C1 := Lib.hid fun w => fun (ow : m.Ok w) (t : Is.Tabs w) => (by exact xRun m 16 rd ra rb imm _ _ rfl rfl ⟨c1, z1, 0, 0⟩ h1 hs i0 i1 hvp.1 hvp.2 w ow t : Calls Tryd.prog 12 #[.agg (mach m), .agg (ins 16 rd ra rb imm)] w fun e W' => ∃ m1, e = .returned (.tuple #[.agg (mach m1), .agg #[.int .i64 0, .int .u32 0]]) ∧ Hid (m1.Ok W') ∧ Hid (Exd m ⟨c1, z1, 0, 0⟩ m1) ∧ Dn w W')
  have CS := Lib.hid fun (w : World) (ow : m.Ok w) (ma : Mc) (oa : ma.Ok w) (ea : Exd m ⟨c1, z1, 0, 0⟩ ma) => same_yes ma.B m.B ma.q m.q ma.ys.length m.ys.length ma.ys m.ys w oa.out ow.out rfl rfl ea.ys (by rw [ea.ys]; exact hy2)
  have CM := Lib.hid fun (w : World) (ow : m.Ok w) (ma : Mc) (oa : ma.Ok w) (ea : Exd m ⟨c1, z1, 0, 0⟩ ma) => same_yes ma.A m.A ma.k m.k ma.xs.length m.xs.length ma.xs m.xs w oa.mem ow.mem rfl rfl (ea.xs.trans hz1) (by rw [ea.xs, hz1]; exact hs)
  have q0 := eqTrap_self 0 0
  have p0 := (M.core_pc hc).1
  have p1 := (M.core_pc hc).2
  rw [show M.pc m.c = p from hpc] at p0 p1
  have HQ := Lib.hid hq
  have HD1 := Lib.hid hd
  have HR := Lib.hid hr
  have hwr : IntKind.u32.wrap (p + 4) = (p + 4) % 4294967296 := rfl
  clear hf hpl hvp h1 hq hd hr hz1
  have HD := Lib.hid (Dn.refl W)
  go_enter Tryd.func3, Tryd.ntmps3
  go_wp2_with (first | ((with_reducible refine wpList_box (vs := (mach m)) ?_ ?_ ?_); rfl; rfl; intro b_v2 w' nn; refine Hid.out ?_))
  refine Lib.hid ?_
  have HL_v2 : Hid (W.heap.size ≤ b_v2) := Lib.hid (Blk.hi nn HD.out.size)
  have d' := nn.dn
  replace HD := Lib.hid (HD.out.trans d')
  have v2 := nn.blk
  clear d' nn
  go_wp2_with (first | ((with_reducible refine wpList_box (vs := (ins 16 rd ra rb imm)) ?_ ?_ ?_); rfl; rfl; intro b_v3 w' nn; refine Hid.out ?_))
  refine Lib.hid ?_
  have n_v2_v3 := Lib.hid (nn.ne _ v2.lt)
  have HL_v3 : Hid (W.heap.size ≤ b_v3) := Lib.hid (Blk.hi nn HD.out.size)
  have d' := nn.dn
  replace v2 := v2.dn d'
  replace HD := Lib.hid (HD.out.trans d')
  have v3 := nn.blk
  clear d' nn
  go_wp2_with (first | (go_at_call 9; (with_reducible refine (C0.out _ (T.dn HD.out)).mono ?_); rintro e w' ⟨rfl, d'⟩; refine Hid.out ?_))
  refine Lib.hid ?_
  replace v2 := v2.dn d'
  replace v3 := v3.dn d'
  replace HD := Lib.hid (HD.out.trans d')
  clear d'
  go_wp2_with (first | ((with_reducible refine load33 v2 hl ?_ ?_ ?_); rfl; rfl) | (go_at_call 10; (with_reducible refine (CF.out _ (hm.dn HD.out)).mono ?_); rintro e w' ⟨rfl, d'⟩; refine Hid.out ?_))
  refine Lib.hid ?_
  replace v2 := v2.dn d'
  replace v3 := v3.dn d'
  replace HD := Lib.hid (HD.out.trans d')
  clear d'
  go_wp2_with (first | ((with_reducible refine loadI v3 ?_ ?_ ?_); rfl; rfl) | (go_at_call 11; (with_reducible refine (CP.out _).mono ?_); rintro e w' ⟨rfl, d'⟩; refine Hid.out ?_))
  refine Lib.hid ?_
  replace v2 := v2.dn d'
  replace v3 := v3.dn d'
  replace HD := Lib.hid (HD.out.trans d')
  clear d'
  go_wp2_with (first | ((with_reducible refine load33 v2 hl ?_ ?_ ?_); rfl; rfl) | ((with_reducible refine loadI v3 ?_ ?_ ?_); rfl; rfl) | (go_at_call 12; (with_reducible refine (C1.out _ (hm.dn HD.out) (T.dn HD.out)).mono ?_); rintro e w' ⟨ma, rfl, oa', ea, d'⟩; refine Hid.out ?_))
  refine Lib.hid ?_
  replace v2 := v2.dn d'
  replace v3 := v3.dn d'
  replace HD := Lib.hid (HD.out.trans d')
  clear d'
  have la := oa'.out.len
  have nt : ma.t = m.t := ea.out.t
  have nh : ma.h = m.h := ea.out.h
  have na : ma.c.getD 16 0 = q := by rw [ea.out.c]; exact HQ.out
  have q12 : ∀ w, (Op.equalIn 10000 24 (.agg (ints .u32 (ma.c.drop 17))) (.agg (ints .u32 (m.c.drop 17)))).run Tryd.prog w = .ok true w := fun w => by rw [show ma.c.drop 17 = m.c.drop 17 by rw [ea.out.c]; exact HD1.out, eq12 (drop17 hl) (drop17 hl), beq_self_eq_true]
  have RA := Lib.hid (fun j hj => by rw [ea.out.c]; exact HR.out j hj : ∀ j : Nat, j < 16 → ma.c.getD j 0 = m.c.getD j 0)
  have oa := Lib.hid oa'.out
  go_wp2_with (first | ((with_reducible refine wpList_alloc zeroMach ?_ ?_); rfl; intro b_v5 w' nn; refine Hid.out ?_))
  refine Lib.hid ?_
  have n_v2_v5 := Lib.hid (nn.ne _ v2.lt)
  have n_v3_v5 := Lib.hid (nn.ne _ v3.lt)
  have HL_v5 : Hid (W.heap.size ≤ b_v5) := Lib.hid (Blk.hi nn HD.out.size)
  have d' := nn.dn
  replace v2 := v2.dn d'
  replace v3 := v3.dn d'
  replace oa := Lib.hid (oa.out.dn d')
  replace HD := Lib.hid (HD.out.trans d')
  have v5 := nn.blk
  clear d' nn
  go_wp2_with (first | ((with_reducible refine wpList_alloc zeroTrap ?_ ?_); rfl; intro b_v6 w' nn; refine Hid.out ?_))
  refine Lib.hid ?_
  have n_v2_v6 := Lib.hid (nn.ne _ v2.lt)
  have n_v3_v6 := Lib.hid (nn.ne _ v3.lt)
  have n_v5_v6 := Lib.hid (nn.ne _ v5.lt)
  have HL_v6 : Hid (W.heap.size ≤ b_v6) := Lib.hid (Blk.hi nn HD.out.size)
  have d' := nn.dn
  replace v2 := v2.dn d'
  replace v3 := v3.dn d'
  replace v5 := v5.dn d'
  replace oa := Lib.hid (oa.out.dn d')
  replace HD := Lib.hid (HD.out.trans d')
  have v6 := nn.blk
  clear d' nn
  go_wp2_with (first | ((with_reducible refine store33 ma la v5 zlen ?_ ?_ ?_ ?_); rfl; rfl; rfl; intro w' r' t'; refine Hid.out ?_))
  refine Lib.hid ?_
  replace oa := Lib.hid (oa.out.trn v5 (NoU8.mach _) t')
  replace v2 := v2.trn t' n_v2_v5.out
  replace v3 := v3.trn t' n_v3_v5.out
  replace v6 := v6.trn t' n_v5_v6.out.symm
  replace HD := Lib.hid (HD.out.trn HL_v5.out t')
  clear t' v5
  have v5 := r'
  clear r'
  go_wp2_with (first | ((with_reducible refine storeTrap (k := 0) (v := 0) v6 ?_ ?_ ?_ ?_); rfl; rfl; rfl; intro w' r' t'; refine Hid.out ?_))
  refine Lib.hid ?_
  replace oa := Lib.hid (oa.out.trn v6 (NoU8.trap _ _) t')
  replace v2 := v2.trn t' n_v2_v6.out
  replace v3 := v3.trn t' n_v3_v6.out
  replace v5 := v5.trn t' n_v5_v6.out
  replace HD := Lib.hid (HD.out.trn HL_v6.out t')
  clear t' v6
  have v6 := r'
  clear r'
  have ck0 := v3.iop
  have ck1 := v5.time la
  rw [nt] at ck1
  have ck2 := v2.time hl
  have ck3 := v5.halted la
  rw [nh] at ck3
  have ck4 := v2.halted hl
  have ck5 := v5.out la
  have ck6 := v2.out hl
  go_wp2_with (first | ((with_reducible refine loadTrap v6 ?_ ?_ ?_); rfl; rfl) | ((with_reducible refine loadCsr v5 la ?_ ?_ ?_); rfl; rfl) | ((with_reducible refine loadCsr v2 hl ?_ ?_ ?_); rfl; rfl) | (go_at_call 14; (with_reducible refine (CS.out _ (hm.dn HD.out) ma oa.out ea.out).mono ?_); rintro e w' ⟨rfl, d'⟩; refine Hid.out ?_))
  refine Lib.hid ?_
  clear ck0 ck1 ck2 ck3 ck4 ck5 ck6
  replace v2 := v2.dn d'
  replace v3 := v3.dn d'
  replace v5 := v5.dn d'
  replace v6 := v6.dn d'
  replace oa := Lib.hid (oa.out.dn d')
  replace HD := Lib.hid (HD.out.trans d')
  clear d'
  have ck0 := v5.mem la
  have ck1 := v2.mem hl
  go_wp2_with (first | (go_at_call 14; (with_reducible refine (CM.out _ (hm.dn HD.out) ma oa.out ea.out).mono ?_); rintro e w' ⟨rfl, d'⟩; refine Hid.out ?_))
  refine Lib.hid ?_
  clear ck0 ck1
  replace v2 := v2.dn d'
  replace v3 := v3.dn d'
  replace v5 := v5.dn d'
  replace v6 := v6.dn d'
  replace oa := Lib.hid (oa.out.dn d')
  replace HD := Lib.hid (HD.out.trans d')
  clear d'
  have ck0 := v3.iop
  go_wp2_with fail
  go_loopw [9] (fun k w => FrRel 16 w' k w) (fun k _ => 16 - (intOf k).toNat)
  case atStart => exact ⟨0, by decide, rfl, Dn.refl _⟩
  case round =>
    obtain ⟨j, hj, rfl, dn⟩ := hrel
    replace v2 := v2.dn dn
    replace v3 := v3.dn dn
    replace v5 := v5.dn dn
    replace v6 := v6.dn dn
    replace oa := Lib.hid (oa.out.dn dn)
    have HW := Lib.hid (HD.out.trans dn)
    have DJ := Lib.hid dn
    clear HD dn
    by_cases hlt : j < 16
    · have hlt2 : (j : Int) < 16 := by omega
      have hz := RA.out j hlt
      have HD := Lib.hid (Dn.refl wr)
      have lo0 : (0 : Int) ≤ (j : Int) := by omega
      go_wp2_with fail
      have ck0 := v5.word la j (by simp; omega)
      have ck1 := v2.word hl j (by simp; omega)
      rw [hz] at ck0
      generalize m.c.getD j 0 = z at ck0 ck1
      have ck2 := v3.iop
      have ck3 := v3.ird
      have ck4 := v3.iimm
      have lck0 := fun d os => cell_regrown ck0 d os
      have lck1 := fun d os => cell_regrown ck1 d os
      have lck2 := fun d os => cell_regrown ck2 d os
      have lck3 := fun d os => cell_regrown ck3 d os
      have lck4 := fun d os => cell_regrown ck4 d os
      refine wp_region_quiet_below (by kernel_rfl) (by kernel_rfl) ?_
      repeat (first | go_big_quiet_skip | (go_big_quiet_want; (go_big_quiet_op; go_big_quiet_on)))
      refine wpQuiet_nil ?_
      intro _ hw'
      obtain ⟨⟨dq, osq⟩, hw''⟩ := hw'
      subst hw''
      have d' := below_regrown wr dq osq
      clear lck0 lck1 lck2 lck3 lck4 ck0 ck1 ck2 ck3 ck4
      replace v2 := v2.dn d'
      replace v3 := v3.dn d'
      replace v5 := v5.dn d'
      replace v6 := v6.dn d'
      replace oa := Lib.hid (oa.out.dn d')
      replace HD := Lib.hid (HD.out.trans d')
      clear d'
      generalize grow (redrawn wr dq) osq = w' at v2 v3 v5 v6 oa HD ⊢
      go_wp2_with fail
      exact ⟨⟨j + 1, by omega, by go_num, DJ.out.trans HD.out⟩, by simp [intOf]; omega⟩
    · have hlt2 : ¬ (j : Int) < 16 := by omega
      have HD := HW
      have ck0 := v5.word la 16 rfl
      rw [na] at ck0
      have ck1 := v2.word hl 16 rfl
      rw [hpc] at ck1
      go_wp2_with fail
      go_ret
      exact ⟨rfl, HD.out⟩
set_option maxRecDepth 100000 in
set_option maxHeartbeats 2000000 in
theorem ef_16n (m : Mc) (rd ra rb imm : Int) (W : World) (hm : m.Ok W) (T : Is.Tabs W) (i0 : -2147483648 ≤ imm) (i1 : imm < 2147483648) (hx : m.xs.length ≤ 9223372036854775807) (hy : m.ys.length ≤ 9223372036854775807) (hf : decide (m.xs.length ≤ 600 ∧ m.ys.length ≤ 600) = true) (hpl : (Is.M.ok 16 rd ra rb imm && !Is.M.priv 16) = true) (c1 z1 : List Int) (p q : Int) (h1 : M.ex m.c m.xs 16 rd ra rb imm = ⟨c1, z1, 0, 0⟩) (hpc : m.c.getD 16 0 = p) (hq : c1.getD 16 0 = q) (hd : c1.drop 17 = m.c.drop 17) (hr : ∀ j : Nat, j < 16 → c1.getD j 0 = m.c.getD j 0) (hz1 : z1 = m.xs) (hq5 : (q == (p + 4) % 4294967296) = false) :
    Calls Tryd.prog 3 #[.agg (mach m), .agg (ins 16 rd ra rb imm)] W fun e W' => e = .returned (.bool true) ∧ Dn W W' := by
  have hl := hm.len
  have hc := hm.core
  have hs : m.xs.length ≤ 100000 := by simp only [decide_eq_true_eq] at hf; omega
  have hy2 : m.ys.length ≤ 100000 := by simp only [decide_eq_true_eq] at hf; omega
  have hvp : Is.M.ok 16 rd ra rb imm = true ∧ Is.M.priv 16 = false := by simpa using hpl
  have C0 := Lib.hid fun w => fun (t : Is.Tabs w) => awake w t
  have CF := Lib.hid fun w => fun (ow : m.Ok w) => rfew m true w ow hx hy hf
  have CP := Lib.hid (rPlain 16 rd ra rb imm true i0 i1 hpl)
  have C1 := Lib.hid fun w => fun (ow : m.Ok w) (t : Is.Tabs w) => (by exact xRun m 16 rd ra rb imm _ _ rfl rfl ⟨c1, z1, 0, 0⟩ h1 hs i0 i1 hvp.1 hvp.2 w ow t : Calls Tryd.prog 12 #[.agg (mach m), .agg (ins 16 rd ra rb imm)] w fun e W' => ∃ m1, e = .returned (.tuple #[.agg (mach m1), .agg #[.int .i64 0, .int .u32 0]]) ∧ Hid (m1.Ok W') ∧ Hid (Exd m ⟨c1, z1, 0, 0⟩ m1) ∧ Dn w W')
  have CS := Lib.hid fun (w : World) (ow : m.Ok w) (ma : Mc) (oa : ma.Ok w) (ea : Exd m ⟨c1, z1, 0, 0⟩ ma) => same_yes ma.B m.B ma.q m.q ma.ys.length m.ys.length ma.ys m.ys w oa.out ow.out rfl rfl ea.ys (by rw [ea.ys]; exact hy2)
  have CM := Lib.hid fun (w : World) (ow : m.Ok w) (ma : Mc) (oa : ma.Ok w) (ea : Exd m ⟨c1, z1, 0, 0⟩ ma) => same_yes ma.A m.A ma.k m.k ma.xs.length m.xs.length ma.xs m.xs w oa.mem ow.mem rfl rfl (ea.xs.trans hz1) (by rw [ea.xs, hz1]; exact hs)
  have q0 := eqTrap_self 0 0
  have p0 := (M.core_pc hc).1
  have p1 := (M.core_pc hc).2
  rw [show M.pc m.c = p from hpc] at p0 p1
  have HQ := Lib.hid hq
  have HD1 := Lib.hid hd
  have HR := Lib.hid hr
  have hwr : IntKind.u32.wrap (p + 4) = (p + 4) % 4294967296 := rfl
  clear hf hpl hvp h1 hq hd hr hz1
  have HD := Lib.hid (Dn.refl W)
  go_enter Tryd.func3, Tryd.ntmps3
  go_wp2_with (first | ((with_reducible refine wpList_box (vs := (mach m)) ?_ ?_ ?_); rfl; rfl; intro b_v2 w' nn; refine Hid.out ?_))
  refine Lib.hid ?_
  have HL_v2 : Hid (W.heap.size ≤ b_v2) := Lib.hid (Blk.hi nn HD.out.size)
  have d' := nn.dn
  replace HD := Lib.hid (HD.out.trans d')
  have v2 := nn.blk
  clear d' nn
  go_wp2_with (first | ((with_reducible refine wpList_box (vs := (ins 16 rd ra rb imm)) ?_ ?_ ?_); rfl; rfl; intro b_v3 w' nn; refine Hid.out ?_))
  refine Lib.hid ?_
  have n_v2_v3 := Lib.hid (nn.ne _ v2.lt)
  have HL_v3 : Hid (W.heap.size ≤ b_v3) := Lib.hid (Blk.hi nn HD.out.size)
  have d' := nn.dn
  replace v2 := v2.dn d'
  replace HD := Lib.hid (HD.out.trans d')
  have v3 := nn.blk
  clear d' nn
  go_wp2_with (first | (go_at_call 9; (with_reducible refine (C0.out _ (T.dn HD.out)).mono ?_); rintro e w' ⟨rfl, d'⟩; refine Hid.out ?_))
  refine Lib.hid ?_
  replace v2 := v2.dn d'
  replace v3 := v3.dn d'
  replace HD := Lib.hid (HD.out.trans d')
  clear d'
  go_wp2_with (first | ((with_reducible refine load33 v2 hl ?_ ?_ ?_); rfl; rfl) | (go_at_call 10; (with_reducible refine (CF.out _ (hm.dn HD.out)).mono ?_); rintro e w' ⟨rfl, d'⟩; refine Hid.out ?_))
  refine Lib.hid ?_
  replace v2 := v2.dn d'
  replace v3 := v3.dn d'
  replace HD := Lib.hid (HD.out.trans d')
  clear d'
  go_wp2_with (first | ((with_reducible refine loadI v3 ?_ ?_ ?_); rfl; rfl) | (go_at_call 11; (with_reducible refine (CP.out _).mono ?_); rintro e w' ⟨rfl, d'⟩; refine Hid.out ?_))
  refine Lib.hid ?_
  replace v2 := v2.dn d'
  replace v3 := v3.dn d'
  replace HD := Lib.hid (HD.out.trans d')
  clear d'
  go_wp2_with (first | ((with_reducible refine load33 v2 hl ?_ ?_ ?_); rfl; rfl) | ((with_reducible refine loadI v3 ?_ ?_ ?_); rfl; rfl) | (go_at_call 12; (with_reducible refine (C1.out _ (hm.dn HD.out) (T.dn HD.out)).mono ?_); rintro e w' ⟨ma, rfl, oa', ea, d'⟩; refine Hid.out ?_))
  refine Lib.hid ?_
  replace v2 := v2.dn d'
  replace v3 := v3.dn d'
  replace HD := Lib.hid (HD.out.trans d')
  clear d'
  have la := oa'.out.len
  have nt : ma.t = m.t := ea.out.t
  have nh : ma.h = m.h := ea.out.h
  have na : ma.c.getD 16 0 = q := by rw [ea.out.c]; exact HQ.out
  have q12 : ∀ w, (Op.equalIn 10000 24 (.agg (ints .u32 (ma.c.drop 17))) (.agg (ints .u32 (m.c.drop 17)))).run Tryd.prog w = .ok true w := fun w => by rw [show ma.c.drop 17 = m.c.drop 17 by rw [ea.out.c]; exact HD1.out, eq12 (drop17 hl) (drop17 hl), beq_self_eq_true]
  have RA := Lib.hid (fun j hj => by rw [ea.out.c]; exact HR.out j hj : ∀ j : Nat, j < 16 → ma.c.getD j 0 = m.c.getD j 0)
  have oa := Lib.hid oa'.out
  go_wp2_with (first | ((with_reducible refine wpList_alloc zeroMach ?_ ?_); rfl; intro b_v5 w' nn; refine Hid.out ?_))
  refine Lib.hid ?_
  have n_v2_v5 := Lib.hid (nn.ne _ v2.lt)
  have n_v3_v5 := Lib.hid (nn.ne _ v3.lt)
  have HL_v5 : Hid (W.heap.size ≤ b_v5) := Lib.hid (Blk.hi nn HD.out.size)
  have d' := nn.dn
  replace v2 := v2.dn d'
  replace v3 := v3.dn d'
  replace oa := Lib.hid (oa.out.dn d')
  replace HD := Lib.hid (HD.out.trans d')
  have v5 := nn.blk
  clear d' nn
  go_wp2_with (first | ((with_reducible refine wpList_alloc zeroTrap ?_ ?_); rfl; intro b_v6 w' nn; refine Hid.out ?_))
  refine Lib.hid ?_
  have n_v2_v6 := Lib.hid (nn.ne _ v2.lt)
  have n_v3_v6 := Lib.hid (nn.ne _ v3.lt)
  have n_v5_v6 := Lib.hid (nn.ne _ v5.lt)
  have HL_v6 : Hid (W.heap.size ≤ b_v6) := Lib.hid (Blk.hi nn HD.out.size)
  have d' := nn.dn
  replace v2 := v2.dn d'
  replace v3 := v3.dn d'
  replace v5 := v5.dn d'
  replace oa := Lib.hid (oa.out.dn d')
  replace HD := Lib.hid (HD.out.trans d')
  have v6 := nn.blk
  clear d' nn
  go_wp2_with (first | ((with_reducible refine store33 ma la v5 zlen ?_ ?_ ?_ ?_); rfl; rfl; rfl; intro w' r' t'; refine Hid.out ?_))
  refine Lib.hid ?_
  replace oa := Lib.hid (oa.out.trn v5 (NoU8.mach _) t')
  replace v2 := v2.trn t' n_v2_v5.out
  replace v3 := v3.trn t' n_v3_v5.out
  replace v6 := v6.trn t' n_v5_v6.out.symm
  replace HD := Lib.hid (HD.out.trn HL_v5.out t')
  clear t' v5
  have v5 := r'
  clear r'
  go_wp2_with (first | ((with_reducible refine storeTrap (k := 0) (v := 0) v6 ?_ ?_ ?_ ?_); rfl; rfl; rfl; intro w' r' t'; refine Hid.out ?_))
  refine Lib.hid ?_
  replace oa := Lib.hid (oa.out.trn v6 (NoU8.trap _ _) t')
  replace v2 := v2.trn t' n_v2_v6.out
  replace v3 := v3.trn t' n_v3_v6.out
  replace v5 := v5.trn t' n_v5_v6.out
  replace HD := Lib.hid (HD.out.trn HL_v6.out t')
  clear t' v6
  have v6 := r'
  clear r'
  have ck0 := v3.iop
  have ck1 := v5.time la
  rw [nt] at ck1
  have ck2 := v2.time hl
  have ck3 := v5.halted la
  rw [nh] at ck3
  have ck4 := v2.halted hl
  have ck5 := v5.out la
  have ck6 := v2.out hl
  go_wp2_with (first | ((with_reducible refine loadTrap v6 ?_ ?_ ?_); rfl; rfl) | ((with_reducible refine loadCsr v5 la ?_ ?_ ?_); rfl; rfl) | ((with_reducible refine loadCsr v2 hl ?_ ?_ ?_); rfl; rfl) | (go_at_call 14; (with_reducible refine (CS.out _ (hm.dn HD.out) ma oa.out ea.out).mono ?_); rintro e w' ⟨rfl, d'⟩; refine Hid.out ?_))
  refine Lib.hid ?_
  clear ck0 ck1 ck2 ck3 ck4 ck5 ck6
  replace v2 := v2.dn d'
  replace v3 := v3.dn d'
  replace v5 := v5.dn d'
  replace v6 := v6.dn d'
  replace oa := Lib.hid (oa.out.dn d')
  replace HD := Lib.hid (HD.out.trans d')
  clear d'
  have ck0 := v5.mem la
  have ck1 := v2.mem hl
  go_wp2_with (first | (go_at_call 14; (with_reducible refine (CM.out _ (hm.dn HD.out) ma oa.out ea.out).mono ?_); rintro e w' ⟨rfl, d'⟩; refine Hid.out ?_))
  refine Lib.hid ?_
  clear ck0 ck1
  replace v2 := v2.dn d'
  replace v3 := v3.dn d'
  replace v5 := v5.dn d'
  replace v6 := v6.dn d'
  replace oa := Lib.hid (oa.out.dn d')
  replace HD := Lib.hid (HD.out.trans d')
  clear d'
  have ck0 := v3.iop
  go_wp2_with fail
  go_loopw [9] (fun k w => FrRel 16 w' k w) (fun k _ => 16 - (intOf k).toNat)
  case atStart => exact ⟨0, by decide, rfl, Dn.refl _⟩
  case round =>
    obtain ⟨j, hj, rfl, dn⟩ := hrel
    replace v2 := v2.dn dn
    replace v3 := v3.dn dn
    replace v5 := v5.dn dn
    replace v6 := v6.dn dn
    replace oa := Lib.hid (oa.out.dn dn)
    have HW := Lib.hid (HD.out.trans dn)
    have DJ := Lib.hid dn
    clear HD dn
    by_cases hlt : j < 16
    · have hlt2 : (j : Int) < 16 := by omega
      have hz := RA.out j hlt
      have HD := Lib.hid (Dn.refl wr)
      have lo0 : (0 : Int) ≤ (j : Int) := by omega
      go_wp2_with fail
      have ck0 := v5.word la j (by simp; omega)
      have ck1 := v2.word hl j (by simp; omega)
      rw [hz] at ck0
      generalize m.c.getD j 0 = z at ck0 ck1
      have ck2 := v3.iop
      have ck3 := v3.ird
      have ck4 := v3.iimm
      have lck0 := fun d os => cell_regrown ck0 d os
      have lck1 := fun d os => cell_regrown ck1 d os
      have lck2 := fun d os => cell_regrown ck2 d os
      have lck3 := fun d os => cell_regrown ck3 d os
      have lck4 := fun d os => cell_regrown ck4 d os
      refine wp_region_quiet_below (by kernel_rfl) (by kernel_rfl) ?_
      repeat (first | go_big_quiet_skip | (go_big_quiet_want; (go_big_quiet_op; go_big_quiet_on)))
      refine wpQuiet_nil ?_
      intro _ hw'
      obtain ⟨⟨dq, osq⟩, hw''⟩ := hw'
      subst hw''
      have d' := below_regrown wr dq osq
      clear lck0 lck1 lck2 lck3 lck4 ck0 ck1 ck2 ck3 ck4
      replace v2 := v2.dn d'
      replace v3 := v3.dn d'
      replace v5 := v5.dn d'
      replace v6 := v6.dn d'
      replace oa := Lib.hid (oa.out.dn d')
      replace HD := Lib.hid (HD.out.trans d')
      clear d'
      generalize grow (redrawn wr dq) osq = w' at v2 v3 v5 v6 oa HD ⊢
      go_wp2_with fail
      exact ⟨⟨j + 1, by omega, by go_num, DJ.out.trans HD.out⟩, by simp [intOf]; omega⟩
    · have hlt2 : ¬ (j : Int) < 16 := by omega
      have HD := HW
      have ck0 := v5.word la 16 rfl
      rw [na] at ck0
      have ck1 := v2.word hl 16 rfl
      rw [hpc] at ck1
      go_wp2_with fail
      go_ret
      exact ⟨rfl, HD.out⟩
set_option maxRecDepth 100000 in
set_option maxHeartbeats 2000000 in
theorem ef_17e (m : Mc) (rd ra rb imm : Int) (W : World) (hm : m.Ok W) (T : Is.Tabs W) (i0 : -2147483648 ≤ imm) (i1 : imm < 2147483648) (hx : m.xs.length ≤ 9223372036854775807) (hy : m.ys.length ≤ 9223372036854775807) (hf : decide (m.xs.length ≤ 600 ∧ m.ys.length ≤ 600) = true) (hpl : (Is.M.ok 17 rd ra rb imm && !Is.M.priv 17) = true) (c1 z1 : List Int) (p q : Int) (h1 : M.ex m.c m.xs 17 rd ra rb imm = ⟨c1, z1, 0, 0⟩) (hpc : m.c.getD 16 0 = p) (hq : c1.getD 16 0 = q) (hd : c1.drop 17 = m.c.drop 17) (hr : ∀ j : Nat, j < 16 → c1.getD j 0 = m.c.getD j 0) (hz1 : z1 = m.xs) (hq5 : (q == (p + 4) % 4294967296) = true) :
    Calls Tryd.prog 3 #[.agg (mach m), .agg (ins 17 rd ra rb imm)] W fun e W' => e = .returned (.bool true) ∧ Dn W W' := by
  have hl := hm.len
  have hc := hm.core
  have hs : m.xs.length ≤ 100000 := by simp only [decide_eq_true_eq] at hf; omega
  have hy2 : m.ys.length ≤ 100000 := by simp only [decide_eq_true_eq] at hf; omega
  have hvp : Is.M.ok 17 rd ra rb imm = true ∧ Is.M.priv 17 = false := by simpa using hpl
  have C0 := Lib.hid fun w => fun (t : Is.Tabs w) => awake w t
  have CF := Lib.hid fun w => fun (ow : m.Ok w) => rfew m true w ow hx hy hf
  have CP := Lib.hid (rPlain 17 rd ra rb imm true i0 i1 hpl)
  have C1 := Lib.hid fun w => fun (ow : m.Ok w) (t : Is.Tabs w) => (by exact xRun m 17 rd ra rb imm _ _ rfl rfl ⟨c1, z1, 0, 0⟩ h1 hs i0 i1 hvp.1 hvp.2 w ow t : Calls Tryd.prog 12 #[.agg (mach m), .agg (ins 17 rd ra rb imm)] w fun e W' => ∃ m1, e = .returned (.tuple #[.agg (mach m1), .agg #[.int .i64 0, .int .u32 0]]) ∧ Hid (m1.Ok W') ∧ Hid (Exd m ⟨c1, z1, 0, 0⟩ m1) ∧ Dn w W')
  have CS := Lib.hid fun (w : World) (ow : m.Ok w) (ma : Mc) (oa : ma.Ok w) (ea : Exd m ⟨c1, z1, 0, 0⟩ ma) => same_yes ma.B m.B ma.q m.q ma.ys.length m.ys.length ma.ys m.ys w oa.out ow.out rfl rfl ea.ys (by rw [ea.ys]; exact hy2)
  have CM := Lib.hid fun (w : World) (ow : m.Ok w) (ma : Mc) (oa : ma.Ok w) (ea : Exd m ⟨c1, z1, 0, 0⟩ ma) => same_yes ma.A m.A ma.k m.k ma.xs.length m.xs.length ma.xs m.xs w oa.mem ow.mem rfl rfl (ea.xs.trans hz1) (by rw [ea.xs, hz1]; exact hs)
  have q0 := eqTrap_self 0 0
  have p0 := (M.core_pc hc).1
  have p1 := (M.core_pc hc).2
  rw [show M.pc m.c = p from hpc] at p0 p1
  have HQ := Lib.hid hq
  have HD1 := Lib.hid hd
  have HR := Lib.hid hr
  have hwr : IntKind.u32.wrap (p + 4) = (p + 4) % 4294967296 := rfl
  clear hf hpl hvp h1 hq hd hr hz1
  have HD := Lib.hid (Dn.refl W)
  go_enter Tryd.func3, Tryd.ntmps3
  go_wp2_with (first | ((with_reducible refine wpList_box (vs := (mach m)) ?_ ?_ ?_); rfl; rfl; intro b_v2 w' nn; refine Hid.out ?_))
  refine Lib.hid ?_
  have HL_v2 : Hid (W.heap.size ≤ b_v2) := Lib.hid (Blk.hi nn HD.out.size)
  have d' := nn.dn
  replace HD := Lib.hid (HD.out.trans d')
  have v2 := nn.blk
  clear d' nn
  go_wp2_with (first | ((with_reducible refine wpList_box (vs := (ins 17 rd ra rb imm)) ?_ ?_ ?_); rfl; rfl; intro b_v3 w' nn; refine Hid.out ?_))
  refine Lib.hid ?_
  have n_v2_v3 := Lib.hid (nn.ne _ v2.lt)
  have HL_v3 : Hid (W.heap.size ≤ b_v3) := Lib.hid (Blk.hi nn HD.out.size)
  have d' := nn.dn
  replace v2 := v2.dn d'
  replace HD := Lib.hid (HD.out.trans d')
  have v3 := nn.blk
  clear d' nn
  go_wp2_with (first | (go_at_call 9; (with_reducible refine (C0.out _ (T.dn HD.out)).mono ?_); rintro e w' ⟨rfl, d'⟩; refine Hid.out ?_))
  refine Lib.hid ?_
  replace v2 := v2.dn d'
  replace v3 := v3.dn d'
  replace HD := Lib.hid (HD.out.trans d')
  clear d'
  go_wp2_with (first | ((with_reducible refine load33 v2 hl ?_ ?_ ?_); rfl; rfl) | (go_at_call 10; (with_reducible refine (CF.out _ (hm.dn HD.out)).mono ?_); rintro e w' ⟨rfl, d'⟩; refine Hid.out ?_))
  refine Lib.hid ?_
  replace v2 := v2.dn d'
  replace v3 := v3.dn d'
  replace HD := Lib.hid (HD.out.trans d')
  clear d'
  go_wp2_with (first | ((with_reducible refine loadI v3 ?_ ?_ ?_); rfl; rfl) | (go_at_call 11; (with_reducible refine (CP.out _).mono ?_); rintro e w' ⟨rfl, d'⟩; refine Hid.out ?_))
  refine Lib.hid ?_
  replace v2 := v2.dn d'
  replace v3 := v3.dn d'
  replace HD := Lib.hid (HD.out.trans d')
  clear d'
  go_wp2_with (first | ((with_reducible refine load33 v2 hl ?_ ?_ ?_); rfl; rfl) | ((with_reducible refine loadI v3 ?_ ?_ ?_); rfl; rfl) | (go_at_call 12; (with_reducible refine (C1.out _ (hm.dn HD.out) (T.dn HD.out)).mono ?_); rintro e w' ⟨ma, rfl, oa', ea, d'⟩; refine Hid.out ?_))
  refine Lib.hid ?_
  replace v2 := v2.dn d'
  replace v3 := v3.dn d'
  replace HD := Lib.hid (HD.out.trans d')
  clear d'
  have la := oa'.out.len
  have nt : ma.t = m.t := ea.out.t
  have nh : ma.h = m.h := ea.out.h
  have na : ma.c.getD 16 0 = q := by rw [ea.out.c]; exact HQ.out
  have q12 : ∀ w, (Op.equalIn 10000 24 (.agg (ints .u32 (ma.c.drop 17))) (.agg (ints .u32 (m.c.drop 17)))).run Tryd.prog w = .ok true w := fun w => by rw [show ma.c.drop 17 = m.c.drop 17 by rw [ea.out.c]; exact HD1.out, eq12 (drop17 hl) (drop17 hl), beq_self_eq_true]
  have RA := Lib.hid (fun j hj => by rw [ea.out.c]; exact HR.out j hj : ∀ j : Nat, j < 16 → ma.c.getD j 0 = m.c.getD j 0)
  have oa := Lib.hid oa'.out
  go_wp2_with (first | ((with_reducible refine wpList_alloc zeroMach ?_ ?_); rfl; intro b_v5 w' nn; refine Hid.out ?_))
  refine Lib.hid ?_
  have n_v2_v5 := Lib.hid (nn.ne _ v2.lt)
  have n_v3_v5 := Lib.hid (nn.ne _ v3.lt)
  have HL_v5 : Hid (W.heap.size ≤ b_v5) := Lib.hid (Blk.hi nn HD.out.size)
  have d' := nn.dn
  replace v2 := v2.dn d'
  replace v3 := v3.dn d'
  replace oa := Lib.hid (oa.out.dn d')
  replace HD := Lib.hid (HD.out.trans d')
  have v5 := nn.blk
  clear d' nn
  go_wp2_with (first | ((with_reducible refine wpList_alloc zeroTrap ?_ ?_); rfl; intro b_v6 w' nn; refine Hid.out ?_))
  refine Lib.hid ?_
  have n_v2_v6 := Lib.hid (nn.ne _ v2.lt)
  have n_v3_v6 := Lib.hid (nn.ne _ v3.lt)
  have n_v5_v6 := Lib.hid (nn.ne _ v5.lt)
  have HL_v6 : Hid (W.heap.size ≤ b_v6) := Lib.hid (Blk.hi nn HD.out.size)
  have d' := nn.dn
  replace v2 := v2.dn d'
  replace v3 := v3.dn d'
  replace v5 := v5.dn d'
  replace oa := Lib.hid (oa.out.dn d')
  replace HD := Lib.hid (HD.out.trans d')
  have v6 := nn.blk
  clear d' nn
  go_wp2_with (first | ((with_reducible refine store33 ma la v5 zlen ?_ ?_ ?_ ?_); rfl; rfl; rfl; intro w' r' t'; refine Hid.out ?_))
  refine Lib.hid ?_
  replace oa := Lib.hid (oa.out.trn v5 (NoU8.mach _) t')
  replace v2 := v2.trn t' n_v2_v5.out
  replace v3 := v3.trn t' n_v3_v5.out
  replace v6 := v6.trn t' n_v5_v6.out.symm
  replace HD := Lib.hid (HD.out.trn HL_v5.out t')
  clear t' v5
  have v5 := r'
  clear r'
  go_wp2_with (first | ((with_reducible refine storeTrap (k := 0) (v := 0) v6 ?_ ?_ ?_ ?_); rfl; rfl; rfl; intro w' r' t'; refine Hid.out ?_))
  refine Lib.hid ?_
  replace oa := Lib.hid (oa.out.trn v6 (NoU8.trap _ _) t')
  replace v2 := v2.trn t' n_v2_v6.out
  replace v3 := v3.trn t' n_v3_v6.out
  replace v5 := v5.trn t' n_v5_v6.out
  replace HD := Lib.hid (HD.out.trn HL_v6.out t')
  clear t' v6
  have v6 := r'
  clear r'
  have ck0 := v3.iop
  have ck1 := v5.time la
  rw [nt] at ck1
  have ck2 := v2.time hl
  have ck3 := v5.halted la
  rw [nh] at ck3
  have ck4 := v2.halted hl
  have ck5 := v5.out la
  have ck6 := v2.out hl
  go_wp2_with (first | ((with_reducible refine loadTrap v6 ?_ ?_ ?_); rfl; rfl) | ((with_reducible refine loadCsr v5 la ?_ ?_ ?_); rfl; rfl) | ((with_reducible refine loadCsr v2 hl ?_ ?_ ?_); rfl; rfl) | (go_at_call 14; (with_reducible refine (CS.out _ (hm.dn HD.out) ma oa.out ea.out).mono ?_); rintro e w' ⟨rfl, d'⟩; refine Hid.out ?_))
  refine Lib.hid ?_
  clear ck0 ck1 ck2 ck3 ck4 ck5 ck6
  replace v2 := v2.dn d'
  replace v3 := v3.dn d'
  replace v5 := v5.dn d'
  replace v6 := v6.dn d'
  replace oa := Lib.hid (oa.out.dn d')
  replace HD := Lib.hid (HD.out.trans d')
  clear d'
  have ck0 := v5.mem la
  have ck1 := v2.mem hl
  go_wp2_with (first | (go_at_call 14; (with_reducible refine (CM.out _ (hm.dn HD.out) ma oa.out ea.out).mono ?_); rintro e w' ⟨rfl, d'⟩; refine Hid.out ?_))
  refine Lib.hid ?_
  clear ck0 ck1
  replace v2 := v2.dn d'
  replace v3 := v3.dn d'
  replace v5 := v5.dn d'
  replace v6 := v6.dn d'
  replace oa := Lib.hid (oa.out.dn d')
  replace HD := Lib.hid (HD.out.trans d')
  clear d'
  have ck0 := v3.iop
  go_wp2_with fail
  go_loopw [9] (fun k w => FrRel 16 w' k w) (fun k _ => 16 - (intOf k).toNat)
  case atStart => exact ⟨0, by decide, rfl, Dn.refl _⟩
  case round =>
    obtain ⟨j, hj, rfl, dn⟩ := hrel
    replace v2 := v2.dn dn
    replace v3 := v3.dn dn
    replace v5 := v5.dn dn
    replace v6 := v6.dn dn
    replace oa := Lib.hid (oa.out.dn dn)
    have HW := Lib.hid (HD.out.trans dn)
    have DJ := Lib.hid dn
    clear HD dn
    by_cases hlt : j < 16
    · have hlt2 : (j : Int) < 16 := by omega
      have hz := RA.out j hlt
      have HD := Lib.hid (Dn.refl wr)
      have lo0 : (0 : Int) ≤ (j : Int) := by omega
      go_wp2_with fail
      have ck0 := v5.word la j (by simp; omega)
      have ck1 := v2.word hl j (by simp; omega)
      rw [hz] at ck0
      generalize m.c.getD j 0 = z at ck0 ck1
      have ck2 := v3.iop
      have ck3 := v3.ird
      have ck4 := v3.iimm
      have lck0 := fun d os => cell_regrown ck0 d os
      have lck1 := fun d os => cell_regrown ck1 d os
      have lck2 := fun d os => cell_regrown ck2 d os
      have lck3 := fun d os => cell_regrown ck3 d os
      have lck4 := fun d os => cell_regrown ck4 d os
      refine wp_region_quiet_below (by kernel_rfl) (by kernel_rfl) ?_
      repeat (first | go_big_quiet_skip | (go_big_quiet_want; (go_big_quiet_op; go_big_quiet_on)))
      refine wpQuiet_nil ?_
      intro _ hw'
      obtain ⟨⟨dq, osq⟩, hw''⟩ := hw'
      subst hw''
      have d' := below_regrown wr dq osq
      clear lck0 lck1 lck2 lck3 lck4 ck0 ck1 ck2 ck3 ck4
      replace v2 := v2.dn d'
      replace v3 := v3.dn d'
      replace v5 := v5.dn d'
      replace v6 := v6.dn d'
      replace oa := Lib.hid (oa.out.dn d')
      replace HD := Lib.hid (HD.out.trans d')
      clear d'
      generalize grow (redrawn wr dq) osq = w' at v2 v3 v5 v6 oa HD ⊢
      go_wp2_with fail
      exact ⟨⟨j + 1, by omega, by go_num, DJ.out.trans HD.out⟩, by simp [intOf]; omega⟩
    · have hlt2 : ¬ (j : Int) < 16 := by omega
      have HD := HW
      have ck0 := v5.word la 16 rfl
      rw [na] at ck0
      have ck1 := v2.word hl 16 rfl
      rw [hpc] at ck1
      go_wp2_with fail
      go_ret
      exact ⟨rfl, HD.out⟩
set_option maxRecDepth 100000 in
set_option maxHeartbeats 2000000 in
theorem ef_17n (m : Mc) (rd ra rb imm : Int) (W : World) (hm : m.Ok W) (T : Is.Tabs W) (i0 : -2147483648 ≤ imm) (i1 : imm < 2147483648) (hx : m.xs.length ≤ 9223372036854775807) (hy : m.ys.length ≤ 9223372036854775807) (hf : decide (m.xs.length ≤ 600 ∧ m.ys.length ≤ 600) = true) (hpl : (Is.M.ok 17 rd ra rb imm && !Is.M.priv 17) = true) (c1 z1 : List Int) (p q : Int) (h1 : M.ex m.c m.xs 17 rd ra rb imm = ⟨c1, z1, 0, 0⟩) (hpc : m.c.getD 16 0 = p) (hq : c1.getD 16 0 = q) (hd : c1.drop 17 = m.c.drop 17) (hr : ∀ j : Nat, j < 16 → c1.getD j 0 = m.c.getD j 0) (hz1 : z1 = m.xs) (hq5 : (q == (p + 4) % 4294967296) = false) :
    Calls Tryd.prog 3 #[.agg (mach m), .agg (ins 17 rd ra rb imm)] W fun e W' => e = .returned (.bool true) ∧ Dn W W' := by
  have hl := hm.len
  have hc := hm.core
  have hs : m.xs.length ≤ 100000 := by simp only [decide_eq_true_eq] at hf; omega
  have hy2 : m.ys.length ≤ 100000 := by simp only [decide_eq_true_eq] at hf; omega
  have hvp : Is.M.ok 17 rd ra rb imm = true ∧ Is.M.priv 17 = false := by simpa using hpl
  have C0 := Lib.hid fun w => fun (t : Is.Tabs w) => awake w t
  have CF := Lib.hid fun w => fun (ow : m.Ok w) => rfew m true w ow hx hy hf
  have CP := Lib.hid (rPlain 17 rd ra rb imm true i0 i1 hpl)
  have C1 := Lib.hid fun w => fun (ow : m.Ok w) (t : Is.Tabs w) => (by exact xRun m 17 rd ra rb imm _ _ rfl rfl ⟨c1, z1, 0, 0⟩ h1 hs i0 i1 hvp.1 hvp.2 w ow t : Calls Tryd.prog 12 #[.agg (mach m), .agg (ins 17 rd ra rb imm)] w fun e W' => ∃ m1, e = .returned (.tuple #[.agg (mach m1), .agg #[.int .i64 0, .int .u32 0]]) ∧ Hid (m1.Ok W') ∧ Hid (Exd m ⟨c1, z1, 0, 0⟩ m1) ∧ Dn w W')
  have CS := Lib.hid fun (w : World) (ow : m.Ok w) (ma : Mc) (oa : ma.Ok w) (ea : Exd m ⟨c1, z1, 0, 0⟩ ma) => same_yes ma.B m.B ma.q m.q ma.ys.length m.ys.length ma.ys m.ys w oa.out ow.out rfl rfl ea.ys (by rw [ea.ys]; exact hy2)
  have CM := Lib.hid fun (w : World) (ow : m.Ok w) (ma : Mc) (oa : ma.Ok w) (ea : Exd m ⟨c1, z1, 0, 0⟩ ma) => same_yes ma.A m.A ma.k m.k ma.xs.length m.xs.length ma.xs m.xs w oa.mem ow.mem rfl rfl (ea.xs.trans hz1) (by rw [ea.xs, hz1]; exact hs)
  have q0 := eqTrap_self 0 0
  have p0 := (M.core_pc hc).1
  have p1 := (M.core_pc hc).2
  rw [show M.pc m.c = p from hpc] at p0 p1
  have HQ := Lib.hid hq
  have HD1 := Lib.hid hd
  have HR := Lib.hid hr
  have hwr : IntKind.u32.wrap (p + 4) = (p + 4) % 4294967296 := rfl
  clear hf hpl hvp h1 hq hd hr hz1
  have HD := Lib.hid (Dn.refl W)
  go_enter Tryd.func3, Tryd.ntmps3
  go_wp2_with (first | ((with_reducible refine wpList_box (vs := (mach m)) ?_ ?_ ?_); rfl; rfl; intro b_v2 w' nn; refine Hid.out ?_))
  refine Lib.hid ?_
  have HL_v2 : Hid (W.heap.size ≤ b_v2) := Lib.hid (Blk.hi nn HD.out.size)
  have d' := nn.dn
  replace HD := Lib.hid (HD.out.trans d')
  have v2 := nn.blk
  clear d' nn
  go_wp2_with (first | ((with_reducible refine wpList_box (vs := (ins 17 rd ra rb imm)) ?_ ?_ ?_); rfl; rfl; intro b_v3 w' nn; refine Hid.out ?_))
  refine Lib.hid ?_
  have n_v2_v3 := Lib.hid (nn.ne _ v2.lt)
  have HL_v3 : Hid (W.heap.size ≤ b_v3) := Lib.hid (Blk.hi nn HD.out.size)
  have d' := nn.dn
  replace v2 := v2.dn d'
  replace HD := Lib.hid (HD.out.trans d')
  have v3 := nn.blk
  clear d' nn
  go_wp2_with (first | (go_at_call 9; (with_reducible refine (C0.out _ (T.dn HD.out)).mono ?_); rintro e w' ⟨rfl, d'⟩; refine Hid.out ?_))
  refine Lib.hid ?_
  replace v2 := v2.dn d'
  replace v3 := v3.dn d'
  replace HD := Lib.hid (HD.out.trans d')
  clear d'
  go_wp2_with (first | ((with_reducible refine load33 v2 hl ?_ ?_ ?_); rfl; rfl) | (go_at_call 10; (with_reducible refine (CF.out _ (hm.dn HD.out)).mono ?_); rintro e w' ⟨rfl, d'⟩; refine Hid.out ?_))
  refine Lib.hid ?_
  replace v2 := v2.dn d'
  replace v3 := v3.dn d'
  replace HD := Lib.hid (HD.out.trans d')
  clear d'
  go_wp2_with (first | ((with_reducible refine loadI v3 ?_ ?_ ?_); rfl; rfl) | (go_at_call 11; (with_reducible refine (CP.out _).mono ?_); rintro e w' ⟨rfl, d'⟩; refine Hid.out ?_))
  refine Lib.hid ?_
  replace v2 := v2.dn d'
  replace v3 := v3.dn d'
  replace HD := Lib.hid (HD.out.trans d')
  clear d'
  go_wp2_with (first | ((with_reducible refine load33 v2 hl ?_ ?_ ?_); rfl; rfl) | ((with_reducible refine loadI v3 ?_ ?_ ?_); rfl; rfl) | (go_at_call 12; (with_reducible refine (C1.out _ (hm.dn HD.out) (T.dn HD.out)).mono ?_); rintro e w' ⟨ma, rfl, oa', ea, d'⟩; refine Hid.out ?_))
  refine Lib.hid ?_
  replace v2 := v2.dn d'
  replace v3 := v3.dn d'
  replace HD := Lib.hid (HD.out.trans d')
  clear d'
  have la := oa'.out.len
  have nt : ma.t = m.t := ea.out.t
  have nh : ma.h = m.h := ea.out.h
  have na : ma.c.getD 16 0 = q := by rw [ea.out.c]; exact HQ.out
  have q12 : ∀ w, (Op.equalIn 10000 24 (.agg (ints .u32 (ma.c.drop 17))) (.agg (ints .u32 (m.c.drop 17)))).run Tryd.prog w = .ok true w := fun w => by rw [show ma.c.drop 17 = m.c.drop 17 by rw [ea.out.c]; exact HD1.out, eq12 (drop17 hl) (drop17 hl), beq_self_eq_true]
  have RA := Lib.hid (fun j hj => by rw [ea.out.c]; exact HR.out j hj : ∀ j : Nat, j < 16 → ma.c.getD j 0 = m.c.getD j 0)
  have oa := Lib.hid oa'.out
  go_wp2_with (first | ((with_reducible refine wpList_alloc zeroMach ?_ ?_); rfl; intro b_v5 w' nn; refine Hid.out ?_))
  refine Lib.hid ?_
  have n_v2_v5 := Lib.hid (nn.ne _ v2.lt)
  have n_v3_v5 := Lib.hid (nn.ne _ v3.lt)
  have HL_v5 : Hid (W.heap.size ≤ b_v5) := Lib.hid (Blk.hi nn HD.out.size)
  have d' := nn.dn
  replace v2 := v2.dn d'
  replace v3 := v3.dn d'
  replace oa := Lib.hid (oa.out.dn d')
  replace HD := Lib.hid (HD.out.trans d')
  have v5 := nn.blk
  clear d' nn
  go_wp2_with (first | ((with_reducible refine wpList_alloc zeroTrap ?_ ?_); rfl; intro b_v6 w' nn; refine Hid.out ?_))
  refine Lib.hid ?_
  have n_v2_v6 := Lib.hid (nn.ne _ v2.lt)
  have n_v3_v6 := Lib.hid (nn.ne _ v3.lt)
  have n_v5_v6 := Lib.hid (nn.ne _ v5.lt)
  have HL_v6 : Hid (W.heap.size ≤ b_v6) := Lib.hid (Blk.hi nn HD.out.size)
  have d' := nn.dn
  replace v2 := v2.dn d'
  replace v3 := v3.dn d'
  replace v5 := v5.dn d'
  replace oa := Lib.hid (oa.out.dn d')
  replace HD := Lib.hid (HD.out.trans d')
  have v6 := nn.blk
  clear d' nn
  go_wp2_with (first | ((with_reducible refine store33 ma la v5 zlen ?_ ?_ ?_ ?_); rfl; rfl; rfl; intro w' r' t'; refine Hid.out ?_))
  refine Lib.hid ?_
  replace oa := Lib.hid (oa.out.trn v5 (NoU8.mach _) t')
  replace v2 := v2.trn t' n_v2_v5.out
  replace v3 := v3.trn t' n_v3_v5.out
  replace v6 := v6.trn t' n_v5_v6.out.symm
  replace HD := Lib.hid (HD.out.trn HL_v5.out t')
  clear t' v5
  have v5 := r'
  clear r'
  go_wp2_with (first | ((with_reducible refine storeTrap (k := 0) (v := 0) v6 ?_ ?_ ?_ ?_); rfl; rfl; rfl; intro w' r' t'; refine Hid.out ?_))
  refine Lib.hid ?_
  replace oa := Lib.hid (oa.out.trn v6 (NoU8.trap _ _) t')
  replace v2 := v2.trn t' n_v2_v6.out
  replace v3 := v3.trn t' n_v3_v6.out
  replace v5 := v5.trn t' n_v5_v6.out
  replace HD := Lib.hid (HD.out.trn HL_v6.out t')
  clear t' v6
  have v6 := r'
  clear r'
  have ck0 := v3.iop
  have ck1 := v5.time la
  rw [nt] at ck1
  have ck2 := v2.time hl
  have ck3 := v5.halted la
  rw [nh] at ck3
  have ck4 := v2.halted hl
  have ck5 := v5.out la
  have ck6 := v2.out hl
  go_wp2_with (first | ((with_reducible refine loadTrap v6 ?_ ?_ ?_); rfl; rfl) | ((with_reducible refine loadCsr v5 la ?_ ?_ ?_); rfl; rfl) | ((with_reducible refine loadCsr v2 hl ?_ ?_ ?_); rfl; rfl) | (go_at_call 14; (with_reducible refine (CS.out _ (hm.dn HD.out) ma oa.out ea.out).mono ?_); rintro e w' ⟨rfl, d'⟩; refine Hid.out ?_))
  refine Lib.hid ?_
  clear ck0 ck1 ck2 ck3 ck4 ck5 ck6
  replace v2 := v2.dn d'
  replace v3 := v3.dn d'
  replace v5 := v5.dn d'
  replace v6 := v6.dn d'
  replace oa := Lib.hid (oa.out.dn d')
  replace HD := Lib.hid (HD.out.trans d')
  clear d'
  have ck0 := v5.mem la
  have ck1 := v2.mem hl
  go_wp2_with (first | (go_at_call 14; (with_reducible refine (CM.out _ (hm.dn HD.out) ma oa.out ea.out).mono ?_); rintro e w' ⟨rfl, d'⟩; refine Hid.out ?_))
  refine Lib.hid ?_
  clear ck0 ck1
  replace v2 := v2.dn d'
  replace v3 := v3.dn d'
  replace v5 := v5.dn d'
  replace v6 := v6.dn d'
  replace oa := Lib.hid (oa.out.dn d')
  replace HD := Lib.hid (HD.out.trans d')
  clear d'
  have ck0 := v3.iop
  go_wp2_with fail
  go_loopw [9] (fun k w => FrRel 16 w' k w) (fun k _ => 16 - (intOf k).toNat)
  case atStart => exact ⟨0, by decide, rfl, Dn.refl _⟩
  case round =>
    obtain ⟨j, hj, rfl, dn⟩ := hrel
    replace v2 := v2.dn dn
    replace v3 := v3.dn dn
    replace v5 := v5.dn dn
    replace v6 := v6.dn dn
    replace oa := Lib.hid (oa.out.dn dn)
    have HW := Lib.hid (HD.out.trans dn)
    have DJ := Lib.hid dn
    clear HD dn
    by_cases hlt : j < 16
    · have hlt2 : (j : Int) < 16 := by omega
      have hz := RA.out j hlt
      have HD := Lib.hid (Dn.refl wr)
      have lo0 : (0 : Int) ≤ (j : Int) := by omega
      go_wp2_with fail
      have ck0 := v5.word la j (by simp; omega)
      have ck1 := v2.word hl j (by simp; omega)
      rw [hz] at ck0
      generalize m.c.getD j 0 = z at ck0 ck1
      have ck2 := v3.iop
      have ck3 := v3.ird
      have ck4 := v3.iimm
      have lck0 := fun d os => cell_regrown ck0 d os
      have lck1 := fun d os => cell_regrown ck1 d os
      have lck2 := fun d os => cell_regrown ck2 d os
      have lck3 := fun d os => cell_regrown ck3 d os
      have lck4 := fun d os => cell_regrown ck4 d os
      refine wp_region_quiet_below (by kernel_rfl) (by kernel_rfl) ?_
      repeat (first | go_big_quiet_skip | (go_big_quiet_want; (go_big_quiet_op; go_big_quiet_on)))
      refine wpQuiet_nil ?_
      intro _ hw'
      obtain ⟨⟨dq, osq⟩, hw''⟩ := hw'
      subst hw''
      have d' := below_regrown wr dq osq
      clear lck0 lck1 lck2 lck3 lck4 ck0 ck1 ck2 ck3 ck4
      replace v2 := v2.dn d'
      replace v3 := v3.dn d'
      replace v5 := v5.dn d'
      replace v6 := v6.dn d'
      replace oa := Lib.hid (oa.out.dn d')
      replace HD := Lib.hid (HD.out.trans d')
      clear d'
      generalize grow (redrawn wr dq) osq = w' at v2 v3 v5 v6 oa HD ⊢
      go_wp2_with fail
      exact ⟨⟨j + 1, by omega, by go_num, DJ.out.trans HD.out⟩, by simp [intOf]; omega⟩
    · have hlt2 : ¬ (j : Int) < 16 := by omega
      have HD := HW
      have ck0 := v5.word la 16 rfl
      rw [na] at ck0
      have ck1 := v2.word hl 16 rfl
      rw [hpc] at ck1
      go_wp2_with fail
      go_ret
      exact ⟨rfl, HD.out⟩
end Go.Proofs.YthkhahfhbhgfhaaDoor
namespace Go.Proofs.YthkhahfhbhgfhaaDoor
open Go.ChangeShapes Go.WideShapes Go.ChangeAt Go.RowKit Go.Sort
set_option linter.unusedVariables false

theorem M.drop_set16 (c : List Int) (i : Nat) (x : Int) (hi : i < 17) : (c.set i x).drop 17 = c.drop 17 := by
  rw [List.drop_set, if_pos hi]
theorem M.drop_adv (c : List Int) (d : Int) : (M.adv c d).drop 17 = c.drop 17 := M.drop_set16 _ _ _ (by decide)
theorem M.drop_setreg (c : List Int) (r v : Int) : (M.setreg c r v).drop 17 = c.drop 17 := by
  unfold M.setreg
  split
  · rename_i h
    have := (M.stored_iff r).1 h
    exact M.drop_set16 _ _ _ (by omega)
  · rfl
theorem M.setreg_else (c : List Int) (r v : Int) (j : Nat) (h : (j : Int) ≠ r ∨ j = 0) : (M.setreg c r v).getD j 0 = c.getD j 0 := by
  unfold M.setreg
  split
  · rename_i hs
    have := (M.stored_iff r).1 hs
    rw [M.getD_set, if_neg (by omega)]
  · rfl
theorem M.setreg_16 (c : List Int) (r v : Int) : (M.setreg c r v).getD 16 0 = c.getD 16 0 := by
  unfold M.setreg
  split
  · rename_i h
    have := (M.stored_iff r).1 h
    rw [M.getD_set, if_neg (by omega)]
  · rfl
theorem M.adv_16 {c : List Int} (h : c.length = 29) (d : Int) : (M.adv c d).getD 16 0 = (c.getD 16 0 + d) % 4294967296 := M.pc_adv h d
set_option maxRecDepth 100000 in
set_option maxHeartbeats 2000000 in
theorem ef_few (m : Mc) (op rd ra rb imm : Int) (W : World) (hm : m.Ok W) (T : Is.Tabs W) (i0 : -2147483648 ≤ imm) (i1 : imm < 2147483648) (hx : m.xs.length ≤ 9223372036854775807) (hy : m.ys.length ≤ 9223372036854775807) (hf : decide (m.xs.length ≤ 600 ∧ m.ys.length ≤ 600) = false) :
    Calls Tryd.prog 3 #[.agg (mach m), .agg (ins op rd ra rb imm)] W fun e W' => e = .returned (.bool true) ∧ Dn W W' := by
  have C0 := Lib.hid fun w => fun (t : Is.Tabs w) => awake w t
  have CF := Lib.hid fun w => fun (ow : m.Ok w) => rfew m false w ow hx hy hf
  clear hf
  have HD := Lib.hid (Dn.refl W)
  go_enter Tryd.func3, Tryd.ntmps3
  go_wp2_with (first | ((with_reducible refine wpList_box (vs := (mach m)) ?_ ?_ ?_); rfl; rfl; intro b_v2 w' nn; refine Hid.out ?_))
  refine Lib.hid ?_
  have HL_v2 : Hid (W.heap.size ≤ b_v2) := Lib.hid (Blk.hi nn HD.out.size)
  have d' := nn.dn
  replace HD := Lib.hid (HD.out.trans d')
  have v2 := nn.blk
  clear d' nn
  go_wp2_with (first | ((with_reducible refine wpList_box (vs := (ins op rd ra rb imm)) ?_ ?_ ?_); rfl; rfl; intro b_v3 w' nn; refine Hid.out ?_))
  refine Lib.hid ?_
  have n_v2_v3 := Lib.hid (nn.ne _ v2.lt)
  have HL_v3 : Hid (W.heap.size ≤ b_v3) := Lib.hid (Blk.hi nn HD.out.size)
  have d' := nn.dn
  replace v2 := v2.dn d'
  replace HD := Lib.hid (HD.out.trans d')
  have v3 := nn.blk
  clear d' nn
  go_wp2_with (first | (go_at_call 9; (with_reducible refine (C0.out _ (T.dn HD.out)).mono ?_); rintro e w' ⟨rfl, d'⟩; refine Hid.out ?_))
  refine Lib.hid ?_
  replace v2 := v2.dn d'
  replace v3 := v3.dn d'
  replace HD := Lib.hid (HD.out.trans d')
  clear d'
  go_wp2_with (first | ((with_reducible refine load33 v2 hm.len ?_ ?_ ?_); rfl; rfl) | (go_at_call 10; (with_reducible refine (CF.out _ (hm.dn HD.out)).mono ?_); rintro e w' ⟨rfl, d'⟩; refine Hid.out ?_))
  refine Lib.hid ?_
  replace v2 := v2.dn d'
  replace v3 := v3.dn d'
  replace HD := Lib.hid (HD.out.trans d')
  clear d'
  go_wp2_with (first | (go_at_call 9; (with_reducible refine (C0.out _ (T.dn HD.out)).mono ?_); rintro e w' ⟨rfl, d'⟩; refine Hid.out ?_))
  refine Lib.hid ?_
  replace v2 := v2.dn d'
  replace v3 := v3.dn d'
  replace HD := Lib.hid (HD.out.trans d')
  clear d'
  go_wp2_with fail
  go_ret
  exact ⟨rfl, HD.out⟩
set_option maxRecDepth 100000 in
set_option maxHeartbeats 2000000 in
theorem ef_plain (m : Mc) (op rd ra rb imm : Int) (W : World) (hm : m.Ok W) (T : Is.Tabs W) (i0 : -2147483648 ≤ imm) (i1 : imm < 2147483648) (hx : m.xs.length ≤ 9223372036854775807) (hy : m.ys.length ≤ 9223372036854775807) (hf : decide (m.xs.length ≤ 600 ∧ m.ys.length ≤ 600) = true) (hpl : (Is.M.ok op rd ra rb imm && !Is.M.priv op) = false) :
    Calls Tryd.prog 3 #[.agg (mach m), .agg (ins op rd ra rb imm)] W fun e W' => e = .returned (.bool true) ∧ Dn W W' := by
  have C0 := Lib.hid fun w => fun (t : Is.Tabs w) => awake w t
  have CF := Lib.hid fun w => fun (ow : m.Ok w) => rfew m true w ow hx hy hf
  have CP := Lib.hid (rPlain op rd ra rb imm false i0 i1 hpl)
  clear hf hpl
  have HD := Lib.hid (Dn.refl W)
  go_enter Tryd.func3, Tryd.ntmps3
  go_wp2_with (first | ((with_reducible refine wpList_box (vs := (mach m)) ?_ ?_ ?_); rfl; rfl; intro b_v2 w' nn; refine Hid.out ?_))
  refine Lib.hid ?_
  have HL_v2 : Hid (W.heap.size ≤ b_v2) := Lib.hid (Blk.hi nn HD.out.size)
  have d' := nn.dn
  replace HD := Lib.hid (HD.out.trans d')
  have v2 := nn.blk
  clear d' nn
  go_wp2_with (first | ((with_reducible refine wpList_box (vs := (ins op rd ra rb imm)) ?_ ?_ ?_); rfl; rfl; intro b_v3 w' nn; refine Hid.out ?_))
  refine Lib.hid ?_
  have n_v2_v3 := Lib.hid (nn.ne _ v2.lt)
  have HL_v3 : Hid (W.heap.size ≤ b_v3) := Lib.hid (Blk.hi nn HD.out.size)
  have d' := nn.dn
  replace v2 := v2.dn d'
  replace HD := Lib.hid (HD.out.trans d')
  have v3 := nn.blk
  clear d' nn
  go_wp2_with (first | (go_at_call 9; (with_reducible refine (C0.out _ (T.dn HD.out)).mono ?_); rintro e w' ⟨rfl, d'⟩; refine Hid.out ?_))
  refine Lib.hid ?_
  replace v2 := v2.dn d'
  replace v3 := v3.dn d'
  replace HD := Lib.hid (HD.out.trans d')
  clear d'
  go_wp2_with (first | ((with_reducible refine load33 v2 hm.len ?_ ?_ ?_); rfl; rfl) | (go_at_call 10; (with_reducible refine (CF.out _ (hm.dn HD.out)).mono ?_); rintro e w' ⟨rfl, d'⟩; refine Hid.out ?_))
  refine Lib.hid ?_
  replace v2 := v2.dn d'
  replace v3 := v3.dn d'
  replace HD := Lib.hid (HD.out.trans d')
  clear d'
  go_wp2_with (first | ((with_reducible refine loadI v3 ?_ ?_ ?_); rfl; rfl) | (go_at_call 11; (with_reducible refine (CP.out _).mono ?_); rintro e w' ⟨rfl, d'⟩; refine Hid.out ?_))
  refine Lib.hid ?_
  replace v2 := v2.dn d'
  replace v3 := v3.dn d'
  replace HD := Lib.hid (HD.out.trans d')
  clear d'
  go_wp2_with (first | (go_at_call 9; (with_reducible refine (C0.out _ (T.dn HD.out)).mono ?_); rintro e w' ⟨rfl, d'⟩; refine Hid.out ?_))
  refine Lib.hid ?_
  replace v2 := v2.dn d'
  replace v3 := v3.dn d'
  replace HD := Lib.hid (HD.out.trans d')
  clear d'
  go_wp2_with fail
  go_ret
  exact ⟨rfl, HD.out⟩
theorem efO (m : Mc) (op rd ra rb imm : Int) (W : World) (hm : m.Ok W) (T : Is.Tabs W) (i0 : -2147483648 ≤ imm) (i1 : imm < 2147483648) (hx : m.xs.length ≤ 9223372036854775807) (hy : m.ys.length ≤ 9223372036854775807) (hf : decide (m.xs.length ≤ 600 ∧ m.ys.length ≤ 600) = true) (hpl : (Is.M.ok op rd ra rb imm && !Is.M.priv op) = true) (v : Int) (h1 : M.ex m.c m.xs op rd ra rb imm = ⟨M.adv (M.setreg m.c rd v) 4, m.xs, 0, 0⟩)
    (n12 : op ≠ 12) (n14 : op ≠ 14) (n15 : op ≠ 15) (n16 : op ≠ 16) (n17 : op ≠ 17) (n20 : op ≠ 20) : Calls Tryd.prog 3 #[.agg (mach m), .agg (ins op rd ra rb imm)] W fun e W' => e = .returned (.bool true) ∧ Dn W W' :=
  have ls : (M.setreg m.c rd v).length = 29 := (M.setreg_len _ _ _).trans hm.len
  ef_o m op rd ra rb imm W hm T i0 i1 hx hy hf hpl _ _ _ _ h1 rfl rfl ((M.drop_adv _ _).trans (M.drop_setreg _ _ _)) (fun j hj h => (M.adv_reg _ _ (by omega)).trans (M.setreg_else _ _ _ j h)) rfl
    (beq_eq_false_iff_ne.2 n12) (beq_eq_false_iff_ne.2 n14) (beq_eq_false_iff_ne.2 n15) (beq_eq_false_iff_ne.2 n16) (beq_eq_false_iff_ne.2 n17) (beq_eq_false_iff_ne.2 n20) (by rw [M.adv_16 ls, M.setreg_16, beq_iff_eq])
theorem efT (m : Mc) (op rd ra rb imm : Int) (W : World) (hm : m.Ok W) (T : Is.Tabs W) (i0 : -2147483648 ≤ imm) (i1 : imm < 2147483648) (hx : m.xs.length ≤ 9223372036854775807) (hy : m.ys.length ≤ 9223372036854775807) (hf : decide (m.xs.length ≤ 600 ∧ m.ys.length ≤ 600) = true) (hpl : (Is.M.ok op rd ra rb imm && !Is.M.priv op) = true) (k v : Int) (h1 : M.ex m.c m.xs op rd ra rb imm = ⟨m.c, m.xs, k, v⟩) (hk : k ≠ 0) (hk5 : k = 0 ∨ k = 3 ∨ k = 4) (o1 : 11 ≤ op) (o2 : op ≤ 14) : Calls Tryd.prog 3 #[.agg (mach m), .agg (ins op rd ra rb imm)] W fun e W' => e = .returned (.bool true) ∧ Dn W W' :=
  ef_t m op rd ra rb imm W hm T i0 i1 hx hy hf hpl (beq_eq_false_iff_ne.2 (by omega)) k v h1 (beq_eq_false_iff_ne.2 (by omega)) (decide_eq_true o1) (decide_eq_true o2) hk
theorem efWalk (m : Mc) (op rd ra rb imm : Int) (W : World) (hm : m.Ok W) (T : Is.Tabs W) (i0 : -2147483648 ≤ imm) (i1 : imm < 2147483648) (hx : m.xs.length ≤ 9223372036854775807) (hy : m.ys.length ≤ 9223372036854775807) : Calls Tryd.prog 3 #[.agg (mach m), .agg (ins op rd ra rb imm)] W fun e W' => e = .returned (.bool true) ∧ Dn W W' := by
  cases hf : decide (m.xs.length ≤ 600 ∧ m.ys.length ≤ 600)
  · exact ef_few m op rd ra rb imm W hm T i0 i1 hx hy hf
  cases hpl : (Is.M.ok op rd ra rb imm && !Is.M.priv op)
  · exact ef_plain m op rd ra rb imm W hm T i0 i1 hx hy hf hpl
  have hl := hm.len
  have hc := hm.core
  have hvp : Is.M.ok op rd ra rb imm = true ∧ Is.M.priv op = false := by simpa using hpl
  obtain ⟨o1, o2⟩ := Is.M.plain_op hvp.1 hvp.2
  clear hvp
  have hall : op = 1 ∨ op = 2 ∨ op = 3 ∨ op = 4 ∨ op = 5 ∨ op = 6 ∨ op = 7 ∨ op = 8 ∨ op = 9 ∨ op = 10 ∨ op = 11 ∨ op = 12 ∨ op = 13 ∨ op = 14 ∨ op = 15 ∨ op = 16 ∨ op = 17 ∨ op = 18 ∨ op = 19 ∨ op = 20 := by omega
  clear o1 o2
  have ra16 : ∀ d : Int, (M.adv m.c d).drop 17 = m.c.drop 17 ∧ ∀ j : Nat, j < 16 → (M.adv m.c d).getD j 0 = m.c.getD j 0 := fun d => ⟨M.drop_adv _ _, fun j hj => M.adv_reg _ _ (by omega)⟩
  have q4 : ((M.adv m.c 4).getD 16 0 == (m.c.getD 16 0 + 4) % 4294967296) = true := by rw [M.adv_16 hl, beq_iff_eq]
  rcases hall with rfl | rfl | rfl | rfl | rfl | rfl | rfl | rfl | rfl | rfl | rfl | rfl | rfl | rfl | rfl | rfl | rfl | rfl | rfl | rfl
  · exact efO m 1 rd ra rb imm W hm T i0 i1 hx hy hf hpl _ (M.ex_alu _ _ _ _ _ _ _ (by decide)) (by decide) (by decide) (by decide) (by decide) (by decide) (by decide)
  · exact efO m 2 rd ra rb imm W hm T i0 i1 hx hy hf hpl _ (M.ex_alu _ _ _ _ _ _ _ (by decide)) (by decide) (by decide) (by decide) (by decide) (by decide) (by decide)
  · exact efO m 3 rd ra rb imm W hm T i0 i1 hx hy hf hpl _ (M.ex_alu _ _ _ _ _ _ _ (by decide)) (by decide) (by decide) (by decide) (by decide) (by decide) (by decide)
  · exact efO m 4 rd ra rb imm W hm T i0 i1 hx hy hf hpl _ (M.ex_alu _ _ _ _ _ _ _ (by decide)) (by decide) (by decide) (by decide) (by decide) (by decide) (by decide)
  · exact efO m 5 rd ra rb imm W hm T i0 i1 hx hy hf hpl _ (M.ex_alu _ _ _ _ _ _ _ (by decide)) (by decide) (by decide) (by decide) (by decide) (by decide) (by decide)
  · exact efO m 6 rd ra rb imm W hm T i0 i1 hx hy hf hpl _ (M.ex_alu _ _ _ _ _ _ _ (by decide)) (by decide) (by decide) (by decide) (by decide) (by decide) (by decide)
  · exact efO m 7 rd ra rb imm W hm T i0 i1 hx hy hf hpl _ (M.ex_alu _ _ _ _ _ _ _ (by decide)) (by decide) (by decide) (by decide) (by decide) (by decide) (by decide)
  · exact efO m 8 rd ra rb imm W hm T i0 i1 hx hy hf hpl _ (M.ex_alu _ _ _ _ _ _ _ (by decide)) (by decide) (by decide) (by decide) (by decide) (by decide) (by decide)
  · exact efO m 9 rd ra rb imm W hm T i0 i1 hx hy hf hpl _ (M.ex_addi _ _ _ _ _ _) (by decide) (by decide) (by decide) (by decide) (by decide) (by decide)
  · exact efO m 10 rd ra rb imm W hm T i0 i1 hx hy hf hpl _ (M.ex_lui _ _ _ _ _ _) (by decide) (by decide) (by decide) (by decide) (by decide) (by decide)
  · by_cases hk : M.acz m.c m.xs.length (M.ea m.c ra imm) 4 = 0
    · exact efO m 11 rd ra rb imm W hm T i0 i1 hx hy hf hpl _ ((M.ex_lw _ _ _ _ _ _).trans (M.exL_ok _ _ _ hk)) (by decide) (by decide) (by decide) (by decide) (by decide) (by decide)
    · exact efT m 11 rd ra rb imm W hm T i0 i1 hx hy hf hpl _ _ ((M.ex_lw _ _ _ _ _ _).trans (M.exL_no _ _ _ hk)) hk (M.acz_three _ _ _ _) (by decide) (by decide)
  · by_cases hk : M.acz m.c m.xs.length (M.ea m.c ra imm) 4 = 0
    · exact ef_12 m rd ra rb imm W hm T i0 i1 hx hy hf hpl _ _ _ _ ((M.ex_sw _ _ _ _ _ _).trans (M.exS_ok _ _ _ hk)) rfl rfl (ra16 4).1 (ra16 4).2 q4
    · exact efT m 12 rd ra rb imm W hm T i0 i1 hx hy hf hpl _ _ ((M.ex_sw _ _ _ _ _ _).trans (M.exS_no _ _ _ hk)) hk (M.acz_three _ _ _ _) (by decide) (by decide)
  · by_cases hk : M.acz m.c m.xs.length (M.ea m.c ra imm) 1 = 0
    · exact efO m 13 rd ra rb imm W hm T i0 i1 hx hy hf hpl _ ((M.ex_lb _ _ _ _ _ _).trans (M.exL_ok _ _ _ hk)) (by decide) (by decide) (by decide) (by decide) (by decide) (by decide)
    · exact efT m 13 rd ra rb imm W hm T i0 i1 hx hy hf hpl _ _ ((M.ex_lb _ _ _ _ _ _).trans (M.exL_no _ _ _ hk)) hk (M.acz_three _ _ _ _) (by decide) (by decide)
  · by_cases hk : M.acz m.c m.xs.length (M.ea m.c ra imm) 1 = 0
    · exact ef_14 m rd ra rb imm W hm T i0 i1 hx hy hf hpl _ _ _ _ ((M.ex_sb _ _ _ _ _ _).trans (M.exS_ok _ _ _ hk)) rfl rfl (ra16 4).1 (ra16 4).2 q4
    · exact efT m 14 rd ra rb imm W hm T i0 i1 hx hy hf hpl _ _ ((M.ex_sb _ _ _ _ _ _).trans (M.exS_no _ _ _ hk)) hk (M.acz_three _ _ _ _) (by decide) (by decide)
  · have h1 := M.ex_br m.c m.xs 15 rd ra rb imm (by decide)
    cases hk : M.tk 15 (M.reg m.c rd) (M.reg m.c ra)
    · rw [hk, if_neg (by decide)] at h1
      exact ef_15e m rd ra rb imm W hm T i0 i1 hx hy hf hpl _ _ _ _ h1 rfl rfl (ra16 4).1 (ra16 4).2 rfl q4
    · rw [hk, if_pos rfl] at h1
      cases hq : ((M.adv m.c (M.far imm)).getD 16 0 == (m.c.getD 16 0 + 4) % 4294967296)
      · exact ef_15n m rd ra rb imm W hm T i0 i1 hx hy hf hpl _ _ _ _ h1 rfl rfl (ra16 _).1 (ra16 _).2 rfl hq
      · exact ef_15e m rd ra rb imm W hm T i0 i1 hx hy hf hpl _ _ _ _ h1 rfl rfl (ra16 _).1 (ra16 _).2 rfl hq
  · have h1 := M.ex_br m.c m.xs 16 rd ra rb imm (by decide)
    cases hk : M.tk 16 (M.reg m.c rd) (M.reg m.c ra)
    · rw [hk, if_neg (by decide)] at h1
      exact ef_16e m rd ra rb imm W hm T i0 i1 hx hy hf hpl _ _ _ _ h1 rfl rfl (ra16 4).1 (ra16 4).2 rfl q4
    · rw [hk, if_pos rfl] at h1
      cases hq : ((M.adv m.c (M.far imm)).getD 16 0 == (m.c.getD 16 0 + 4) % 4294967296)
      · exact ef_16n m rd ra rb imm W hm T i0 i1 hx hy hf hpl _ _ _ _ h1 rfl rfl (ra16 _).1 (ra16 _).2 rfl hq
      · exact ef_16e m rd ra rb imm W hm T i0 i1 hx hy hf hpl _ _ _ _ h1 rfl rfl (ra16 _).1 (ra16 _).2 rfl hq
  · have h1 := M.ex_br m.c m.xs 17 rd ra rb imm (by decide)
    cases hk : M.tk 17 (M.reg m.c rd) (M.reg m.c ra)
    · rw [hk, if_neg (by decide)] at h1
      exact ef_17e m rd ra rb imm W hm T i0 i1 hx hy hf hpl _ _ _ _ h1 rfl rfl (ra16 4).1 (ra16 4).2 rfl q4
    · rw [hk, if_pos rfl] at h1
      cases hq : ((M.adv m.c (M.far imm)).getD 16 0 == (m.c.getD 16 0 + 4) % 4294967296)
      · exact ef_17n m rd ra rb imm W hm T i0 i1 hx hy hf hpl _ _ _ _ h1 rfl rfl (ra16 _).1 (ra16 _).2 rfl hq
      · exact ef_17e m rd ra rb imm W hm T i0 i1 hx hy hf hpl _ _ _ _ h1 rfl rfl (ra16 _).1 (ra16 _).2 rfl hq
  · have h1 := M.ex_jal m.c m.xs rd ra rb imm
    cases hq : ((M.adv (M.setreg m.c rd (M.nxt m.c)) (M.far imm)).getD 16 0 == (m.c.getD 16 0 + 4) % 4294967296)
    · exact ef_18 m rd ra rb imm W hm T i0 i1 hx hy hf hpl _ _ _ _ h1 rfl rfl ((M.drop_adv _ _).trans (M.drop_setreg _ _ _)) (fun j hj h => (M.adv_reg _ _ (by omega)).trans (M.setreg_else _ _ _ j h)) rfl hq
    · exact ef_o m 18 rd ra rb imm W hm T i0 i1 hx hy hf hpl _ _ _ _ h1 rfl rfl ((M.drop_adv _ _).trans (M.drop_setreg _ _ _)) (fun j hj h => (M.adv_reg _ _ (by omega)).trans (M.setreg_else _ _ _ j h)) rfl rfl rfl rfl rfl rfl rfl hq
  · have h1 := M.ex_jalr m.c m.xs rd ra rb imm
    cases hq : (((M.setreg m.c rd (M.nxt m.c)).set 16 (M.ea m.c ra imm)).getD 16 0 == (m.c.getD 16 0 + 4) % 4294967296)
    · exact ef_19 m rd ra rb imm W hm T i0 i1 hx hy hf hpl _ _ _ _ h1 rfl rfl ((M.drop_set16 _ _ _ (by decide)).trans (M.drop_setreg _ _ _)) (fun j hj h => (by rw [M.getD_set, if_neg (by omega)]; exact M.setreg_else _ _ _ j h)) rfl hq
    · exact ef_o m 19 rd ra rb imm W hm T i0 i1 hx hy hf hpl _ _ _ _ h1 rfl rfl ((M.drop_set16 _ _ _ (by decide)).trans (M.drop_setreg _ _ _)) (fun j hj h => (by rw [M.getD_set, if_neg (by omega)]; exact M.setreg_else _ _ _ j h)) rfl rfl rfl rfl rfl rfl rfl hq
  · exact ef_t20 m rd ra rb imm W hm T i0 i1 hx hy hf hpl (M.ex_ecall _ _ _ _ _ _)
end Go.Proofs.YthkhahfhbhgfhaaDoor
namespace Go.Proofs.YthkhahfhbhgfhaaDoor.executeFrame
open Go.ChangeShapes Go.WideShapes Go.ChangeAt Go.RowKit
set_option linter.unusedVariables false

theorem readable : ∀ t ∈ Tryd.f3.params.toList, Tryd.prog.readableRec t = true ∧ t < Tryd.prog.types.size := by
  rw [Tryd.params3]
  intro t ht
  have hall : ([30, 32].all fun t => Tryd.prog.readableRec t && decide (t < Tryd.prog.types.size)) = true := by kernel_rfl
  have h := List.all_eq_true.1 hall t ht
  simp only [Bool.and_eq_true, decide_eq_true_eq] at h
  exact h

theorem said (H : Type) (ds : List (DataW H)) (hl : ds.length = Tryd.f3.params.size) : (Rows.executeFrameSpec.fn H ds).results = [.lit (.bool true)] ∧ (Rows.executeFrameSpec.fn H ds).args = ds ∧ (Rows.executeFrameSpec.fn H ds).vars = [] := by
  rw [Tryd.params3] at hl
  match ds, hl with
  | [d0, d1], _ => exact ⟨rfl, rfl, rfl⟩

set_option maxRecDepth 100000 in
theorem walk {H : Type} {enc : TypeId × Value → H} (W : World) (base : Nat) (args : Array Value) (ds : List (DataW H)) (ps : List MemPlace) (E : Env W)
    (hval : ∀ (j : Nat) t v, Tryd.f3.params[j]? = some t → args[j]? = some v → Value.okWide Tryd.prog W .any base t v)
    (hA : DataW.TrodAll enc Tryd.prog W 0 (fun _ => true) true Tryd.f3.params.toList args.toList ds ps) :
    Calls Tryd.prog 3 args W fun e W' => e = .returned (.bool true) ∧ Dn W W' := by
  rw [Tryd.params3] at hA hval
  obtain ⟨v0, vs0, d0, ds0, p0, q0, hargs, rfl, rfl, h0, r0⟩ := trodAll_cons hA
  obtain ⟨v1, vs1, d1, ds1, p1, q1, rfl, rfl, rfl, h1, r1⟩ := trodAll_cons r0
  obtain ⟨rfl, rfl, rfl⟩ := trodAll_nil r1
  obtain rfl : args = #[v0, v1] := by cases args; simp_all
  obtain ⟨m0, rfl, o0, l0, y0⟩ := open33 (hval 0 30 v0 rfl rfl) h0
  obtain ⟨op1, rd1, ra1, rb1, imm1, rfl, _, _, _, _, _, _, wi1⟩ := Is.open_instr (hval 1 32 v1 rfl rfl) h1
  have bd1 := bounds_i32 wi1
  exact efWalk m0 op1 rd1 ra1 rb1 imm1 W o0 E (by omega) (by omega) l0 y0 

set_option maxRecDepth 100000 in
theorem lifted (os : Os) (started : os.Started) (H : Type) (enc : TypeId × Value → H) :
    ReturnsInHanded {} Tryd.checked os 3 .any (fun w args => (Rows.executeFrameSpec.pre enc Tryd.prog Tryd.f3 [] false w args ∧ laidMetH Tryd.prog laidL w) ∧ sizedMet enc Tryd.prog Tryd.f3 (OpenSpec.ofChange Rows.executeFrameSpec) false w args)
      (Rows.executeFrameSpec.post enc Tryd.prog Tryd.f3 false true false false) :=
  returns_of_walk (C := Tryd.checked) rfl own started (by kernel_rfl) Tryd.func3 rfl readable (by kernel_rfl) said
    (ChangeSpec.witness_shaped (enc := enc) (C := Tryd.checked) (os := os) (X := fun w _ => laidMetH Tryd.prog laidL w) false (World.laidAll Tryd.prog os laidL) #[.agg #[.int .u32 0, .int .u32 0, .int .u32 0, .int .u32 0, .int .u32 0, .int .u32 0, .int .u32 0, .int .u32 0, .int .u32 0, .int .u32 0, .int .u32 0, .int .u32 0, .int .u32 0, .int .u32 0, .int .u32 0, .int .u32 0, .int .u32 0, .int .u32 0, .int .u32 0, .int .u32 0, .int .u32 0, .int .u32 0, .int .u32 0, .int .u32 0, .int .u32 0, .int .u32 0, .int .u32 0, .int .u32 0, .int .u32 0, .slice none 0 0, .int .u64 0, .slice none 0 0, .bool false], .agg #[.int .i64 0, .int .i64 0, .int .i64 0, .int .i64 0, .int .i32 0]] 8 (World.laidAll_os _ _ _)
      (start_shaped os _) (by kernel_rfl) (by kernel_rfl) (by kernel_rfl) (start_met os _)) walk

theorem over : Rows.ExecuteFrameSaid :=
  OpenClaim.holds_of_wide 3 Tryd.f3 rfl rfl rfl rfl rfl rfl rfl ⟨rfl, rfl, rfl, rfl, rfl⟩ rfl rfl rfl rfl rfl (by kernel_rfl) Tryd.func3 (by kernel_rfl)
    (of_decide_eq_true (by kernel_rfl)) (by unfold Func.isWrapper; first | (rw [if_pos (by decide +kernel)]; kernel_rfl) | (rw [if_neg (by decide +kernel)]; exact ⟨rfl, rfl⟩))
    (fun os started H enc _ => lifted os started H enc)

/-- THE STATEMENT -/
theorem proved : Rows.ExecuteFrameCardSaid :=
  Claim7.holds_tied_plain_at .later [] [.data, .data] true (true, "d78811fdd0f342fbb2ba603c83f6eebd8ca321176a55a836c8fad2cf606a22cc") false
    over (fun _ h => by cases h) (by kernel_rfl) (fun _ h => by cases h) executeFrame_row_tie rfl ⟨rfl, rfl⟩ (by kernel_rfl) rfl
    (fun f fn hf hfn => by
      obtain rfl : f = 3 := Option.some.inj ((show Tryd.prog.funcNamed "gaoler/gaolerlaw11.ExecuteFrame" = some 3 by kernel_rfl).symm.trans hf) |>.symm
      obtain rfl : fn = Tryd.f3 := (Option.some.inj (Tryd.func3.symm.trans hfn)).symm
      exact ⟨by kernel_rfl, fun j t ht => by
        rw [Tryd.params3] at ht
        have hm : t ∈ [30, 32] := by simpa using Array.mem_of_getElem? ht
        have hall : ([30, 32].all fun u => !Tryd.prog.wantsStandIn u) = true := by kernel_rfl
        exact (show Tryd.prog.wantsStandIn t = false by simpa using List.all_eq_true.1 hall t hm)⟩)
    (by kernel_rfl)
#print axioms proved
end Go.Proofs.YthkhahfhbhgfhaaDoor.executeFrame
