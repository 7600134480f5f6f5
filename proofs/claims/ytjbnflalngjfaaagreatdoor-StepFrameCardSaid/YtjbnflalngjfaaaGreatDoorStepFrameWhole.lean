/-
  The law StepFrame of the law package returns true at every input, and each argument reads as it did; conditions: the listed package variables hold what the program's text lays there (the card ties them to it).
-/
import Derived.Test.YtjbnflalngjfaaaGreatDoorCards
import Derived.Test.YtjbnflalngjfaaaGreatDoorTie
import Derived.Test.YtjbnflalngjfaaaGreatDoorPkW
import Derived.Test.YtjbnflalngjfaaaGreatDoorPkT
import Derived.Test.YtjbnflalngjfaaaGreatDoorPkB
import Derived.Test.YtjbnflalngjfaaaGreatDoorPkG
namespace Go.Proofs.YtjbnflalngjfaaaGreatDoor
open Go.ChangeShapes Go.WideShapes Go.ChangeAt Go.RowKit Go.Sort
set_option linter.unusedVariables false

theorem eq12s {c d : List Int} (hc : c.length = 12) (hd : d.length = 12) (w : World) : (Op.equalIn 10000 24 (.agg (ints .u32 c)) (.agg (ints .u32 d))).run Tryz.prog w = .ok (c == d) w :=
  equal_ints 9998 Tryz.underlying24 Tryz.underlying22 infoW c d hc hd w
set_option maxRecDepth 100000 in
set_option maxHeartbeats 2000000 in
theorem sfr_few (m : Mc) (W : World) (hm : m.Ok W) (T : Env2 W) (hx : m.xs.length ≤ 9223372036854775807) (hy : m.ys.length ≤ 9223372036854775807) (hf : decide (m.xs.length ≤ 600 ∧ m.ys.length ≤ 600) = false) :
    Calls Tryz.prog 4 #[.agg (mach m)] W fun e W' => e = .returned (.bool true) ∧ Dn W W' := by
  have C0 := Lib.hid fun w => fun (t : Env2 w) => awakeS w t
  have CF := Lib.hid fun w => fun (ow : m.Ok w) => rfew m false w ow hx hy hf
  clear hf
  have HD := Lib.hid (Dn.refl W)
  go_enter Tryz.func4, Tryz.ntmps4
  go_wp2_with (first | ((with_reducible refine wpList_box (vs := (mach m)) ?_ ?_ ?_); rfl; rfl; intro b_v1 w' nn; refine Hid.out ?_))
  refine Lib.hid ?_
  have HL_v1 : Hid (W.heap.size ≤ b_v1) := Lib.hid (Blk.hi nn HD.out.size)
  have d' := nn.dn
  replace HD := Lib.hid (HD.out.trans d')
  have v1 := nn.blk
  clear d' nn
  go_wp2_with (first | (go_at_call 9; (with_reducible refine (C0.out _ (T.dn HD.out)).mono ?_); rintro e w' ⟨rfl, d'⟩; refine Hid.out ?_))
  refine Lib.hid ?_
  replace v1 := v1.dn d'
  replace HD := Lib.hid (HD.out.trans d')
  clear d'
  go_wp2_with (first | ((with_reducible refine load33 v1 hm.len ?_ ?_ ?_); rfl; rfl) | (go_at_call 10; (with_reducible refine (CF.out _ (hm.dn HD.out)).mono ?_); rintro e w' ⟨rfl, d'⟩; refine Hid.out ?_))
  refine Lib.hid ?_
  replace v1 := v1.dn d'
  replace HD := Lib.hid (HD.out.trans d')
  clear d'
  go_wp2_with (first | (go_at_call 9; (with_reducible refine (C0.out _ (T.dn HD.out)).mono ?_); rintro e w' ⟨rfl, d'⟩; refine Hid.out ?_))
  refine Lib.hid ?_
  replace v1 := v1.dn d'
  replace HD := Lib.hid (HD.out.trans d')
  clear d'
  go_wp2_with fail
  go_ret
  exact ⟨rfl, HD.out⟩
set_option maxRecDepth 100000 in
set_option maxHeartbeats 2000000 in
theorem sfr_h (m : Mc) (W : World) (hm : m.Ok W) (T : Env2 W) (hx : m.xs.length ≤ 9223372036854775807) (hy : m.ys.length ≤ 9223372036854775807) (hf : decide (m.xs.length ≤ 600 ∧ m.ys.length ≤ 600) = true) (hh : m.h = true) :
    Calls Tryz.prog 4 #[.agg (mach m)] W fun e W' => e = .returned (.bool true) ∧ Dn W W' := by
  have hl := hm.len
  have hc := hm.core
  have hs : m.xs.length ≤ 600 := by simp only [decide_eq_true_eq] at hf; omega
  have hn : m.ys.length ≤ 600 := by simp only [decide_eq_true_eq] at hf; omega
  have C0 := Lib.hid fun w => fun (t : Env2 w) => awakeS w t
  have CF := Lib.hid fun w => fun (ow : m.Ok w) => rfew m true w ow hx hy hf
  clear hf
  have C1 := Lib.hid fun w => fun (ow : m.Ok w) (t : Env2 w) => stRunS m m.c m.xs m.ys true m.t rfl rfl rfl hh rfl _ 0 0 (by rw [M.stS_halted]) (by rw [M.stS_halted]) (by omega) (by omega) w ow t rfl
  rw [M.stS_halted] at C1
  have CS := Lib.hid fun (w : World) (m1 : Mc) (o1 : m1.Ok w) (ow : m.Ok w) (f1 : Sd ⟨m.c, m.xs, m.ys, true, m.t, 0, 0⟩ m1) => rsame m1 m w o1 ow (by rw [show m1.xs = m.xs from f1.xs]; omega) (by rw [show m1.ys = m.ys from f1.ys]; omega) f1.c f1.xs f1.t f1.ys (by rw [f1.h, hh])
  have q0 := eqTrap_same 0 0
  have HD := Lib.hid (Dn.refl W)
  go_enter Tryz.func4, Tryz.ntmps4
  go_wp2_with (first | ((with_reducible refine wpList_box (vs := (mach m)) ?_ ?_ ?_); rfl; rfl; intro b_v1 w' nn; refine Hid.out ?_))
  refine Lib.hid ?_
  have HL_v1 : Hid (W.heap.size ≤ b_v1) := Lib.hid (Blk.hi nn HD.out.size)
  have d' := nn.dn
  replace HD := Lib.hid (HD.out.trans d')
  have v1 := nn.blk
  clear d' nn
  go_wp2_with (first | (go_at_call 9; (with_reducible refine (C0.out _ (T.dn HD.out)).mono ?_); rintro e w' ⟨rfl, d'⟩; refine Hid.out ?_))
  refine Lib.hid ?_
  replace v1 := v1.dn d'
  replace HD := Lib.hid (HD.out.trans d')
  clear d'
  go_wp2_with (first | ((with_reducible refine load33 v1 hl ?_ ?_ ?_); rfl; rfl) | (go_at_call 10; (with_reducible refine (CF.out _ (hm.dn HD.out)).mono ?_); rintro e w' ⟨rfl, d'⟩; refine Hid.out ?_))
  refine Lib.hid ?_
  replace v1 := v1.dn d'
  replace HD := Lib.hid (HD.out.trans d')
  clear d'
  go_wp2_with (first | ((with_reducible refine load33 v1 hl ?_ ?_ ?_); rfl; rfl) | (go_at_call 11; (with_reducible refine (C1.out _ (hm.dn HD.out) (T.dn HD.out)).mono ?_); rintro e w' ⟨m1, rfl, o_m1, e_m1, d'⟩; refine Hid.out ?_))
  refine Lib.hid ?_
  replace v1 := v1.dn d'
  replace HD := Lib.hid (HD.out.trans d')
  clear d'
  have l_m1 := o_m1.out.len
  have o_m1 := Lib.hid o_m1.out
  go_wp2_with (first | ((with_reducible refine wpList_alloc zeroMach ?_ ?_); rfl; intro b_v3 w' nn; refine Hid.out ?_))
  refine Lib.hid ?_
  have n_v1_v3 := Lib.hid (nn.ne _ v1.lt)
  have HL_v3 : Hid (W.heap.size ≤ b_v3) := Lib.hid (Blk.hi nn HD.out.size)
  have d' := nn.dn
  replace v1 := v1.dn d'
  replace o_m1 := Lib.hid (o_m1.out.dn d')
  replace HD := Lib.hid (HD.out.trans d')
  have v3 := nn.blk
  clear d' nn
  go_wp2_with (first | ((with_reducible refine wpList_alloc zeroTrap ?_ ?_); rfl; intro b_v4 w' nn; refine Hid.out ?_))
  refine Lib.hid ?_
  have n_v1_v4 := Lib.hid (nn.ne _ v1.lt)
  have n_v3_v4 := Lib.hid (nn.ne _ v3.lt)
  have HL_v4 : Hid (W.heap.size ≤ b_v4) := Lib.hid (Blk.hi nn HD.out.size)
  have d' := nn.dn
  replace v1 := v1.dn d'
  replace v3 := v3.dn d'
  replace o_m1 := Lib.hid (o_m1.out.dn d')
  replace HD := Lib.hid (HD.out.trans d')
  have v4 := nn.blk
  clear d' nn
  go_wp2_with (first | ((with_reducible refine store33 m1 l_m1 v3 zlen ?_ ?_ ?_ ?_); rfl; rfl; rfl; intro w' r' t'; refine Hid.out ?_))
  refine Lib.hid ?_
  replace o_m1 := Lib.hid (o_m1.out.trn v3 (NoU8.mach _) t')
  replace v1 := v1.trn t' n_v1_v3.out
  replace v4 := v4.trn t' n_v3_v4.out.symm
  replace HD := Lib.hid (HD.out.trn HL_v3.out t')
  clear t' v3
  have v3 := r'
  clear r'
  go_wp2_with (first | ((with_reducible refine storeTrap (k := 0) (v := 0) v4 ?_ ?_ ?_ ?_); rfl; rfl; rfl; intro w' r' t'; refine Hid.out ?_))
  refine Lib.hid ?_
  replace o_m1 := Lib.hid (o_m1.out.trn v4 (NoU8.trap _ _) t')
  replace v1 := v1.trn t' n_v1_v4.out
  replace v3 := v3.trn t' n_v3_v4.out
  replace HD := Lib.hid (HD.out.trn HL_v4.out t')
  clear t' v4
  have v4 := r'
  clear r'
  have ck0 := v1.halted hl
  rw [hh] at ck0
  go_wp2_with (first | ((with_reducible refine load33 v3 l_m1 ?_ ?_ ?_); rfl; rfl) | ((with_reducible refine load33 v1 hl ?_ ?_ ?_); rfl; rfl) | (go_at_call 17; (with_reducible refine (CS.out _ m1 o_m1.out (hm.dn HD.out) e_m1.out).mono ?_); rintro e w' ⟨rfl, d'⟩; refine Hid.out ?_))
  refine Lib.hid ?_
  clear ck0
  replace v1 := v1.dn d'
  replace v3 := v3.dn d'
  replace v4 := v4.dn d'
  replace o_m1 := Lib.hid (o_m1.out.dn d')
  replace HD := Lib.hid (HD.out.trans d')
  clear d'
  go_wp2_with (first | ((with_reducible refine loadTrap v4 ?_ ?_ ?_); rfl; rfl) | fail)
  go_ret
  exact ⟨rfl, HD.out⟩
set_option maxRecDepth 100000 in
set_option maxHeartbeats 2000000 in
theorem sfr_t (m : Mc) (W : World) (hm : m.Ok W) (T : Env2 W) (hx : m.xs.length ≤ 9223372036854775807) (hy : m.ys.length ≤ 9223372036854775807) (hf : decide (m.xs.length ≤ 600 ∧ m.ys.length ≤ 600) = true) (hh : m.h = false) (r : M.SRes) (k v : Int) (hr : M.stS m.c m.xs m.ys false m.t = r) (hk : r.k = k) (hv : r.v = v) (F : M.StF m.c m.xs m.ys m.t r) (hk0 : k ≠ 0) :
    Calls Tryz.prog 4 #[.agg (mach m)] W fun e W' => e = .returned (.bool true) ∧ Dn W W' := by
  have hl := hm.len
  have hc := hm.core
  have hs : m.xs.length ≤ 600 := by simp only [decide_eq_true_eq] at hf; omega
  have hn : m.ys.length ≤ 600 := by simp only [decide_eq_true_eq] at hf; omega
  have C0 := Lib.hid fun w => fun (t : Env2 w) => awakeS w t
  have CF := Lib.hid fun w => fun (ow : m.Ok w) => rfew m true w ow hx hy hf
  clear hf
  have C1 := Lib.hid fun w => fun (ow : m.Ok w) (t : Env2 w) => stRunS m m.c m.xs m.ys false m.t rfl rfl rfl hh rfl r k v hk hv (by omega) (by omega) w ow t hr
  have t0 := hm.t0
  have t1_ := hm.t1
  obtain ⟨T1, hT1⟩ : ∃ T1, r.t = T1 := ⟨_, rfl⟩
  obtain ⟨tt, htt⟩ : ∃ tt, m.t = tt := ⟨_, rfl⟩
  have hq1 : (T1 != IntKind.u64.wrap (tt + 1)) = false := by rw [← hT1, F.tk, htt, show IntKind.u64.wrap (tt + 1) = M.tick tt from rfl]; simp
  rw [htt] at t0 t1_
  have HT1 := Lib.hid hT1
  have k0 := F.k0
  have k6 := F.k6
  rw [hk] at k0 k6
  have ft := F.trap (by rw [hk]; exact hk0)
  rw [hk, hv] at ft
  obtain ⟨fc, fz, fy, fh, v0, v1_⟩ := ft
  replace F := Lib.hid F
  have hq3 : decide (k < 0) = false := by simp; omega
  have hq4 : decide (6 < k) = false := by simp; omega
  have hq5 : (k != 0) = true := by simpa using hk0
  have hq6 : (k == IntKind.u32.wrap k) = true := by rw [show IntKind.u32.wrap k = k % 4294967296 from rfl]; simp; omega
  obtain ⟨p21, nm21⟩ : ∃ p21, m.c.getD 21 0 = p21 := ⟨_, rfl⟩
  obtain ⟨p16, nm16⟩ : ∃ p16, m.c.getD 16 0 = p16 := ⟨_, rfl⟩
  have E21 : Hid (r.c.getD 16 0 = p21) := Lib.hid (by rw [fc, M.enter_at hc hk0 v0 v1_]; exact nm21)
  have E18 : Hid (r.c.getD 18 0 = p16) := Lib.hid (by rw [fc, M.enter_at hc hk0 v0 v1_]; exact nm16)
  have E19 : Hid (r.c.getD 19 0 = k) := Lib.hid (by rw [fc, M.enter_at hc hk0 v0 v1_]; simp; omega)
  have E20 : Hid (r.c.getD 20 0 = v) := Lib.hid (by rw [fc, M.enter_at hc hk0 v0 v1_]; simp)
  have ER : Hid (r.c.take 16 = m.c.take 16) := Lib.hid (by rw [fc]; exact M.en_regs hc hk0 v0 v1_)
  have ES : Hid (M.sup r.c = true) := Lib.hid (by rw [fc]; exact M.en_sup hc hk0 v0 v1_)
  replace fc := Lib.hid fc
  replace fz := Lib.hid fz
  replace fy := Lib.hid fy
  replace fh := Lib.hid fh
  clear hr hk hv hT1 hk0
  have CSU := Lib.hid fun (w : World) (m1 : Mc) (o1 : m1.Ok w) (f1 : Sd r m1) => (by have h := super_ m1.c w o1.core; rw [f1.c, ES.out, ← f1.c] at h; exact h : Calls Tryz.prog 18 #[.agg (ints .u32 m1.c)] w fun e W' => e = .returned (.bool true) ∧ Dn w W')
  have CM := Lib.hid fun (w : World) (m1 : Mc) (o1 : m1.Ok w) (ow : m.Ok w) (f1 : Sd r m1) => same_yes m1.A m.A m1.k m.k m1.xs.length m.xs.length m1.xs m.xs w o1.mem ow.mem rfl rfl (f1.xs.trans fz.out) (by rw [f1.xs, fz.out]; omega)
  have CO := Lib.hid fun (w : World) (m1 : Mc) (o1 : m1.Ok w) (ow : m.Ok w) (f1 : Sd r m1) => same_yes m1.B m.B m1.q m.q m1.ys.length m.ys.length m1.ys m.ys w o1.out ow.out rfl rfl (f1.ys.trans fy.out) (by rw [f1.ys, fy.out]; omega)
  have HD := Lib.hid (Dn.refl W)
  go_enter Tryz.func4, Tryz.ntmps4
  go_wp2_with (first | ((with_reducible refine wpList_box (vs := (mach m)) ?_ ?_ ?_); rfl; rfl; intro b_v1 w' nn; refine Hid.out ?_))
  refine Lib.hid ?_
  have HL_v1 : Hid (W.heap.size ≤ b_v1) := Lib.hid (Blk.hi nn HD.out.size)
  have d' := nn.dn
  replace HD := Lib.hid (HD.out.trans d')
  have v1 := nn.blk
  clear d' nn
  go_wp2_with (first | (go_at_call 9; (with_reducible refine (C0.out _ (T.dn HD.out)).mono ?_); rintro e w' ⟨rfl, d'⟩; refine Hid.out ?_))
  refine Lib.hid ?_
  replace v1 := v1.dn d'
  replace HD := Lib.hid (HD.out.trans d')
  clear d'
  go_wp2_with (first | ((with_reducible refine load33 v1 hl ?_ ?_ ?_); rfl; rfl) | (go_at_call 10; (with_reducible refine (CF.out _ (hm.dn HD.out)).mono ?_); rintro e w' ⟨rfl, d'⟩; refine Hid.out ?_))
  refine Lib.hid ?_
  replace v1 := v1.dn d'
  replace HD := Lib.hid (HD.out.trans d')
  clear d'
  go_wp2_with (first | ((with_reducible refine load33 v1 hl ?_ ?_ ?_); rfl; rfl) | (go_at_call 11; (with_reducible refine (C1.out _ (hm.dn HD.out) (T.dn HD.out)).mono ?_); rintro e w' ⟨m1, rfl, o_m1, e_m1, d'⟩; refine Hid.out ?_))
  refine Lib.hid ?_
  replace v1 := v1.dn d'
  replace HD := Lib.hid (HD.out.trans d')
  clear d'
  have l_m1 := o_m1.out.len
  have nt : m1.t = T1 := e_m1.out.t.trans HT1.out
  have hq2 : ((m1.xs.length : Int) != (m.xs.length : Int)) = false := by rw [e_m1.out.xs, F.out.len]; simp
  have a16 : m1.c.getD 16 0 = p21 := by rw [e_m1.out.c]; exact E21.out
  have a18 : m1.c.getD 18 0 = p16 := by rw [e_m1.out.c]; exact E18.out
  have a19 : m1.c.getD 19 0 = k := by rw [e_m1.out.c]; exact E19.out
  have a20 : m1.c.getD 20 0 = v := by rw [e_m1.out.c]; exact E20.out
  have a32 : m1.h = false := e_m1.out.h.trans fh.out
  have q16 : ∀ w, (Op.equalIn 10000 23 (.agg (ints .u32 (m1.c.take 16))) (.agg (ints .u32 (m.c.take 16)))).run Tryz.prog w = .ok true w := fun w => by rw [eq16 (take16 l_m1) (take16 hl), e_m1.out.c, ER.out, beq_self_eq_true]
  have o_m1 := Lib.hid o_m1.out
  go_wp2_with (first | ((with_reducible refine wpList_alloc zeroMach ?_ ?_); rfl; intro b_v3 w' nn; refine Hid.out ?_))
  refine Lib.hid ?_
  have n_v1_v3 := Lib.hid (nn.ne _ v1.lt)
  have HL_v3 : Hid (W.heap.size ≤ b_v3) := Lib.hid (Blk.hi nn HD.out.size)
  have d' := nn.dn
  replace v1 := v1.dn d'
  replace o_m1 := Lib.hid (o_m1.out.dn d')
  replace HD := Lib.hid (HD.out.trans d')
  have v3 := nn.blk
  clear d' nn
  go_wp2_with (first | ((with_reducible refine wpList_alloc zeroTrap ?_ ?_); rfl; intro b_v4 w' nn; refine Hid.out ?_))
  refine Lib.hid ?_
  have n_v1_v4 := Lib.hid (nn.ne _ v1.lt)
  have n_v3_v4 := Lib.hid (nn.ne _ v3.lt)
  have HL_v4 : Hid (W.heap.size ≤ b_v4) := Lib.hid (Blk.hi nn HD.out.size)
  have d' := nn.dn
  replace v1 := v1.dn d'
  replace v3 := v3.dn d'
  replace o_m1 := Lib.hid (o_m1.out.dn d')
  replace HD := Lib.hid (HD.out.trans d')
  have v4 := nn.blk
  clear d' nn
  go_wp2_with (first | ((with_reducible refine store33 m1 l_m1 v3 zlen ?_ ?_ ?_ ?_); rfl; rfl; rfl; intro w' r' t'; refine Hid.out ?_))
  refine Lib.hid ?_
  replace o_m1 := Lib.hid (o_m1.out.trn v3 (NoU8.mach _) t')
  replace v1 := v1.trn t' n_v1_v3.out
  replace v4 := v4.trn t' n_v3_v4.out.symm
  replace HD := Lib.hid (HD.out.trn HL_v3.out t')
  clear t' v3
  have v3 := r'
  clear r'
  go_wp2_with (first | ((with_reducible refine storeTrap (k := k) (v := v) v4 ?_ ?_ ?_ ?_); rfl; rfl; rfl; intro w' r' t'; refine Hid.out ?_))
  refine Lib.hid ?_
  replace o_m1 := Lib.hid (o_m1.out.trn v4 (NoU8.trap _ _) t')
  replace v1 := v1.trn t' n_v1_v4.out
  replace v3 := v3.trn t' n_v3_v4.out
  replace HD := Lib.hid (HD.out.trn HL_v4.out t')
  clear t' v4
  have v4 := r'
  clear r'
  have ck0 := v1.halted hl
  rw [hh] at ck0
  have ck1 := v3.time l_m1
  rw [nt] at ck1
  have ck2 := v1.time hl
  rw [htt] at ck2
  have ck3 := v3.mem l_m1
  have ck4 := v1.mem hl
  have ck5 := v4.cell (i := 0) (v := .int .i64 k) rfl
  go_upto_region 9 with (fail)
  try simp only [List.append]
  clear ck0 ck1 ck2 ck3 ck4 ck5
  go_wp2_with (first | ((with_reducible refine loadCore v3 l_m1 ?_ ?_ ?_); rfl; rfl) | (go_at_call 18; (with_reducible refine (CSU.out _ m1 o_m1.out e_m1.out).mono ?_); rintro e w' ⟨rfl, d'⟩; refine Hid.out ?_))
  refine Lib.hid ?_
  replace v1 := v1.dn d'
  replace v3 := v3.dn d'
  replace v4 := v4.dn d'
  replace o_m1 := Lib.hid (o_m1.out.dn d')
  replace HD := Lib.hid (HD.out.trans d')
  clear d'
  have ck0 := v3.word l_m1 16 rfl
  rw [a16] at ck0
  have ck1 := v1.word hl 21 rfl
  rw [nm21] at ck1
  have ck2 := v3.word l_m1 18 rfl
  rw [a18] at ck2
  have ck3 := v1.word hl 16 rfl
  rw [nm16] at ck3
  have ck4 := v3.word l_m1 19 rfl
  rw [a19] at ck4
  have ck5 := v4.cell (i := 0) (v := .int .i64 k) rfl
  have ck6 := v3.word l_m1 20 rfl
  rw [a20] at ck6
  have ck7 := v4.cell (i := 1) (v := .int .u32 v) rfl
  have ck8 := v3.mem l_m1
  have ck9 := v1.mem hl
  go_wp2_with (first | ((with_reducible refine loadRegs v3 l_m1 ?_ ?_ ?_); rfl; rfl) | ((with_reducible refine loadRegs v1 hl ?_ ?_ ?_); rfl; rfl) | (go_at_call 19; (with_reducible refine (CM.out _ m1 o_m1.out (hm.dn HD.out) e_m1.out).mono ?_); rintro e w' ⟨rfl, d'⟩; refine Hid.out ?_))
  refine Lib.hid ?_
  clear ck0 ck1 ck2 ck3 ck4 ck5 ck6 ck7 ck8 ck9
  replace v1 := v1.dn d'
  replace v3 := v3.dn d'
  replace v4 := v4.dn d'
  replace o_m1 := Lib.hid (o_m1.out.dn d')
  replace HD := Lib.hid (HD.out.trans d')
  clear d'
  have ck0 := v3.out l_m1
  have ck1 := v1.out hl
  go_wp2_with (first | (go_at_call 19; (with_reducible refine (CO.out _ m1 o_m1.out (hm.dn HD.out) e_m1.out).mono ?_); rintro e w' ⟨rfl, d'⟩; refine Hid.out ?_))
  refine Lib.hid ?_
  clear ck0 ck1
  replace v1 := v1.dn d'
  replace v3 := v3.dn d'
  replace v4 := v4.dn d'
  replace o_m1 := Lib.hid (o_m1.out.dn d')
  replace HD := Lib.hid (HD.out.trans d')
  clear d'
  have ck0 := v3.halted l_m1
  rw [a32] at ck0
  go_wp2_with fail
  go_ret
  exact ⟨rfl, HD.out⟩
set_option maxRecDepth 100000 in
set_option maxHeartbeats 2000000 in
theorem sfr_gs (m : Mc) (W : World) (hm : m.Ok W) (T : Env2 W) (hx : m.xs.length ≤ 9223372036854775807) (hy : m.ys.length ≤ 9223372036854775807) (hf : decide (m.xs.length ≤ 600 ∧ m.ys.length ≤ 600) = true) (hh : m.h = false) (r : M.SRes) (hr : M.stS m.c m.xs m.ys false m.t = r) (hk : r.k = 0) (hv : r.v = 0) (F : M.StF m.c m.xs m.ys m.t r) (hsu : M.sup m.c = true) :
    Calls Tryz.prog 4 #[.agg (mach m)] W fun e W' => e = .returned (.bool true) ∧ Dn W W' := by
  have hl := hm.len
  have hc := hm.core
  have hs : m.xs.length ≤ 600 := by simp only [decide_eq_true_eq] at hf; omega
  have hn : m.ys.length ≤ 600 := by simp only [decide_eq_true_eq] at hf; omega
  have C0 := Lib.hid fun w => fun (t : Env2 w) => awakeS w t
  have CF := Lib.hid fun w => fun (ow : m.Ok w) => rfew m true w ow hx hy hf
  clear hf
  have C1 := Lib.hid fun w => fun (ow : m.Ok w) (t : Env2 w) => stRunS m m.c m.xs m.ys false m.t rfl rfl rfl hh rfl r 0 0 hk hv (by omega) (by omega) w ow t hr
  have t0 := hm.t0
  have t1_ := hm.t1
  obtain ⟨T1, hT1⟩ : ∃ T1, r.t = T1 := ⟨_, rfl⟩
  obtain ⟨tt, htt⟩ : ∃ tt, m.t = tt := ⟨_, rfl⟩
  have hq1 : (T1 != IntKind.u64.wrap (tt + 1)) = false := by rw [← hT1, F.tk, htt, show IntKind.u64.wrap (tt + 1) = M.tick tt from rfl]; simp
  rw [htt] at t0 t1_
  have HT1 := Lib.hid hT1
  have fg := (F.go hk).2
  replace F := Lib.hid F
  have CSU := Lib.hid fun w => (by have h := super_ m.c w hc; rw [hsu] at h; exact h : Calls Tryz.prog 18 #[.agg (ints .u32 m.c)] w fun e W' => e = .returned (.bool true) ∧ Dn w W')
  have q0 := eqTrap_same 0 0
  clear hr hk hv hT1 hsu fg
  have HD := Lib.hid (Dn.refl W)
  go_enter Tryz.func4, Tryz.ntmps4
  go_wp2_with (first | ((with_reducible refine wpList_box (vs := (mach m)) ?_ ?_ ?_); rfl; rfl; intro b_v1 w' nn; refine Hid.out ?_))
  refine Lib.hid ?_
  have HL_v1 : Hid (W.heap.size ≤ b_v1) := Lib.hid (Blk.hi nn HD.out.size)
  have d' := nn.dn
  replace HD := Lib.hid (HD.out.trans d')
  have v1 := nn.blk
  clear d' nn
  go_wp2_with (first | (go_at_call 9; (with_reducible refine (C0.out _ (T.dn HD.out)).mono ?_); rintro e w' ⟨rfl, d'⟩; refine Hid.out ?_))
  refine Lib.hid ?_
  replace v1 := v1.dn d'
  replace HD := Lib.hid (HD.out.trans d')
  clear d'
  go_wp2_with (first | ((with_reducible refine load33 v1 hl ?_ ?_ ?_); rfl; rfl) | (go_at_call 10; (with_reducible refine (CF.out _ (hm.dn HD.out)).mono ?_); rintro e w' ⟨rfl, d'⟩; refine Hid.out ?_))
  refine Lib.hid ?_
  replace v1 := v1.dn d'
  replace HD := Lib.hid (HD.out.trans d')
  clear d'
  go_wp2_with (first | ((with_reducible refine load33 v1 hl ?_ ?_ ?_); rfl; rfl) | (go_at_call 11; (with_reducible refine (C1.out _ (hm.dn HD.out) (T.dn HD.out)).mono ?_); rintro e w' ⟨m1, rfl, o_m1, e_m1, d'⟩; refine Hid.out ?_))
  refine Lib.hid ?_
  replace v1 := v1.dn d'
  replace HD := Lib.hid (HD.out.trans d')
  clear d'
  have l_m1 := o_m1.out.len
  have nt : m1.t = T1 := e_m1.out.t.trans HT1.out
  have hq2 : ((m1.xs.length : Int) != (m.xs.length : Int)) = false := by rw [e_m1.out.xs, F.out.len]; simp
  have o_m1 := Lib.hid o_m1.out
  go_wp2_with (first | ((with_reducible refine wpList_alloc zeroMach ?_ ?_); rfl; intro b_v3 w' nn; refine Hid.out ?_))
  refine Lib.hid ?_
  have n_v1_v3 := Lib.hid (nn.ne _ v1.lt)
  have HL_v3 : Hid (W.heap.size ≤ b_v3) := Lib.hid (Blk.hi nn HD.out.size)
  have d' := nn.dn
  replace v1 := v1.dn d'
  replace o_m1 := Lib.hid (o_m1.out.dn d')
  replace HD := Lib.hid (HD.out.trans d')
  have v3 := nn.blk
  clear d' nn
  go_wp2_with (first | ((with_reducible refine wpList_alloc zeroTrap ?_ ?_); rfl; intro b_v4 w' nn; refine Hid.out ?_))
  refine Lib.hid ?_
  have n_v1_v4 := Lib.hid (nn.ne _ v1.lt)
  have n_v3_v4 := Lib.hid (nn.ne _ v3.lt)
  have HL_v4 : Hid (W.heap.size ≤ b_v4) := Lib.hid (Blk.hi nn HD.out.size)
  have d' := nn.dn
  replace v1 := v1.dn d'
  replace v3 := v3.dn d'
  replace o_m1 := Lib.hid (o_m1.out.dn d')
  replace HD := Lib.hid (HD.out.trans d')
  have v4 := nn.blk
  clear d' nn
  go_wp2_with (first | ((with_reducible refine store33 m1 l_m1 v3 zlen ?_ ?_ ?_ ?_); rfl; rfl; rfl; intro w' r' t'; refine Hid.out ?_))
  refine Lib.hid ?_
  replace o_m1 := Lib.hid (o_m1.out.trn v3 (NoU8.mach _) t')
  replace v1 := v1.trn t' n_v1_v3.out
  replace v4 := v4.trn t' n_v3_v4.out.symm
  replace HD := Lib.hid (HD.out.trn HL_v3.out t')
  clear t' v3
  have v3 := r'
  clear r'
  go_wp2_with (first | ((with_reducible refine storeTrap (k := 0) (v := 0) v4 ?_ ?_ ?_ ?_); rfl; rfl; rfl; intro w' r' t'; refine Hid.out ?_))
  refine Lib.hid ?_
  replace o_m1 := Lib.hid (o_m1.out.trn v4 (NoU8.trap _ _) t')
  replace v1 := v1.trn t' n_v1_v4.out
  replace v3 := v3.trn t' n_v3_v4.out
  replace HD := Lib.hid (HD.out.trn HL_v4.out t')
  clear t' v4
  have v4 := r'
  clear r'
  have ck0 := v1.halted hl
  rw [hh] at ck0
  have ck1 := v3.time l_m1
  rw [nt] at ck1
  have ck2 := v1.time hl
  rw [htt] at ck2
  have ck3 := v3.mem l_m1
  have ck4 := v1.mem hl
  have ck5 := v4.cell (i := 0) (v := .int .i64 0) rfl
  go_wp2_with (first | ((with_reducible refine loadTrap v4 ?_ ?_ ?_); rfl; rfl) | ((with_reducible refine loadCore v1 hl ?_ ?_ ?_); rfl; rfl) | (go_at_call 18; (with_reducible refine (CSU.out _).mono ?_); rintro e w' ⟨rfl, d'⟩; refine Hid.out ?_))
  refine Lib.hid ?_
  clear ck0 ck1 ck2 ck3 ck4 ck5
  replace v1 := v1.dn d'
  replace v3 := v3.dn d'
  replace v4 := v4.dn d'
  replace o_m1 := Lib.hid (o_m1.out.dn d')
  replace HD := Lib.hid (HD.out.trans d')
  clear d'
  go_wp2_with fail
  go_ret
  exact ⟨rfl, HD.out⟩
set_option maxRecDepth 100000 in
set_option maxHeartbeats 2000000 in
theorem sfr_gu (m : Mc) (W : World) (hm : m.Ok W) (T : Env2 W) (hx : m.xs.length ≤ 9223372036854775807) (hy : m.ys.length ≤ 9223372036854775807) (hf : decide (m.xs.length ≤ 600 ∧ m.ys.length ≤ 600) = true) (hh : m.h = false) (r : M.SRes) (hr : M.stS m.c m.xs m.ys false m.t = r) (hk : r.k = 0) (hv : r.v = 0) (F : M.StF m.c m.xs m.ys m.t r) (hsu : M.sup m.c = false) :
    Calls Tryz.prog 4 #[.agg (mach m)] W fun e W' => e = .returned (.bool true) ∧ Dn W W' := by
  have hl := hm.len
  have hc := hm.core
  have hs : m.xs.length ≤ 600 := by simp only [decide_eq_true_eq] at hf; omega
  have hn : m.ys.length ≤ 600 := by simp only [decide_eq_true_eq] at hf; omega
  have C0 := Lib.hid fun w => fun (t : Env2 w) => awakeS w t
  have CF := Lib.hid fun w => fun (ow : m.Ok w) => rfew m true w ow hx hy hf
  clear hf
  have C1 := Lib.hid fun w => fun (ow : m.Ok w) (t : Env2 w) => stRunS m m.c m.xs m.ys false m.t rfl rfl rfl hh rfl r 0 0 hk hv (by omega) (by omega) w ow t hr
  have t0 := hm.t0
  have t1_ := hm.t1
  obtain ⟨T1, hT1⟩ : ∃ T1, r.t = T1 := ⟨_, rfl⟩
  obtain ⟨tt, htt⟩ : ∃ tt, m.t = tt := ⟨_, rfl⟩
  have hq1 : (T1 != IntKind.u64.wrap (tt + 1)) = false := by rw [← hT1, F.tk, htt, show IntKind.u64.wrap (tt + 1) = M.tick tt from rfl]; simp
  rw [htt] at t0 t1_
  have HT1 := Lib.hid hT1
  have fg := (F.go hk).2
  replace F := Lib.hid F
  have CSU := Lib.hid fun w => (by have h := super_ m.c w hc; rw [hsu] at h; exact h : Calls Tryz.prog 18 #[.agg (ints .u32 m.c)] w fun e W' => e = .returned (.bool false) ∧ Dn w W')
  have q0 := eqTrap_same 0 0
  obtain ⟨fd, fy, fh⟩ := fg hsu
  replace fd := Lib.hid fd
  replace fy := Lib.hid fy
  replace fh := Lib.hid fh
  have CO := Lib.hid fun (w : World) (m1 : Mc) (o1 : m1.Ok w) (ow : m.Ok w) (f1 : Sd r m1) => same_yes m1.B m.B m1.q m.q m1.ys.length m.ys.length m1.ys m.ys w o1.out ow.out rfl rfl (f1.ys.trans fy.out) (by rw [f1.ys, fy.out]; omega)
  clear hr hk hv hT1 hsu fg
  have HD := Lib.hid (Dn.refl W)
  go_enter Tryz.func4, Tryz.ntmps4
  go_wp2_with (first | ((with_reducible refine wpList_box (vs := (mach m)) ?_ ?_ ?_); rfl; rfl; intro b_v1 w' nn; refine Hid.out ?_))
  refine Lib.hid ?_
  have HL_v1 : Hid (W.heap.size ≤ b_v1) := Lib.hid (Blk.hi nn HD.out.size)
  have d' := nn.dn
  replace HD := Lib.hid (HD.out.trans d')
  have v1 := nn.blk
  clear d' nn
  go_wp2_with (first | (go_at_call 9; (with_reducible refine (C0.out _ (T.dn HD.out)).mono ?_); rintro e w' ⟨rfl, d'⟩; refine Hid.out ?_))
  refine Lib.hid ?_
  replace v1 := v1.dn d'
  replace HD := Lib.hid (HD.out.trans d')
  clear d'
  go_wp2_with (first | ((with_reducible refine load33 v1 hl ?_ ?_ ?_); rfl; rfl) | (go_at_call 10; (with_reducible refine (CF.out _ (hm.dn HD.out)).mono ?_); rintro e w' ⟨rfl, d'⟩; refine Hid.out ?_))
  refine Lib.hid ?_
  replace v1 := v1.dn d'
  replace HD := Lib.hid (HD.out.trans d')
  clear d'
  go_wp2_with (first | ((with_reducible refine load33 v1 hl ?_ ?_ ?_); rfl; rfl) | (go_at_call 11; (with_reducible refine (C1.out _ (hm.dn HD.out) (T.dn HD.out)).mono ?_); rintro e w' ⟨m1, rfl, o_m1, e_m1, d'⟩; refine Hid.out ?_))
  refine Lib.hid ?_
  replace v1 := v1.dn d'
  replace HD := Lib.hid (HD.out.trans d')
  clear d'
  have l_m1 := o_m1.out.len
  have nt : m1.t = T1 := e_m1.out.t.trans HT1.out
  have hq2 : ((m1.xs.length : Int) != (m.xs.length : Int)) = false := by rw [e_m1.out.xs, F.out.len]; simp
  have a32 : m1.h = false := e_m1.out.h.trans fh.out
  have q12 : ∀ w, (Op.equalIn 10000 24 (.agg (ints .u32 (m1.c.drop 17))) (.agg (ints .u32 (m.c.drop 17)))).run Tryz.prog w = .ok true w := fun w => by rw [eq12s (drop17 l_m1) (drop17 hl), e_m1.out.c, fd.out, beq_self_eq_true]
  have o_m1 := Lib.hid o_m1.out
  go_wp2_with (first | ((with_reducible refine wpList_alloc zeroMach ?_ ?_); rfl; intro b_v3 w' nn; refine Hid.out ?_))
  refine Lib.hid ?_
  have n_v1_v3 := Lib.hid (nn.ne _ v1.lt)
  have HL_v3 : Hid (W.heap.size ≤ b_v3) := Lib.hid (Blk.hi nn HD.out.size)
  have d' := nn.dn
  replace v1 := v1.dn d'
  replace o_m1 := Lib.hid (o_m1.out.dn d')
  replace HD := Lib.hid (HD.out.trans d')
  have v3 := nn.blk
  clear d' nn
  go_wp2_with (first | ((with_reducible refine wpList_alloc zeroTrap ?_ ?_); rfl; intro b_v4 w' nn; refine Hid.out ?_))
  refine Lib.hid ?_
  have n_v1_v4 := Lib.hid (nn.ne _ v1.lt)
  have n_v3_v4 := Lib.hid (nn.ne _ v3.lt)
  have HL_v4 : Hid (W.heap.size ≤ b_v4) := Lib.hid (Blk.hi nn HD.out.size)
  have d' := nn.dn
  replace v1 := v1.dn d'
  replace v3 := v3.dn d'
  replace o_m1 := Lib.hid (o_m1.out.dn d')
  replace HD := Lib.hid (HD.out.trans d')
  have v4 := nn.blk
  clear d' nn
  go_wp2_with (first | ((with_reducible refine store33 m1 l_m1 v3 zlen ?_ ?_ ?_ ?_); rfl; rfl; rfl; intro w' r' t'; refine Hid.out ?_))
  refine Lib.hid ?_
  replace o_m1 := Lib.hid (o_m1.out.trn v3 (NoU8.mach _) t')
  replace v1 := v1.trn t' n_v1_v3.out
  replace v4 := v4.trn t' n_v3_v4.out.symm
  replace HD := Lib.hid (HD.out.trn HL_v3.out t')
  clear t' v3
  have v3 := r'
  clear r'
  go_wp2_with (first | ((with_reducible refine storeTrap (k := 0) (v := 0) v4 ?_ ?_ ?_ ?_); rfl; rfl; rfl; intro w' r' t'; refine Hid.out ?_))
  refine Lib.hid ?_
  replace o_m1 := Lib.hid (o_m1.out.trn v4 (NoU8.trap _ _) t')
  replace v1 := v1.trn t' n_v1_v4.out
  replace v3 := v3.trn t' n_v3_v4.out
  replace HD := Lib.hid (HD.out.trn HL_v4.out t')
  clear t' v4
  have v4 := r'
  clear r'
  have ck0 := v1.halted hl
  rw [hh] at ck0
  have ck1 := v3.time l_m1
  rw [nt] at ck1
  have ck2 := v1.time hl
  rw [htt] at ck2
  have ck3 := v3.mem l_m1
  have ck4 := v1.mem hl
  have ck5 := v4.cell (i := 0) (v := .int .i64 0) rfl
  go_wp2_with (first | ((with_reducible refine loadTrap v4 ?_ ?_ ?_); rfl; rfl) | ((with_reducible refine loadCore v1 hl ?_ ?_ ?_); rfl; rfl) | (go_at_call 18; (with_reducible refine (CSU.out _).mono ?_); rintro e w' ⟨rfl, d'⟩; refine Hid.out ?_))
  refine Lib.hid ?_
  clear ck0 ck1 ck2 ck3 ck4 ck5
  replace v1 := v1.dn d'
  replace v3 := v3.dn d'
  replace v4 := v4.dn d'
  replace o_m1 := Lib.hid (o_m1.out.dn d')
  replace HD := Lib.hid (HD.out.trans d')
  clear d'
  have ck0 := v3.out l_m1
  have ck1 := v1.out hl
  go_wp2_with (first | ((with_reducible refine loadCsr v3 l_m1 ?_ ?_ ?_); rfl; rfl) | ((with_reducible refine loadCsr v1 hl ?_ ?_ ?_); rfl; rfl) | (go_at_call 19; (with_reducible refine (CO.out _ m1 o_m1.out (hm.dn HD.out) e_m1.out).mono ?_); rintro e w' ⟨rfl, d'⟩; refine Hid.out ?_))
  refine Lib.hid ?_
  clear ck0 ck1
  replace v1 := v1.dn d'
  replace v3 := v3.dn d'
  replace v4 := v4.dn d'
  replace o_m1 := Lib.hid (o_m1.out.dn d')
  replace HD := Lib.hid (HD.out.trans d')
  clear d'
  have ck0 := v3.halted l_m1
  rw [a32] at ck0
  go_wp2_with fail
  go_ret
  exact ⟨rfl, HD.out⟩
theorem sfrWalk (m : Mc) (W : World) (hm : m.Ok W) (T : Env2 W) (hx : m.xs.length ≤ 9223372036854775807) (hy : m.ys.length ≤ 9223372036854775807) : Calls Tryz.prog 4 #[.agg (mach m)] W fun e W' => e = .returned (.bool true) ∧ Dn W W' := by
  cases hf : decide (m.xs.length ≤ 600 ∧ m.ys.length ≤ 600)
  · exact sfr_few m W hm T hx hy hf
  · cases hh : m.h
    · have F := M.stS_f (c := m.c) (xs := m.xs) (ys := m.ys) (t := m.t) hm.core (fw_rng hm)
      by_cases hk : (M.stS m.c m.xs m.ys false m.t).k = 0
      · have hv := (F.go hk).1
        cases hsu : M.sup m.c
        · exact sfr_gu m W hm T hx hy hf hh _ rfl hk hv F hsu
        · exact sfr_gs m W hm T hx hy hf hh _ rfl hk hv F hsu
      · exact sfr_t m W hm T hx hy hf hh _ _ _ rfl rfl rfl F hk
    · exact sfr_h m W hm T hx hy hf hh
end Go.Proofs.YtjbnflalngjfaaaGreatDoor
namespace Go.Proofs.YtjbnflalngjfaaaGreatDoor.stepFrame
open Go.ChangeShapes Go.WideShapes Go.ChangeAt Go.RowKit
set_option linter.unusedVariables false


theorem readable : ∀ t ∈ Tryz.f4.params.toList, Tryz.prog.readableRec t = true ∧ t < Tryz.prog.types.size := by
  rw [Tryz.params4]
  intro t ht
  have hall : ([30].all fun t => Tryz.prog.readableRec t && decide (t < Tryz.prog.types.size)) = true := by kernel_rfl
  have h := List.all_eq_true.1 hall t ht
  simp only [Bool.and_eq_true, decide_eq_true_eq] at h
  exact h

theorem said (H : Type) (ds : List (DataW H)) (hl : ds.length = Tryz.f4.params.size) : (Rows.stepFrameSpec.fn H ds).results = [.lit (.bool true)] ∧ (Rows.stepFrameSpec.fn H ds).args = ds ∧ (Rows.stepFrameSpec.fn H ds).vars = [] := by
  rw [Tryz.params4] at hl
  match ds, hl with
  | [d0], _ => exact ⟨rfl, rfl, rfl⟩

set_option maxRecDepth 100000 in
theorem walk {H : Type} {enc : TypeId × Value → H} (W : World) (base : Nat) (args : Array Value) (ds : List (DataW H)) (ps : List MemPlace) (E : Env W)
    (hval : ∀ (j : Nat) t v, Tryz.f4.params[j]? = some t → args[j]? = some v → Value.okWide Tryz.prog W .any base t v)
    (hA : DataW.TrodAll enc Tryz.prog W 0 (fun _ => true) true Tryz.f4.params.toList args.toList ds ps) :
    Calls Tryz.prog 4 args W fun e W' => e = .returned (.bool true) ∧ Dn W W' := by
  rw [Tryz.params4] at hA hval
  obtain ⟨v0, vs0, d0, ds0, p0, q0, hargs, rfl, rfl, h0, r0⟩ := trodAll_cons hA
  obtain ⟨rfl, rfl, rfl⟩ := trodAll_nil r0
  obtain rfl : args = #[v0] := by cases args; simp_all
  obtain ⟨m0, rfl, o0, l0, y0⟩ := open33 (hval 0 30 v0 rfl rfl) h0
  exact sfrWalk m0 W o0 E.two  l0 y0  

set_option maxRecDepth 100000 in
theorem lifted (os : Os) (started : os.Started) (H : Type) (enc : TypeId × Value → H) :
    ReturnsInHanded {} Tryz.checked os 4 .any (fun w args => (Rows.stepFrameSpec.pre enc Tryz.prog Tryz.f4 [] false w args ∧ laidMetH Tryz.prog laidL w) ∧ sizedMet enc Tryz.prog Tryz.f4 (OpenSpec.ofChange Rows.stepFrameSpec) false w args)
      (Rows.stepFrameSpec.post enc Tryz.prog Tryz.f4 false true false false) :=
  returns_of_walk (C := Tryz.checked) rfl own started (by kernel_rfl) Tryz.func4 rfl readable (by kernel_rfl) said
    (ChangeSpec.witness_shaped (enc := enc) (C := Tryz.checked) (os := os) (X := fun w _ => laidMetH Tryz.prog laidL w) false (World.laidAll Tryz.prog os laidL) #[.agg #[.int .u32 0, .int .u32 0, .int .u32 0, .int .u32 0, .int .u32 0, .int .u32 0, .int .u32 0, .int .u32 0, .int .u32 0, .int .u32 0, .int .u32 0, .int .u32 0, .int .u32 0, .int .u32 0, .int .u32 0, .int .u32 0, .int .u32 0, .int .u32 0, .int .u32 0, .int .u32 0, .int .u32 0, .int .u32 0, .int .u32 0, .int .u32 0, .int .u32 0, .int .u32 0, .int .u32 0, .int .u32 0, .int .u32 0, .slice none 0 0, .int .u64 0, .slice none 0 0, .bool false]] 8 (World.laidAll_os _ _ _)
      (start_shaped os _) (by kernel_rfl) (by kernel_rfl) (by kernel_rfl) (start_met os _)) walk

theorem over : Rows.StepFrameSaid :=
  OpenClaim.holds_of_wide 4 Tryz.f4 rfl rfl rfl rfl rfl rfl rfl ⟨rfl, rfl, rfl, rfl, rfl⟩ rfl rfl rfl rfl rfl (by kernel_rfl) Tryz.func4 (by kernel_rfl)
    (of_decide_eq_true (by kernel_rfl)) (by unfold Func.isWrapper; first | (rw [if_pos (by decide +kernel)]; kernel_rfl) | (rw [if_neg (by decide +kernel)]; exact ⟨rfl, rfl⟩))
    (fun os started H enc _ => lifted os started H enc)

/-- THE STATEMENT -/
theorem proved : Rows.StepFrameCardSaid :=
  Claim7.holds_tied_plain_at .later [] [.data, .data, .data] true (true, "8ffe0c46f9e92efb28c84b61b42d6714ec4442e8e8d9bdcf048d53b195bf4d9d") false
    over (fun _ h => by cases h) (by kernel_rfl) (fun _ h => by cases h) stepFrame_row_tie rfl ⟨rfl, rfl⟩ (by kernel_rfl) rfl
    (fun f fn hf hfn => by
      obtain rfl : f = 4 := Option.some.inj ((show Tryz.prog.funcNamed "gaoler/gaolerlaw13.StepFrame" = some 4 by kernel_rfl).symm.trans hf) |>.symm
      obtain rfl : fn = Tryz.f4 := (Option.some.inj (Tryz.func4.symm.trans hfn)).symm
      exact ⟨by kernel_rfl, fun j t ht => by
        rw [Tryz.params4] at ht
        have hm : t ∈ [30] := by simpa using Array.mem_of_getElem? ht
        have hall : ([30].all fun u => !Tryz.prog.wantsStandIn u) = true := by kernel_rfl
        exact (show Tryz.prog.wantsStandIn t = false by simpa using List.all_eq_true.1 hall t hm)⟩)
    (by kernel_rfl)
#print axioms proved
end Go.Proofs.YtjbnflalngjfaaaGreatDoor.stepFrame
