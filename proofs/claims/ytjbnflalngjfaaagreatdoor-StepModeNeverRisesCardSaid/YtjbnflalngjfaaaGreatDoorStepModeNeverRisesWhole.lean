/-
  The law StepModeNeverRises of the law package returns true at every input, and each argument reads as it did; conditions: the listed package variables hold what the program's text lays there (the card ties them to it).
-/
import Derived.Test.YtjbnflalngjfaaaGreatDoorCards
import Derived.Test.YtjbnflalngjfaaaGreatDoorTie
import Derived.Test.YtjbnflalngjfaaaGreatDoorPkW
import Derived.Test.YtjbnflalngjfaaaGreatDoorPkT
import Derived.Test.YtjbnflalngjfaaaGreatDoorPkG
namespace Go.Proofs.YtjbnflalngjfaaaGreatDoor
open Go.ChangeShapes Go.WideShapes Go.ChangeAt Go.RowKit Go.Sort
set_option linter.unusedVariables false

set_option maxRecDepth 100000 in
set_option maxHeartbeats 2000000 in
theorem smn_few (m : Mc) (W : World) (hm : m.Ok W) (T : Env2 W) (hx : m.xs.length ≤ 9223372036854775807) (hy : m.ys.length ≤ 9223372036854775807) (hf : decide (m.xs.length ≤ 600 ∧ m.ys.length ≤ 600) = false) :
    Calls Tryz.prog 8 #[.agg (mach m)] W fun e W' => e = .returned (.bool true) ∧ Dn W W' := by
  have C0 := Lib.hid fun w => fun (t : Env2 w) => awakeS w t
  have CF := Lib.hid fun w => fun (ow : m.Ok w) => rfew m false w ow hx hy hf
  clear hf
  have HD := Lib.hid (Dn.refl W)
  go_enter Tryz.func8, Tryz.ntmps8
  go_wp2_with (first | ((with_reducible refine wpList_box (vs := (mach m)) ?_ ?_ ?_); rfl; rfl; intro b_v1 w' nn; refine Hid.out ?_))
  refine Lib.hid ?_
  have HL_v1 : Hid (W.heap.size ≤ b_v1) := Lib.hid (Blk.hi nn HD.out.size)
  have d' := nn.dn
  replace HD := Lib.hid (HD.out.trans d')
  have v1 := nn.blk
  clear d' nn
  go_wp2_with (first | (go_at_call 9; (with_reducible refine (C0.out _ (T.dn HD.out)).mono ?_); rintro e w' ⟨rfl, d'⟩; refine Hid.out ?_))
  refine Lib.hid ?_
  replace v1 := v1.dn d'
  replace HD := Lib.hid (HD.out.trans d')
  clear d'
  go_wp2_with (first | ((with_reducible refine load33 v1 hm.len ?_ ?_ ?_); rfl; rfl) | (go_at_call 10; (with_reducible refine (CF.out _ (hm.dn HD.out)).mono ?_); rintro e w' ⟨rfl, d'⟩; refine Hid.out ?_))
  refine Lib.hid ?_
  replace v1 := v1.dn d'
  replace HD := Lib.hid (HD.out.trans d')
  clear d'
  go_wp2_with (first | (go_at_call 9; (with_reducible refine (C0.out _ (T.dn HD.out)).mono ?_); rintro e w' ⟨rfl, d'⟩; refine Hid.out ?_))
  refine Lib.hid ?_
  replace v1 := v1.dn d'
  replace HD := Lib.hid (HD.out.trans d')
  clear d'
  go_wp2_with fail
  go_ret
  exact ⟨rfl, HD.out⟩
set_option maxRecDepth 100000 in
set_option maxHeartbeats 2000000 in
theorem smn_h (m : Mc) (W : World) (hm : m.Ok W) (T : Env2 W) (hx : m.xs.length ≤ 9223372036854775807) (hy : m.ys.length ≤ 9223372036854775807) (hf : decide (m.xs.length ≤ 600 ∧ m.ys.length ≤ 600) = true) (hh : m.h = true) :
    Calls Tryz.prog 8 #[.agg (mach m)] W fun e W' => e = .returned (.bool true) ∧ Dn W W' := by
  have hl := hm.len
  have C0 := Lib.hid fun w => fun (t : Env2 w) => awakeS w t
  have CF := Lib.hid fun w => fun (ow : m.Ok w) => rfew m true w ow hx hy hf
  clear hf
  have HD := Lib.hid (Dn.refl W)
  go_enter Tryz.func8, Tryz.ntmps8
  go_wp2_with (first | ((with_reducible refine wpList_box (vs := (mach m)) ?_ ?_ ?_); rfl; rfl; intro b_v1 w' nn; refine Hid.out ?_))
  refine Lib.hid ?_
  have HL_v1 : Hid (W.heap.size ≤ b_v1) := Lib.hid (Blk.hi nn HD.out.size)
  have d' := nn.dn
  replace HD := Lib.hid (HD.out.trans d')
  have v1 := nn.blk
  clear d' nn
  go_wp2_with (first | (go_at_call 9; (with_reducible refine (C0.out _ (T.dn HD.out)).mono ?_); rintro e w' ⟨rfl, d'⟩; refine Hid.out ?_))
  refine Lib.hid ?_
  replace v1 := v1.dn d'
  replace HD := Lib.hid (HD.out.trans d')
  clear d'
  go_wp2_with (first | ((with_reducible refine load33 v1 hl ?_ ?_ ?_); rfl; rfl) | (go_at_call 10; (with_reducible refine (CF.out _ (hm.dn HD.out)).mono ?_); rintro e w' ⟨rfl, d'⟩; refine Hid.out ?_))
  refine Lib.hid ?_
  replace v1 := v1.dn d'
  replace HD := Lib.hid (HD.out.trans d')
  clear d'
  have ck0 := v1.halted hl
  rw [hh] at ck0
  go_wp2_with (first | (go_at_call 9; (with_reducible refine (C0.out _ (T.dn HD.out)).mono ?_); rintro e w' ⟨rfl, d'⟩; refine Hid.out ?_))
  refine Lib.hid ?_
  clear ck0
  replace v1 := v1.dn d'
  replace HD := Lib.hid (HD.out.trans d')
  clear d'
  go_wp2_with fail
  go_ret
  exact ⟨rfl, HD.out⟩
set_option maxRecDepth 100000 in
set_option maxHeartbeats 2000000 in
theorem smn_t (m : Mc) (W : World) (hm : m.Ok W) (T : Env2 W) (hx : m.xs.length ≤ 9223372036854775807) (hy : m.ys.length ≤ 9223372036854775807) (hf : decide (m.xs.length ≤ 600 ∧ m.ys.length ≤ 600) = true) (hh : m.h = false) (r : M.SRes) (k v op rd ra rb imm ki vi : Int) (b : Bool) (hr : M.stS m.c m.xs m.ys false m.t = r) (hk : r.k = k) (hv : r.v = v) (e1 : M.nw Is.M.dOp m.c m.xs = op) (e2 : M.nw Is.M.dRd m.c m.xs = rd) (e3 : M.nw Is.M.dRa m.c m.xs = ra) (e4 : M.nw Is.M.dRb m.c m.xs = rb) (e5 : M.nw Is.M.dImm m.c m.xs = imm) (e6 : M.nowK m.c m.xs = ki) (e7 : M.nowV m.c m.xs = vi) (hsu : M.sup m.c = b) (hsa : M.sup r.c = true) (hk0 : k ≠ 0) :
    Calls Tryz.prog 8 #[.agg (mach m)] W fun e W' => e = .returned (.bool true) ∧ Dn W W' := by
  have hl := hm.len
  have hc := hm.core
  have hs : m.xs.length ≤ 600 := by simp only [decide_eq_true_eq] at hf; omega
  have hn : m.ys.length ≤ 600 := by simp only [decide_eq_true_eq] at hf; omega
  have C0 := Lib.hid fun w => fun (t : Env2 w) => awakeS w t
  have CF := Lib.hid fun w => fun (ow : m.Ok w) => rfew m true w ow hx hy hf
  clear hf
  have C1 := Lib.hid fun w => fun (ow : m.Ok w) (t : Env2 w) => stRunS m m.c m.xs m.ys false m.t rfl rfl rfl hh rfl r k v hk hv (by omega) (by omega) w ow t hr
  have C2 := Lib.hid fun w => fun (ow : m.Ok w) (t : Env2 w) => stRunC m m.c m.xs rfl rfl op rd ra rb imm ki vi e1 e2 e3 e4 e5 e6 e7 (by omega) w ow t
  have hq1 : (k != 0) = true := by simpa using hk0
  clear hk0
  have CSU := Lib.hid fun w => (by have h := super_ m.c w hc; rw [hsu] at h; exact h : Calls Tryz.prog 18 #[.agg (ints .u32 m.c)] w fun e W' => e = .returned (.bool b) ∧ Dn w W')
  have CSA := Lib.hid fun (w : World) (m1 : Mc) (o1 : m1.Ok w) (f1 : Sd r m1) => (by have h := super_ m1.c w o1.core; rw [f1.c, hsa, ← f1.c] at h; exact h : Calls Tryz.prog 18 #[.agg (ints .u32 m1.c)] w fun e W' => e = .returned (.bool true) ∧ Dn w W')
  clear hr hk hv hsu hsa e1 e2 e3 e4 e5 e6 e7
  have HD := Lib.hid (Dn.refl W)
  go_enter Tryz.func8, Tryz.ntmps8
  go_wp2_with (first | ((with_reducible refine wpList_box (vs := (mach m)) ?_ ?_ ?_); rfl; rfl; intro b_v1 w' nn; refine Hid.out ?_))
  refine Lib.hid ?_
  have HL_v1 : Hid (W.heap.size ≤ b_v1) := Lib.hid (Blk.hi nn HD.out.size)
  have d' := nn.dn
  replace HD := Lib.hid (HD.out.trans d')
  have v1 := nn.blk
  clear d' nn
  go_wp2_with (first | (go_at_call 9; (with_reducible refine (C0.out _ (T.dn HD.out)).mono ?_); rintro e w' ⟨rfl, d'⟩; refine Hid.out ?_))
  refine Lib.hid ?_
  replace v1 := v1.dn d'
  replace HD := Lib.hid (HD.out.trans d')
  clear d'
  go_wp2_with (first | ((with_reducible refine load33 v1 hl ?_ ?_ ?_); rfl; rfl) | (go_at_call 10; (with_reducible refine (CF.out _ (hm.dn HD.out)).mono ?_); rintro e w' ⟨rfl, d'⟩; refine Hid.out ?_))
  refine Lib.hid ?_
  replace v1 := v1.dn d'
  replace HD := Lib.hid (HD.out.trans d')
  clear d'
  have ck0 := v1.halted hl
  rw [hh] at ck0
  go_wp2_with (first | ((with_reducible refine load33 v1 hl ?_ ?_ ?_); rfl; rfl) | (go_at_call 15; (with_reducible refine (C2.out _ (hm.dn HD.out) (T.dn HD.out)).mono ?_); rintro e w' ⟨rfl, d'⟩; refine Hid.out ?_))
  refine Lib.hid ?_
  clear ck0
  replace v1 := v1.dn d'
  replace HD := Lib.hid (HD.out.trans d')
  clear d'
  go_wp2_with (first | ((with_reducible refine wpList_alloc zeroI ?_ ?_); rfl; intro b_v3 w' nn; refine Hid.out ?_))
  refine Lib.hid ?_
  have n_v1_v3 := Lib.hid (nn.ne _ v1.lt)
  have HL_v3 : Hid (W.heap.size ≤ b_v3) := Lib.hid (Blk.hi nn HD.out.size)
  have d' := nn.dn
  replace v1 := v1.dn d'
  replace HD := Lib.hid (HD.out.trans d')
  have v3 := nn.blk
  clear d' nn
  go_wp2_with (first | ((with_reducible refine wpList_alloc zeroTrap ?_ ?_); rfl; intro b_v4 w' nn; refine Hid.out ?_))
  refine Lib.hid ?_
  have n_v1_v4 := Lib.hid (nn.ne _ v1.lt)
  have n_v3_v4 := Lib.hid (nn.ne _ v3.lt)
  have HL_v4 : Hid (W.heap.size ≤ b_v4) := Lib.hid (Blk.hi nn HD.out.size)
  have d' := nn.dn
  replace v1 := v1.dn d'
  replace v3 := v3.dn d'
  replace HD := Lib.hid (HD.out.trans d')
  have v4 := nn.blk
  clear d' nn
  go_wp2_with (first | ((with_reducible refine storeI (op := op) (rd := rd) (ra := ra) (rb := rb) (imm := imm) v3 ?_ ?_ ?_ ?_); rfl; rfl; rfl; intro w' r' t'; refine Hid.out ?_))
  refine Lib.hid ?_
  replace v1 := v1.trn t' n_v1_v3.out
  replace v4 := v4.trn t' n_v3_v4.out.symm
  replace HD := Lib.hid (HD.out.trn HL_v3.out t')
  clear t' v3
  have v3 := r'
  clear r'
  go_wp2_with (first | ((with_reducible refine storeTrap (k := ki) (v := vi) v4 ?_ ?_ ?_ ?_); rfl; rfl; rfl; intro w' r' t'; refine Hid.out ?_))
  refine Lib.hid ?_
  replace v1 := v1.trn t' n_v1_v4.out
  replace v3 := v3.trn t' n_v3_v4.out
  replace HD := Lib.hid (HD.out.trn HL_v4.out t')
  clear t' v4
  have v4 := r'
  clear r'
  go_wp2_with (first | ((with_reducible refine load33 v1 hl ?_ ?_ ?_); rfl; rfl) | (go_at_call 11; (with_reducible refine (C1.out _ (hm.dn HD.out) (T.dn HD.out)).mono ?_); rintro e w' ⟨m1, rfl, o_m1, e_m1, d'⟩; refine Hid.out ?_))
  refine Lib.hid ?_
  replace v1 := v1.dn d'
  replace v3 := v3.dn d'
  replace v4 := v4.dn d'
  replace HD := Lib.hid (HD.out.trans d')
  clear d'
  have l_m1 := o_m1.out.len
  have o_m1 := Lib.hid o_m1.out
  go_wp2_with (first | ((with_reducible refine wpList_alloc zeroMach ?_ ?_); rfl; intro b_v5 w' nn; refine Hid.out ?_))
  refine Lib.hid ?_
  have n_v1_v5 := Lib.hid (nn.ne _ v1.lt)
  have n_v3_v5 := Lib.hid (nn.ne _ v3.lt)
  have n_v4_v5 := Lib.hid (nn.ne _ v4.lt)
  have HL_v5 : Hid (W.heap.size ≤ b_v5) := Lib.hid (Blk.hi nn HD.out.size)
  have d' := nn.dn
  replace v1 := v1.dn d'
  replace v3 := v3.dn d'
  replace v4 := v4.dn d'
  replace o_m1 := Lib.hid (o_m1.out.dn d')
  replace HD := Lib.hid (HD.out.trans d')
  have v5 := nn.blk
  clear d' nn
  go_wp2_with (first | ((with_reducible refine wpList_alloc zeroTrap ?_ ?_); rfl; intro b_v6 w' nn; refine Hid.out ?_))
  refine Lib.hid ?_
  have n_v1_v6 := Lib.hid (nn.ne _ v1.lt)
  have n_v3_v6 := Lib.hid (nn.ne _ v3.lt)
  have n_v4_v6 := Lib.hid (nn.ne _ v4.lt)
  have n_v5_v6 := Lib.hid (nn.ne _ v5.lt)
  have HL_v6 : Hid (W.heap.size ≤ b_v6) := Lib.hid (Blk.hi nn HD.out.size)
  have d' := nn.dn
  replace v1 := v1.dn d'
  replace v3 := v3.dn d'
  replace v4 := v4.dn d'
  replace v5 := v5.dn d'
  replace o_m1 := Lib.hid (o_m1.out.dn d')
  replace HD := Lib.hid (HD.out.trans d')
  have v6 := nn.blk
  clear d' nn
  go_wp2_with (first | ((with_reducible refine store33 m1 l_m1 v5 zlen ?_ ?_ ?_ ?_); rfl; rfl; rfl; intro w' r' t'; refine Hid.out ?_))
  refine Lib.hid ?_
  replace o_m1 := Lib.hid (o_m1.out.trn v5 (NoU8.mach _) t')
  replace v1 := v1.trn t' n_v1_v5.out
  replace v3 := v3.trn t' n_v3_v5.out
  replace v4 := v4.trn t' n_v4_v5.out
  replace v6 := v6.trn t' n_v5_v6.out.symm
  replace HD := Lib.hid (HD.out.trn HL_v5.out t')
  clear t' v5
  have v5 := r'
  clear r'
  go_wp2_with (first | ((with_reducible refine storeTrap (k := k) (v := v) v6 ?_ ?_ ?_ ?_); rfl; rfl; rfl; intro w' r' t'; refine Hid.out ?_))
  refine Lib.hid ?_
  replace o_m1 := Lib.hid (o_m1.out.trn v6 (NoU8.trap _ _) t')
  replace v1 := v1.trn t' n_v1_v6.out
  replace v3 := v3.trn t' n_v3_v6.out
  replace v4 := v4.trn t' n_v4_v6.out
  replace v5 := v5.trn t' n_v5_v6.out
  replace HD := Lib.hid (HD.out.trn HL_v6.out t')
  clear t' v6
  have v6 := r'
  clear r'
  go_wp2_with (first | ((with_reducible refine loadCore v1 hl ?_ ?_ ?_); rfl; rfl) | (go_at_call 18; (with_reducible refine (CSU.out _).mono ?_); rintro e w' ⟨rfl, d'⟩; refine Hid.out ?_))
  refine Lib.hid ?_
  replace v1 := v1.dn d'
  replace v3 := v3.dn d'
  replace v4 := v4.dn d'
  replace v5 := v5.dn d'
  replace v6 := v6.dn d'
  replace o_m1 := Lib.hid (o_m1.out.dn d')
  replace HD := Lib.hid (HD.out.trans d')
  clear d'
  go_wp2_with (first | ((with_reducible refine loadCore v5 l_m1 ?_ ?_ ?_); rfl; rfl) | (go_at_call 18; (with_reducible refine (CSA.out _ m1 o_m1.out e_m1.out).mono ?_); rintro e w' ⟨rfl, d'⟩; refine Hid.out ?_))
  refine Lib.hid ?_
  replace v1 := v1.dn d'
  replace v3 := v3.dn d'
  replace v4 := v4.dn d'
  replace v5 := v5.dn d'
  replace v6 := v6.dn d'
  replace o_m1 := Lib.hid (o_m1.out.dn d')
  replace HD := Lib.hid (HD.out.trans d')
  clear d'
  have ck0 := v6.cell (i := 0) (v := .int .i64 k) rfl
  go_wp2_with fail
  go_ret
  exact ⟨rfl, HD.out⟩
set_option maxRecDepth 100000 in
set_option maxHeartbeats 2000000 in
theorem smn_e (m : Mc) (W : World) (hm : m.Ok W) (T : Env2 W) (hx : m.xs.length ≤ 9223372036854775807) (hy : m.ys.length ≤ 9223372036854775807) (hf : decide (m.xs.length ≤ 600 ∧ m.ys.length ≤ 600) = true) (hh : m.h = false) (r : M.SRes) (op rd ra rb imm ki vi : Int) (b : Bool) (hr : M.stS m.c m.xs m.ys false m.t = r) (hk : r.k = 0) (hv : r.v = 0) (e1 : M.nw Is.M.dOp m.c m.xs = op) (e2 : M.nw Is.M.dRd m.c m.xs = rd) (e3 : M.nw Is.M.dRa m.c m.xs = ra) (e4 : M.nw Is.M.dRb m.c m.xs = rb) (e5 : M.nw Is.M.dImm m.c m.xs = imm) (e6 : M.nowK m.c m.xs = ki) (e7 : M.nowV m.c m.xs = vi) (hsu : M.sup m.c = b) (hsa : M.sup r.c = b) :
    Calls Tryz.prog 8 #[.agg (mach m)] W fun e W' => e = .returned (.bool true) ∧ Dn W W' := by
  have hl := hm.len
  have hc := hm.core
  have hs : m.xs.length ≤ 600 := by simp only [decide_eq_true_eq] at hf; omega
  have hn : m.ys.length ≤ 600 := by simp only [decide_eq_true_eq] at hf; omega
  have C0 := Lib.hid fun w => fun (t : Env2 w) => awakeS w t
  have CF := Lib.hid fun w => fun (ow : m.Ok w) => rfew m true w ow hx hy hf
  clear hf
  have C1 := Lib.hid fun w => fun (ow : m.Ok w) (t : Env2 w) => stRunS m m.c m.xs m.ys false m.t rfl rfl rfl hh rfl r 0 0 hk hv (by omega) (by omega) w ow t hr
  have C2 := Lib.hid fun w => fun (ow : m.Ok w) (t : Env2 w) => stRunC m m.c m.xs rfl rfl op rd ra rb imm ki vi e1 e2 e3 e4 e5 e6 e7 (by omega) w ow t
  have CSU := Lib.hid fun w => (by have h := super_ m.c w hc; rw [hsu] at h; exact h : Calls Tryz.prog 18 #[.agg (ints .u32 m.c)] w fun e W' => e = .returned (.bool b) ∧ Dn w W')
  have CSA := Lib.hid fun (w : World) (m1 : Mc) (o1 : m1.Ok w) (f1 : Sd r m1) => (by have h := super_ m1.c w o1.core; rw [f1.c, hsa, ← f1.c] at h; exact h : Calls Tryz.prog 18 #[.agg (ints .u32 m1.c)] w fun e W' => e = .returned (.bool b) ∧ Dn w W')
  clear hr hk hv hsu hsa e1 e2 e3 e4 e5 e6 e7
  have HD := Lib.hid (Dn.refl W)
  go_enter Tryz.func8, Tryz.ntmps8
  go_wp2_with (first | ((with_reducible refine wpList_box (vs := (mach m)) ?_ ?_ ?_); rfl; rfl; intro b_v1 w' nn; refine Hid.out ?_))
  refine Lib.hid ?_
  have HL_v1 : Hid (W.heap.size ≤ b_v1) := Lib.hid (Blk.hi nn HD.out.size)
  have d' := nn.dn
  replace HD := Lib.hid (HD.out.trans d')
  have v1 := nn.blk
  clear d' nn
  go_wp2_with (first | (go_at_call 9; (with_reducible refine (C0.out _ (T.dn HD.out)).mono ?_); rintro e w' ⟨rfl, d'⟩; refine Hid.out ?_))
  refine Lib.hid ?_
  replace v1 := v1.dn d'
  replace HD := Lib.hid (HD.out.trans d')
  clear d'
  go_wp2_with (first | ((with_reducible refine load33 v1 hl ?_ ?_ ?_); rfl; rfl) | (go_at_call 10; (with_reducible refine (CF.out _ (hm.dn HD.out)).mono ?_); rintro e w' ⟨rfl, d'⟩; refine Hid.out ?_))
  refine Lib.hid ?_
  replace v1 := v1.dn d'
  replace HD := Lib.hid (HD.out.trans d')
  clear d'
  have ck0 := v1.halted hl
  rw [hh] at ck0
  go_wp2_with (first | ((with_reducible refine load33 v1 hl ?_ ?_ ?_); rfl; rfl) | (go_at_call 15; (with_reducible refine (C2.out _ (hm.dn HD.out) (T.dn HD.out)).mono ?_); rintro e w' ⟨rfl, d'⟩; refine Hid.out ?_))
  refine Lib.hid ?_
  clear ck0
  replace v1 := v1.dn d'
  replace HD := Lib.hid (HD.out.trans d')
  clear d'
  go_wp2_with (first | ((with_reducible refine wpList_alloc zeroI ?_ ?_); rfl; intro b_v3 w' nn; refine Hid.out ?_))
  refine Lib.hid ?_
  have n_v1_v3 := Lib.hid (nn.ne _ v1.lt)
  have HL_v3 : Hid (W.heap.size ≤ b_v3) := Lib.hid (Blk.hi nn HD.out.size)
  have d' := nn.dn
  replace v1 := v1.dn d'
  replace HD := Lib.hid (HD.out.trans d')
  have v3 := nn.blk
  clear d' nn
  go_wp2_with (first | ((with_reducible refine wpList_alloc zeroTrap ?_ ?_); rfl; intro b_v4 w' nn; refine Hid.out ?_))
  refine Lib.hid ?_
  have n_v1_v4 := Lib.hid (nn.ne _ v1.lt)
  have n_v3_v4 := Lib.hid (nn.ne _ v3.lt)
  have HL_v4 : Hid (W.heap.size ≤ b_v4) := Lib.hid (Blk.hi nn HD.out.size)
  have d' := nn.dn
  replace v1 := v1.dn d'
  replace v3 := v3.dn d'
  replace HD := Lib.hid (HD.out.trans d')
  have v4 := nn.blk
  clear d' nn
  go_wp2_with (first | ((with_reducible refine storeI (op := op) (rd := rd) (ra := ra) (rb := rb) (imm := imm) v3 ?_ ?_ ?_ ?_); rfl; rfl; rfl; intro w' r' t'; refine Hid.out ?_))
  refine Lib.hid ?_
  replace v1 := v1.trn t' n_v1_v3.out
  replace v4 := v4.trn t' n_v3_v4.out.symm
  replace HD := Lib.hid (HD.out.trn HL_v3.out t')
  clear t' v3
  have v3 := r'
  clear r'
  go_wp2_with (first | ((with_reducible refine storeTrap (k := ki) (v := vi) v4 ?_ ?_ ?_ ?_); rfl; rfl; rfl; intro w' r' t'; refine Hid.out ?_))
  refine Lib.hid ?_
  replace v1 := v1.trn t' n_v1_v4.out
  replace v3 := v3.trn t' n_v3_v4.out
  replace HD := Lib.hid (HD.out.trn HL_v4.out t')
  clear t' v4
  have v4 := r'
  clear r'
  go_wp2_with (first | ((with_reducible refine load33 v1 hl ?_ ?_ ?_); rfl; rfl) | (go_at_call 11; (with_reducible refine (C1.out _ (hm.dn HD.out) (T.dn HD.out)).mono ?_); rintro e w' ⟨m1, rfl, o_m1, e_m1, d'⟩; refine Hid.out ?_))
  refine Lib.hid ?_
  replace v1 := v1.dn d'
  replace v3 := v3.dn d'
  replace v4 := v4.dn d'
  replace HD := Lib.hid (HD.out.trans d')
  clear d'
  have l_m1 := o_m1.out.len
  have o_m1 := Lib.hid o_m1.out
  go_wp2_with (first | ((with_reducible refine wpList_alloc zeroMach ?_ ?_); rfl; intro b_v5 w' nn; refine Hid.out ?_))
  refine Lib.hid ?_
  have n_v1_v5 := Lib.hid (nn.ne _ v1.lt)
  have n_v3_v5 := Lib.hid (nn.ne _ v3.lt)
  have n_v4_v5 := Lib.hid (nn.ne _ v4.lt)
  have HL_v5 : Hid (W.heap.size ≤ b_v5) := Lib.hid (Blk.hi nn HD.out.size)
  have d' := nn.dn
  replace v1 := v1.dn d'
  replace v3 := v3.dn d'
  replace v4 := v4.dn d'
  replace o_m1 := Lib.hid (o_m1.out.dn d')
  replace HD := Lib.hid (HD.out.trans d')
  have v5 := nn.blk
  clear d' nn
  go_wp2_with (first | ((with_reducible refine wpList_alloc zeroTrap ?_ ?_); rfl; intro b_v6 w' nn; refine Hid.out ?_))
  refine Lib.hid ?_
  have n_v1_v6 := Lib.hid (nn.ne _ v1.lt)
  have n_v3_v6 := Lib.hid (nn.ne _ v3.lt)
  have n_v4_v6 := Lib.hid (nn.ne _ v4.lt)
  have n_v5_v6 := Lib.hid (nn.ne _ v5.lt)
  have HL_v6 : Hid (W.heap.size ≤ b_v6) := Lib.hid (Blk.hi nn HD.out.size)
  have d' := nn.dn
  replace v1 := v1.dn d'
  replace v3 := v3.dn d'
  replace v4 := v4.dn d'
  replace v5 := v5.dn d'
  replace o_m1 := Lib.hid (o_m1.out.dn d')
  replace HD := Lib.hid (HD.out.trans d')
  have v6 := nn.blk
  clear d' nn
  go_wp2_with (first | ((with_reducible refine store33 m1 l_m1 v5 zlen ?_ ?_ ?_ ?_); rfl; rfl; rfl; intro w' r' t'; refine Hid.out ?_))
  refine Lib.hid ?_
  replace o_m1 := Lib.hid (o_m1.out.trn v5 (NoU8.mach _) t')
  replace v1 := v1.trn t' n_v1_v5.out
  replace v3 := v3.trn t' n_v3_v5.out
  replace v4 := v4.trn t' n_v4_v5.out
  replace v6 := v6.trn t' n_v5_v6.out.symm
  replace HD := Lib.hid (HD.out.trn HL_v5.out t')
  clear t' v5
  have v5 := r'
  clear r'
  go_wp2_with (first | ((with_reducible refine storeTrap (k := 0) (v := 0) v6 ?_ ?_ ?_ ?_); rfl; rfl; rfl; intro w' r' t'; refine Hid.out ?_))
  refine Lib.hid ?_
  replace o_m1 := Lib.hid (o_m1.out.trn v6 (NoU8.trap _ _) t')
  replace v1 := v1.trn t' n_v1_v6.out
  replace v3 := v3.trn t' n_v3_v6.out
  replace v4 := v4.trn t' n_v4_v6.out
  replace v5 := v5.trn t' n_v5_v6.out
  replace HD := Lib.hid (HD.out.trn HL_v6.out t')
  clear t' v6
  have v6 := r'
  clear r'
  go_wp2_with (first | ((with_reducible refine loadCore v1 hl ?_ ?_ ?_); rfl; rfl) | (go_at_call 18; (with_reducible refine (CSU.out _).mono ?_); rintro e w' ⟨rfl, d'⟩; refine Hid.out ?_))
  refine Lib.hid ?_
  replace v1 := v1.dn d'
  replace v3 := v3.dn d'
  replace v4 := v4.dn d'
  replace v5 := v5.dn d'
  replace v6 := v6.dn d'
  replace o_m1 := Lib.hid (o_m1.out.dn d')
  replace HD := Lib.hid (HD.out.trans d')
  clear d'
  go_wp2_with (first | ((with_reducible refine loadCore v5 l_m1 ?_ ?_ ?_); rfl; rfl) | (go_at_call 18; (with_reducible refine (CSA.out _ m1 o_m1.out e_m1.out).mono ?_); rintro e w' ⟨rfl, d'⟩; refine Hid.out ?_))
  refine Lib.hid ?_
  replace v1 := v1.dn d'
  replace v3 := v3.dn d'
  replace v4 := v4.dn d'
  replace v5 := v5.dn d'
  replace v6 := v6.dn d'
  replace o_m1 := Lib.hid (o_m1.out.dn d')
  replace HD := Lib.hid (HD.out.trans d')
  clear d'
  have ck0 := v6.cell (i := 0) (v := .int .i64 0) rfl
  go_wp2_with fail
  go_ret
  exact ⟨rfl, HD.out⟩
set_option maxRecDepth 100000 in
set_option maxHeartbeats 2000000 in
theorem smn_r (m : Mc) (W : World) (hm : m.Ok W) (T : Env2 W) (hx : m.xs.length ≤ 9223372036854775807) (hy : m.ys.length ≤ 9223372036854775807) (hf : decide (m.xs.length ≤ 600 ∧ m.ys.length ≤ 600) = true) (hh : m.h = false) (r : M.SRes) (rd ra rb imm ki vi : Int) (hr : M.stS m.c m.xs m.ys false m.t = r) (hk : r.k = 0) (hv : r.v = 0) (e1 : M.nw Is.M.dOp m.c m.xs = 23) (e2 : M.nw Is.M.dRd m.c m.xs = rd) (e3 : M.nw Is.M.dRa m.c m.xs = ra) (e4 : M.nw Is.M.dRb m.c m.xs = rb) (e5 : M.nw Is.M.dImm m.c m.xs = imm) (e6 : M.nowK m.c m.xs = ki) (e7 : M.nowV m.c m.xs = vi) (hsu : M.sup m.c = true) (hsa : M.sup r.c = false) :
    Calls Tryz.prog 8 #[.agg (mach m)] W fun e W' => e = .returned (.bool true) ∧ Dn W W' := by
  have hl := hm.len
  have hc := hm.core
  have hs : m.xs.length ≤ 600 := by simp only [decide_eq_true_eq] at hf; omega
  have hn : m.ys.length ≤ 600 := by simp only [decide_eq_true_eq] at hf; omega
  have C0 := Lib.hid fun w => fun (t : Env2 w) => awakeS w t
  have CF := Lib.hid fun w => fun (ow : m.Ok w) => rfew m true w ow hx hy hf
  clear hf
  have C1 := Lib.hid fun w => fun (ow : m.Ok w) (t : Env2 w) => stRunS m m.c m.xs m.ys false m.t rfl rfl rfl hh rfl r 0 0 hk hv (by omega) (by omega) w ow t hr
  have C2 := Lib.hid fun w => fun (ow : m.Ok w) (t : Env2 w) => stRunC m m.c m.xs rfl rfl 23 rd ra rb imm ki vi e1 e2 e3 e4 e5 e6 e7 (by omega) w ow t
  have CSU := Lib.hid fun w => (by have h := super_ m.c w hc; rw [hsu] at h; exact h : Calls Tryz.prog 18 #[.agg (ints .u32 m.c)] w fun e W' => e = .returned (.bool true) ∧ Dn w W')
  have CSA := Lib.hid fun (w : World) (m1 : Mc) (o1 : m1.Ok w) (f1 : Sd r m1) => (by have h := super_ m1.c w o1.core; rw [f1.c, hsa, ← f1.c] at h; exact h : Calls Tryz.prog 18 #[.agg (ints .u32 m1.c)] w fun e W' => e = .returned (.bool false) ∧ Dn w W')
  clear hr hk hv hsu hsa e1 e2 e3 e4 e5 e6 e7
  have HD := Lib.hid (Dn.refl W)
  go_enter Tryz.func8, Tryz.ntmps8
  go_wp2_with (first | ((with_reducible refine wpList_box (vs := (mach m)) ?_ ?_ ?_); rfl; rfl; intro b_v1 w' nn; refine Hid.out ?_))
  refine Lib.hid ?_
  have HL_v1 : Hid (W.heap.size ≤ b_v1) := Lib.hid (Blk.hi nn HD.out.size)
  have d' := nn.dn
  replace HD := Lib.hid (HD.out.trans d')
  have v1 := nn.blk
  clear d' nn
  go_wp2_with (first | (go_at_call 9; (with_reducible refine (C0.out _ (T.dn HD.out)).mono ?_); rintro e w' ⟨rfl, d'⟩; refine Hid.out ?_))
  refine Lib.hid ?_
  replace v1 := v1.dn d'
  replace HD := Lib.hid (HD.out.trans d')
  clear d'
  go_wp2_with (first | ((with_reducible refine load33 v1 hl ?_ ?_ ?_); rfl; rfl) | (go_at_call 10; (with_reducible refine (CF.out _ (hm.dn HD.out)).mono ?_); rintro e w' ⟨rfl, d'⟩; refine Hid.out ?_))
  refine Lib.hid ?_
  replace v1 := v1.dn d'
  replace HD := Lib.hid (HD.out.trans d')
  clear d'
  have ck0 := v1.halted hl
  rw [hh] at ck0
  go_wp2_with (first | ((with_reducible refine load33 v1 hl ?_ ?_ ?_); rfl; rfl) | (go_at_call 15; (with_reducible refine (C2.out _ (hm.dn HD.out) (T.dn HD.out)).mono ?_); rintro e w' ⟨rfl, d'⟩; refine Hid.out ?_))
  refine Lib.hid ?_
  clear ck0
  replace v1 := v1.dn d'
  replace HD := Lib.hid (HD.out.trans d')
  clear d'
  go_wp2_with (first | ((with_reducible refine wpList_alloc zeroI ?_ ?_); rfl; intro b_v3 w' nn; refine Hid.out ?_))
  refine Lib.hid ?_
  have n_v1_v3 := Lib.hid (nn.ne _ v1.lt)
  have HL_v3 : Hid (W.heap.size ≤ b_v3) := Lib.hid (Blk.hi nn HD.out.size)
  have d' := nn.dn
  replace v1 := v1.dn d'
  replace HD := Lib.hid (HD.out.trans d')
  have v3 := nn.blk
  clear d' nn
  go_wp2_with (first | ((with_reducible refine wpList_alloc zeroTrap ?_ ?_); rfl; intro b_v4 w' nn; refine Hid.out ?_))
  refine Lib.hid ?_
  have n_v1_v4 := Lib.hid (nn.ne _ v1.lt)
  have n_v3_v4 := Lib.hid (nn.ne _ v3.lt)
  have HL_v4 : Hid (W.heap.size ≤ b_v4) := Lib.hid (Blk.hi nn HD.out.size)
  have d' := nn.dn
  replace v1 := v1.dn d'
  replace v3 := v3.dn d'
  replace HD := Lib.hid (HD.out.trans d')
  have v4 := nn.blk
  clear d' nn
  go_wp2_with (first | ((with_reducible refine storeI (op := 23) (rd := rd) (ra := ra) (rb := rb) (imm := imm) v3 ?_ ?_ ?_ ?_); rfl; rfl; rfl; intro w' r' t'; refine Hid.out ?_))
  refine Lib.hid ?_
  replace v1 := v1.trn t' n_v1_v3.out
  replace v4 := v4.trn t' n_v3_v4.out.symm
  replace HD := Lib.hid (HD.out.trn HL_v3.out t')
  clear t' v3
  have v3 := r'
  clear r'
  go_wp2_with (first | ((with_reducible refine storeTrap (k := ki) (v := vi) v4 ?_ ?_ ?_ ?_); rfl; rfl; rfl; intro w' r' t'; refine Hid.out ?_))
  refine Lib.hid ?_
  replace v1 := v1.trn t' n_v1_v4.out
  replace v3 := v3.trn t' n_v3_v4.out
  replace HD := Lib.hid (HD.out.trn HL_v4.out t')
  clear t' v4
  have v4 := r'
  clear r'
  go_wp2_with (first | ((with_reducible refine load33 v1 hl ?_ ?_ ?_); rfl; rfl) | (go_at_call 11; (with_reducible refine (C1.out _ (hm.dn HD.out) (T.dn HD.out)).mono ?_); rintro e w' ⟨m1, rfl, o_m1, e_m1, d'⟩; refine Hid.out ?_))
  refine Lib.hid ?_
  replace v1 := v1.dn d'
  replace v3 := v3.dn d'
  replace v4 := v4.dn d'
  replace HD := Lib.hid (HD.out.trans d')
  clear d'
  have l_m1 := o_m1.out.len
  have o_m1 := Lib.hid o_m1.out
  go_wp2_with (first | ((with_reducible refine wpList_alloc zeroMach ?_ ?_); rfl; intro b_v5 w' nn; refine Hid.out ?_))
  refine Lib.hid ?_
  have n_v1_v5 := Lib.hid (nn.ne _ v1.lt)
  have n_v3_v5 := Lib.hid (nn.ne _ v3.lt)
  have n_v4_v5 := Lib.hid (nn.ne _ v4.lt)
  have HL_v5 : Hid (W.heap.size ≤ b_v5) := Lib.hid (Blk.hi nn HD.out.size)
  have d' := nn.dn
  replace v1 := v1.dn d'
  replace v3 := v3.dn d'
  replace v4 := v4.dn d'
  replace o_m1 := Lib.hid (o_m1.out.dn d')
  replace HD := Lib.hid (HD.out.trans d')
  have v5 := nn.blk
  clear d' nn
  go_wp2_with (first | ((with_reducible refine wpList_alloc zeroTrap ?_ ?_); rfl; intro b_v6 w' nn; refine Hid.out ?_))
  refine Lib.hid ?_
  have n_v1_v6 := Lib.hid (nn.ne _ v1.lt)
  have n_v3_v6 := Lib.hid (nn.ne _ v3.lt)
  have n_v4_v6 := Lib.hid (nn.ne _ v4.lt)
  have n_v5_v6 := Lib.hid (nn.ne _ v5.lt)
  have HL_v6 : Hid (W.heap.size ≤ b_v6) := Lib.hid (Blk.hi nn HD.out.size)
  have d' := nn.dn
  replace v1 := v1.dn d'
  replace v3 := v3.dn d'
  replace v4 := v4.dn d'
  replace v5 := v5.dn d'
  replace o_m1 := Lib.hid (o_m1.out.dn d')
  replace HD := Lib.hid (HD.out.trans d')
  have v6 := nn.blk
  clear d' nn
  go_wp2_with (first | ((with_reducible refine store33 m1 l_m1 v5 zlen ?_ ?_ ?_ ?_); rfl; rfl; rfl; intro w' r' t'; refine Hid.out ?_))
  refine Lib.hid ?_
  replace o_m1 := Lib.hid (o_m1.out.trn v5 (NoU8.mach _) t')
  replace v1 := v1.trn t' n_v1_v5.out
  replace v3 := v3.trn t' n_v3_v5.out
  replace v4 := v4.trn t' n_v4_v5.out
  replace v6 := v6.trn t' n_v5_v6.out.symm
  replace HD := Lib.hid (HD.out.trn HL_v5.out t')
  clear t' v5
  have v5 := r'
  clear r'
  go_wp2_with (first | ((with_reducible refine storeTrap (k := 0) (v := 0) v6 ?_ ?_ ?_ ?_); rfl; rfl; rfl; intro w' r' t'; refine Hid.out ?_))
  refine Lib.hid ?_
  replace o_m1 := Lib.hid (o_m1.out.trn v6 (NoU8.trap _ _) t')
  replace v1 := v1.trn t' n_v1_v6.out
  replace v3 := v3.trn t' n_v3_v6.out
  replace v4 := v4.trn t' n_v4_v6.out
  replace v5 := v5.trn t' n_v5_v6.out
  replace HD := Lib.hid (HD.out.trn HL_v6.out t')
  clear t' v6
  have v6 := r'
  clear r'
  go_wp2_with (first | ((with_reducible refine loadCore v1 hl ?_ ?_ ?_); rfl; rfl) | (go_at_call 18; (with_reducible refine (CSU.out _).mono ?_); rintro e w' ⟨rfl, d'⟩; refine Hid.out ?_))
  refine Lib.hid ?_
  replace v1 := v1.dn d'
  replace v3 := v3.dn d'
  replace v4 := v4.dn d'
  replace v5 := v5.dn d'
  replace v6 := v6.dn d'
  replace o_m1 := Lib.hid (o_m1.out.dn d')
  replace HD := Lib.hid (HD.out.trans d')
  clear d'
  go_wp2_with (first | ((with_reducible refine loadCore v5 l_m1 ?_ ?_ ?_); rfl; rfl) | (go_at_call 18; (with_reducible refine (CSA.out _ m1 o_m1.out e_m1.out).mono ?_); rintro e w' ⟨rfl, d'⟩; refine Hid.out ?_))
  refine Lib.hid ?_
  replace v1 := v1.dn d'
  replace v3 := v3.dn d'
  replace v4 := v4.dn d'
  replace v5 := v5.dn d'
  replace v6 := v6.dn d'
  replace o_m1 := Lib.hid (o_m1.out.dn d')
  replace HD := Lib.hid (HD.out.trans d')
  clear d'
  have ck0 := v6.cell (i := 0) (v := .int .i64 0) rfl
  have ck1 := v3.iop
  go_wp2_with fail
  go_ret
  exact ⟨rfl, HD.out⟩
theorem smnWalk (m : Mc) (W : World) (hm : m.Ok W) (T : Env2 W) (hx : m.xs.length ≤ 9223372036854775807) (hy : m.ys.length ≤ 9223372036854775807) : Calls Tryz.prog 8 #[.agg (mach m)] W fun e W' => e = .returned (.bool true) ∧ Dn W W' := by
  cases hf : decide (m.xs.length ≤ 600 ∧ m.ys.length ≤ 600)
  · exact smn_few m W hm T hx hy hf
  · cases hh : m.h
    · have hc := hm.core
      have F := M.stS_f (c := m.c) (xs := m.xs) (ys := m.ys) (t := m.t) hc (fw_rng hm)
      by_cases hk : (M.stS m.c m.xs m.ys false m.t).k = 0
      · have hv := (F.go hk).1
        rcases M.stS_mode hc hk with hm1 | ⟨h1, h2, h3⟩
        · exact smn_e m W hm T hx hy hf hh _ _ _ _ _ _ _ _ _ rfl hk hv rfl rfl rfl rfl rfl rfl rfl rfl hm1
        · cases hsa : M.sup (M.stS m.c m.xs m.ys false m.t).c
          · exact smn_r m W hm T hx hy hf hh _ _ _ _ _ _ _ rfl hk hv (by rw [M.nw_go _ h2]; exact h3) rfl rfl rfl rfl rfl rfl h1 hsa
          · exact smn_e m W hm T hx hy hf hh _ _ _ _ _ _ _ _ _ rfl hk hv rfl rfl rfl rfl rfl rfl rfl h1 hsa
      · obtain ⟨fc, _, _, _, v0, v1⟩ := F.trap hk
        exact smn_t m W hm T hx hy hf hh _ _ _ _ _ _ _ _ _ _ _ rfl rfl rfl rfl rfl rfl rfl rfl rfl rfl rfl (by rw [fc]; exact M.en_sup hc hk v0 v1) hk
    · exact smn_h m W hm T hx hy hf hh
end Go.Proofs.YtjbnflalngjfaaaGreatDoor
namespace Go.Proofs.YtjbnflalngjfaaaGreatDoor.stepModeNeverRises
open Go.ChangeShapes Go.WideShapes Go.ChangeAt Go.RowKit
set_option linter.unusedVariables false


theorem readable : ∀ t ∈ Tryz.f8.params.toList, Tryz.prog.readableRec t = true ∧ t < Tryz.prog.types.size := by
  rw [Tryz.params8]
  intro t ht
  have hall : ([30].all fun t => Tryz.prog.readableRec t && decide (t < Tryz.prog.types.size)) = true := by kernel_rfl
  have h := List.all_eq_true.1 hall t ht
  simp only [Bool.and_eq_true, decide_eq_true_eq] at h
  exact h

theorem said (H : Type) (ds : List (DataW H)) (hl : ds.length = Tryz.f8.params.size) : (Rows.stepModeNeverRisesSpec.fn H ds).results = [.lit (.bool true)] ∧ (Rows.stepModeNeverRisesSpec.fn H ds).args = ds ∧ (Rows.stepModeNeverRisesSpec.fn H ds).vars = [] := by
  rw [Tryz.params8] at hl
  match ds, hl with
  | [d0], _ => exact ⟨rfl, rfl, rfl⟩

set_option maxRecDepth 100000 in
theorem walk {H : Type} {enc : TypeId × Value → H} (W : World) (base : Nat) (args : Array Value) (ds : List (DataW H)) (ps : List MemPlace) (E : Env W)
    (hval : ∀ (j : Nat) t v, Tryz.f8.params[j]? = some t → args[j]? = some v → Value.okWide Tryz.prog W .any base t v)
    (hA : DataW.TrodAll enc Tryz.prog W 0 (fun _ => true) true Tryz.f8.params.toList args.toList ds ps) :
    Calls Tryz.prog 8 args W fun e W' => e = .returned (.bool true) ∧ Dn W W' := by
  rw [Tryz.params8] at hA hval
  obtain ⟨v0, vs0, d0, ds0, p0, q0, hargs, rfl, rfl, h0, r0⟩ := trodAll_cons hA
  obtain ⟨rfl, rfl, rfl⟩ := trodAll_nil r0
  obtain rfl : args = #[v0] := by cases args; simp_all
  obtain ⟨m0, rfl, o0, l0, y0⟩ := open33 (hval 0 30 v0 rfl rfl) h0
  exact smnWalk m0 W o0 E.two  l0 y0  

set_option maxRecDepth 100000 in
theorem lifted (os : Os) (started : os.Started) (H : Type) (enc : TypeId × Value → H) :
    ReturnsInHanded {} Tryz.checked os 8 .any (fun w args => (Rows.stepModeNeverRisesSpec.pre enc Tryz.prog Tryz.f8 [] false w args ∧ laidMetH Tryz.prog laidL w) ∧ sizedMet enc Tryz.prog Tryz.f8 (OpenSpec.ofChange Rows.stepModeNeverRisesSpec) false w args)
      (Rows.stepModeNeverRisesSpec.post enc Tryz.prog Tryz.f8 false true false false) :=
  returns_of_walk (C := Tryz.checked) rfl own started (by kernel_rfl) Tryz.func8 rfl readable (by kernel_rfl) said
    (ChangeSpec.witness_shaped (enc := enc) (C := Tryz.checked) (os := os) (X := fun w _ => laidMetH Tryz.prog laidL w) false (World.laidAll Tryz.prog os laidL) #[.agg #[.int .u32 0, .int .u32 0, .int .u32 0, .int .u32 0, .int .u32 0, .int .u32 0, .int .u32 0, .int .u32 0, .int .u32 0, .int .u32 0, .int .u32 0, .int .u32 0, .int .u32 0, .int .u32 0, .int .u32 0, .int .u32 0, .int .u32 0, .int .u32 0, .int .u32 0, .int .u32 0, .int .u32 0, .int .u32 0, .int .u32 0, .int .u32 0, .int .u32 0, .int .u32 0, .int .u32 0, .int .u32 0, .int .u32 0, .slice none 0 0, .int .u64 0, .slice none 0 0, .bool false]] 8 (World.laidAll_os _ _ _)
      (start_shaped os _) (by kernel_rfl) (by kernel_rfl) (by kernel_rfl) (start_met os _)) walk

theorem over : Rows.StepModeNeverRisesSaid :=
  OpenClaim.holds_of_wide 8 Tryz.f8 rfl rfl rfl rfl rfl rfl rfl ⟨rfl, rfl, rfl, rfl, rfl⟩ rfl rfl rfl rfl rfl (by kernel_rfl) Tryz.func8 (by kernel_rfl)
    (of_decide_eq_true (by kernel_rfl)) (by unfold Func.isWrapper; first | (rw [if_pos (by decide +kernel)]; kernel_rfl) | (rw [if_neg (by decide +kernel)]; exact ⟨rfl, rfl⟩))
    (fun os started H enc _ => lifted os started H enc)

/-- THE STATEMENT -/
theorem proved : Rows.StepModeNeverRisesCardSaid :=
  Claim7.holds_tied_plain_at .later [] [.data, .data, .data] true (true, "8ffe0c46f9e92efb28c84b61b42d6714ec4442e8e8d9bdcf048d53b195bf4d9d") false
    over (fun _ h => by cases h) (by kernel_rfl) (fun _ h => by cases h) stepModeNeverRises_row_tie rfl ⟨rfl, rfl⟩ (by kernel_rfl) rfl
    (fun f fn hf hfn => by
      obtain rfl : f = 8 := Option.some.inj ((show Tryz.prog.funcNamed "gaoler/gaolerlaw13.StepModeNeverRises" = some 8 by kernel_rfl).symm.trans hf) |>.symm
      obtain rfl : fn = Tryz.f8 := (Option.some.inj (Tryz.func8.symm.trans hfn)).symm
      exact ⟨by kernel_rfl, fun j t ht => by
        rw [Tryz.params8] at ht
        have hm : t ∈ [30] := by simpa using Array.mem_of_getElem? ht
        have hall : ([30].all fun u => !Tryz.prog.wantsStandIn u) = true := by kernel_rfl
        exact (show Tryz.prog.wantsStandIn t = false by simpa using List.all_eq_true.1 hall t hm)⟩)
    (by kernel_rfl)
#print axioms proved
end Go.Proofs.YtjbnflalngjfaaaGreatDoor.stepModeNeverRises
