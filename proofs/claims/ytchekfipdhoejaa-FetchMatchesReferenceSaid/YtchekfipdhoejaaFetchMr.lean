/-
  'FetchMatchesReference' returns true at every input: the walk. Conditions: the machine is one that can come in.
-/
import Derived.Test.YtchekfipdhoejaaFetchAwake
namespace Go.Proofs.Ytchekfipdhoejaa
open Go.ChangeShapes Go.WideShapes Go.ChangeAt Go.RowKit Go.Sort
set_option linter.unusedVariables false

set_option maxRecDepth 100000 in
set_option maxHeartbeats 2000000 in
theorem lMr_no (m : Mc) (a : Int) (a0 : 0 ≤ a) (a1 : a < 4294967296) (b : Bool) (v : Int) (v0 : 0 ≤ v) (v1 : v < 4294967296) (W : World) (hm : m.Ok W) (hx : m.xs.length ≤ 9223372036854775807) (hy : m.ys.length ≤ 9223372036854775807) (hb : ¬ (m.xs.length ≤ 600 ∧ m.ys.length ≤ 600)) :
    Calls Try.prog 3 #[.agg (mach m), .int .u32 a, .bool b, .int .u32 v] W fun e W' => e = .returned (.bool true) ∧ Dn W W' := by
  have hl := hm.len
  have om := Lib.hid hm
  have C0 := Lib.hid fun w => awake w
  have CF := Lib.hid fun w => fun (ow : m.Ok w) => rfew m false w ow hx hy (decide_eq_false hb)
  clear hb
  have HD := Lib.hid (Dn.refl W)
  obtain ⟨x0, b_r, hw0, hb0, r, d', nn⟩ := new_blk W 30 (mach m)
  have HL_r : Hid (W.heap.size ≤ b_r) := Lib.hid (by have := HD.out.size; omega)
  clear nn
  replace om := Lib.hid (om.out.dn d')
  replace HD := Lib.hid (HD.out.trans d')
  clear d'
  go_enter Try.func3, Try.ntmps3
  go_wp2_with fail
  rw [← hw0, ← hb0]
  clear hw0 hb0
  go_wp2_with (first | ((with_reducible refine load33 r hl ?_ ?_ ?_); rfl; rfl) | ((with_reducible refine loadCore r hl ?_ ?_ ?_); rfl; rfl) | ((with_reducible refine loadCsr r hl ?_ ?_ ?_); rfl; rfl) | (go_at_call 9; (first | (with_reducible refine (C0.out _).mono ?_)); rintro e w' ⟨rfl, d'⟩; replace r := r.dn d'; replace om := Lib.hid (om.out.dn d'); replace HD := Lib.hid (HD.out.trans d'); clear d') | (go_at_call 10; (first | (with_reducible refine (CF.out _ om.out).mono ?_)); rintro e w' ⟨rfl, d'⟩; replace r := r.dn d'; replace om := Lib.hid (om.out.dn d'); replace HD := Lib.hid (HD.out.trans d'); clear d'))
  go_ret
  exact ⟨rfl, HD.out⟩
set_option maxRecDepth 100000 in
set_option maxHeartbeats 2000000 in
theorem lMr_yes (m : Mc) (a : Int) (a0 : 0 ≤ a) (a1 : a < 4294967296) (b : Bool) (v : Int) (v0 : 0 ≤ v) (v1 : v < 4294967296) (W : World) (hm : m.Ok W) (hx : m.xs.length ≤ 600) (hy : m.ys.length ≤ 600) (n : Int) (hn : (if b = true then 4 else 1 : Int) = n) (n0 : 1 ≤ n) (n1 : n ≤ 4) :
    Calls Try.prog 3 #[.agg (mach m), .int .u32 a, .bool b, .int .u32 v] W fun e W' => e = .returned (.bool true) ∧ Dn W W' := by
  have hl := hm.len
  have om := Lib.hid hm
  have C0 := Lib.hid fun w => awake w
  have CF := Lib.hid fun w => fun (ow : m.Ok w) => rfew m true w ow (by omega) (by omega) (decide_eq_true ⟨hx, hy⟩)
  have hp := M.core_pc hm.core
  obtain ⟨p, e_p⟩ : ∃ x, M.apa m.c m.xs.length a n = x := ⟨_, rfl⟩
  obtain ⟨k, e_k⟩ : ∃ x, M.acz m.c m.xs.length a n = x := ⟨_, rfl⟩
  obtain ⟨y, e_y⟩ : ∃ x, M.atv m.c m.xs.length a n = x := ⟨_, rfl⟩
  obtain ⟨x, e_x⟩ : ∃ x, M.alv m.c m.xs a n = x := ⟨_, rfl⟩
  obtain ⟨zs, e_zs⟩ : ∃ x, M.asv m.c m.xs a n v = x := ⟨_, rfl⟩
  obtain ⟨xp, e_xp⟩ : ∃ x, M.alv m.c m.xs (M.pc m.c) 4 = x := ⟨_, rfl⟩
  obtain ⟨kp, e_kp⟩ : ∃ x, M.acz m.c m.xs.length (M.pc m.c) 4 = x := ⟨_, rfl⟩
  obtain ⟨yp, e_yp⟩ : ∃ x, M.atv m.c m.xs.length (M.pc m.c) 4 = x := ⟨_, rfl⟩
  obtain ⟨D, e_D⟩ : ∃ x, M.due m.c m.t = x := ⟨_, rfl⟩
  have CS := Lib.hid fun w => size_ b n w hn
  have C1 := Lib.hid fun w => fun (ow : m.Ok w) => resolve m a n p k y w ow (by omega) a0 a1 n0 n1 e_p e_k e_y
  have C2 := Lib.hid fun w => fun (ow : m.Ok w) => rcell m a n p k y w ow (by omega) a0 a1 n0 n1 e_p e_k e_y
  have C3 := Lib.hid fun w => fun (ow : m.Ok w) => fload m a n w ow (by omega) a0 a1 n0 n1 x k y e_x e_k e_y
  have C4 := Lib.hid fun w => fun (ow : m.Ok w) => rfload m a n w ow (by omega) a0 a1 n0 n1 x k y e_x e_k e_y
  have C5 := Lib.hid fun w => fun (ow : m.Ok w) => ffetch m w ow (by omega) xp kp yp e_xp e_kp e_yp
  have C6 := Lib.hid fun w => fun (ow : m.Ok w) => rfload m (M.pc m.c) 4 w ow (by omega) hp.1 hp.2 (by decide) (by decide) xp kp yp e_xp e_kp e_yp
  have C7 := Lib.hid fun w => fun (ow : m.Ok w) => fstore m a n v w ow (by omega) a0 a1 n0 n1 v0 v1 zs k y e_zs e_k e_y
  have C8 := Lib.hid fun w => fun (ow : m.Ok w) => rfstore m a n v w ow (by omega) a0 a1 n0 n1 v0 v1 zs k y e_zs e_k e_y
  have T1 := Lib.hid fun w => fun (ow : m.Ok w) => fpend m w ow
  have T2 := Lib.hid fun w => fun (ow : m.Ok w) => rdue m w ow
  rw [e_D] at T1 T2
  have zl : Hid (zs.length = m.xs.length) := Lib.hid (by rw [← e_zs, M.asv_len])
  have q1 : ∀ w, (Op.equalIn 10000 35 (.agg #[.int .i64 k, .int .u32 y]) (.agg #[.int .i64 k, .int .u32 y])).run Try.prog w = .ok true w := fun w => by rw [eqTrap]; exact congrArg (fun b => Result.ok b w) (by simp)
  have q2 : ∀ w, (Op.equalIn 10000 35 (.agg #[.int .i64 kp, .int .u32 yp]) (.agg #[.int .i64 kp, .int .u32 yp])).run Try.prog w = .ok true w := fun w => by rw [eqTrap]; exact congrArg (fun b => Result.ok b w) (by simp)
  have f1 : (p == p) = true := by simp
  have f2 : (x == x) = true := by simp
  have f3 : (xp == xp) = true := by simp
  have f4 : (D == D) = true := by simp
  clear e_p e_k e_y e_x e_zs e_xp e_kp e_yp e_D hp
  have HD := Lib.hid (Dn.refl W)
  obtain ⟨x0, b_r, hw0, hb0, r, d', nn⟩ := new_blk W 30 (mach m)
  have HL_r : Hid (W.heap.size ≤ b_r) := Lib.hid (by have := HD.out.size; omega)
  clear nn
  replace om := Lib.hid (om.out.dn d')
  replace HD := Lib.hid (HD.out.trans d')
  clear d'
  go_enter Try.func3, Try.ntmps3
  go_wp2_with fail
  rw [← hw0, ← hb0]
  clear hw0 hb0
  have c0 := r.pc hl
  go_wp2_with (first | ((with_reducible refine load33 r hl ?_ ?_ ?_); rfl; rfl) | ((with_reducible refine loadCore r hl ?_ ?_ ?_); rfl; rfl) | ((with_reducible refine loadCsr r hl ?_ ?_ ?_); rfl; rfl) | (go_at_call 9; (first | (with_reducible refine (C0.out _).mono ?_)); rintro e w' ⟨rfl, d'⟩; replace r := r.dn d'; replace om := Lib.hid (om.out.dn d'); replace HD := Lib.hid (HD.out.trans d'); replace c0 := r.pc hl; clear d') | (go_at_call 10; (first | (with_reducible refine (CF.out _ om.out).mono ?_)); rintro e w' ⟨rfl, d'⟩; replace r := r.dn d'; replace om := Lib.hid (om.out.dn d'); replace HD := Lib.hid (HD.out.trans d'); replace c0 := r.pc hl; clear d') | (go_at_call 11; (first | (with_reducible refine (CS.out _).mono ?_)); rintro e w' ⟨rfl, rfl⟩) | (go_at_call 12; (first | (with_reducible refine (C1.out _ om.out).mono ?_)); rintro e w' ⟨rfl, d'⟩; replace r := r.dn d'; replace om := Lib.hid (om.out.dn d'); replace HD := Lib.hid (HD.out.trans d'); replace c0 := r.pc hl; clear d') | ((with_reducible refine allocTrap (b := w'.heap.size) rfl ?_ ?_); rfl; refine Hid.out ?_))
  refine Lib.hid ?_
  obtain ⟨x', b_t, hw, hb, t, d', nn⟩ := new_blk w' 35 #[.int .i64 0, .int .u32 0]
  have n_r_t := Lib.hid (nn _ r.lt)
  have HL_t : Hid (W.heap.size ≤ b_t) := Lib.hid (by have := HD.out.size; omega)
  rw [← hw, ← hb]
  clear hw hb nn
  replace r := r.dn d'
  replace om := Lib.hid (om.out.dn d')
  replace HD := Lib.hid (HD.out.trans d')
  replace c0 := r.pc hl
  clear d'
  go_wp2_with (first | ((with_reducible refine load33 r hl ?_ ?_ ?_); rfl; rfl) | ((with_reducible refine loadCore r hl ?_ ?_ ?_); rfl; rfl) | ((with_reducible refine loadCsr r hl ?_ ?_ ?_); rfl; rfl) | ((with_reducible refine loadTrap t ?_ ?_ ?_); rfl; rfl) | ((with_reducible refine storeTrap (k := k) (v := y) t ?_ ?_ ?_ ?_); rfl; rfl; rfl; intro w' r' t'; refine Hid.out ?_))
  refine Lib.hid ?_
  replace om := Lib.hid (om.out.trn t (NoU8.trap _ _) t')
  replace r := r.trn t' n_r_t.out
  replace HD := Lib.hid (HD.out.trn HL_t.out t')
  clear t' t
  have t := r'
  clear r'
  replace c0 := r.pc hl
  go_wp2_with (first | ((with_reducible refine load33 r hl ?_ ?_ ?_); rfl; rfl) | ((with_reducible refine loadCore r hl ?_ ?_ ?_); rfl; rfl) | ((with_reducible refine loadCsr r hl ?_ ?_ ?_); rfl; rfl) | ((with_reducible refine loadTrap t ?_ ?_ ?_); rfl; rfl) | (go_at_call 13; (first | (with_reducible refine (C2.out _ om.out).mono ?_)); rintro e w' ⟨rfl, d'⟩; replace r := r.dn d'; replace t := t.dn d'; replace om := Lib.hid (om.out.dn d'); replace HD := Lib.hid (HD.out.trans d'); replace c0 := r.pc hl; clear d') | ((with_reducible refine allocTrap (b := w'.heap.size) rfl ?_ ?_); rfl; refine Hid.out ?_))
  refine Lib.hid ?_
  obtain ⟨x', b_u, hw, hb, u, d', nn⟩ := new_blk w' 35 #[.int .i64 0, .int .u32 0]
  have n_r_u := Lib.hid (nn _ r.lt)
  have n_t_u := Lib.hid (nn _ t.lt)
  have HL_u : Hid (W.heap.size ≤ b_u) := Lib.hid (by have := HD.out.size; omega)
  rw [← hw, ← hb]
  clear hw hb nn
  replace r := r.dn d'
  replace t := t.dn d'
  replace om := Lib.hid (om.out.dn d')
  replace HD := Lib.hid (HD.out.trans d')
  replace c0 := r.pc hl
  clear d'
  go_wp2_with (first | ((with_reducible refine load33 r hl ?_ ?_ ?_); rfl; rfl) | ((with_reducible refine loadCore r hl ?_ ?_ ?_); rfl; rfl) | ((with_reducible refine loadCsr r hl ?_ ?_ ?_); rfl; rfl) | ((with_reducible refine loadTrap t ?_ ?_ ?_); rfl; rfl) | ((with_reducible refine loadTrap u ?_ ?_ ?_); rfl; rfl) | ((with_reducible refine storeTrap (k := k) (v := y) u ?_ ?_ ?_ ?_); rfl; rfl; rfl; intro w' r' t'; refine Hid.out ?_))
  refine Lib.hid ?_
  replace om := Lib.hid (om.out.trn u (NoU8.trap _ _) t')
  replace r := r.trn t' n_r_u.out
  replace t := t.trn t' n_t_u.out
  replace HD := Lib.hid (HD.out.trn HL_u.out t')
  clear t' u
  have u := r'
  clear r'
  replace c0 := r.pc hl
  go_wp2_with (first | ((with_reducible refine load33 r hl ?_ ?_ ?_); rfl; rfl) | ((with_reducible refine loadCore r hl ?_ ?_ ?_); rfl; rfl) | ((with_reducible refine loadCsr r hl ?_ ?_ ?_); rfl; rfl) | ((with_reducible refine loadTrap t ?_ ?_ ?_); rfl; rfl) | ((with_reducible refine loadTrap u ?_ ?_ ?_); rfl; rfl) | (go_at_call 14; (first | (with_reducible refine (C3.out _ om.out).mono ?_)); rintro e w' ⟨rfl, d'⟩; replace r := r.dn d'; replace t := t.dn d'; replace u := u.dn d'; replace om := Lib.hid (om.out.dn d'); replace HD := Lib.hid (HD.out.trans d'); replace c0 := r.pc hl; clear d') | ((with_reducible refine allocTrap (b := w'.heap.size) rfl ?_ ?_); rfl; refine Hid.out ?_))
  refine Lib.hid ?_
  obtain ⟨x', b_f, hw, hb, f, d', nn⟩ := new_blk w' 35 #[.int .i64 0, .int .u32 0]
  have n_r_f := Lib.hid (nn _ r.lt)
  have n_t_f := Lib.hid (nn _ t.lt)
  have n_u_f := Lib.hid (nn _ u.lt)
  have HL_f : Hid (W.heap.size ≤ b_f) := Lib.hid (by have := HD.out.size; omega)
  rw [← hw, ← hb]
  clear hw hb nn
  replace r := r.dn d'
  replace t := t.dn d'
  replace u := u.dn d'
  replace om := Lib.hid (om.out.dn d')
  replace HD := Lib.hid (HD.out.trans d')
  replace c0 := r.pc hl
  clear d'
  go_wp2_with (first | ((with_reducible refine load33 r hl ?_ ?_ ?_); rfl; rfl) | ((with_reducible refine loadCore r hl ?_ ?_ ?_); rfl; rfl) | ((with_reducible refine loadCsr r hl ?_ ?_ ?_); rfl; rfl) | ((with_reducible refine loadTrap t ?_ ?_ ?_); rfl; rfl) | ((with_reducible refine loadTrap u ?_ ?_ ?_); rfl; rfl) | ((with_reducible refine loadTrap f ?_ ?_ ?_); rfl; rfl) | ((with_reducible refine storeTrap (k := k) (v := y) f ?_ ?_ ?_ ?_); rfl; rfl; rfl; intro w' r' t'; refine Hid.out ?_))
  refine Lib.hid ?_
  replace om := Lib.hid (om.out.trn f (NoU8.trap _ _) t')
  replace r := r.trn t' n_r_f.out
  replace t := t.trn t' n_t_f.out
  replace u := u.trn t' n_u_f.out
  replace HD := Lib.hid (HD.out.trn HL_f.out t')
  clear t' f
  have f := r'
  clear r'
  replace c0 := r.pc hl
  go_wp2_with (first | ((with_reducible refine load33 r hl ?_ ?_ ?_); rfl; rfl) | ((with_reducible refine loadCore r hl ?_ ?_ ?_); rfl; rfl) | ((with_reducible refine loadCsr r hl ?_ ?_ ?_); rfl; rfl) | ((with_reducible refine loadTrap t ?_ ?_ ?_); rfl; rfl) | ((with_reducible refine loadTrap u ?_ ?_ ?_); rfl; rfl) | ((with_reducible refine loadTrap f ?_ ?_ ?_); rfl; rfl) | (go_at_call 15; (first | (with_reducible refine (C4.out _ om.out).mono ?_)); rintro e w' ⟨rfl, d'⟩; replace r := r.dn d'; replace t := t.dn d'; replace u := u.dn d'; replace f := f.dn d'; replace om := Lib.hid (om.out.dn d'); replace HD := Lib.hid (HD.out.trans d'); replace c0 := r.pc hl; clear d') | ((with_reducible refine allocTrap (b := w'.heap.size) rfl ?_ ?_); rfl; refine Hid.out ?_))
  refine Lib.hid ?_
  obtain ⟨x', b_g, hw, hb, g, d', nn⟩ := new_blk w' 35 #[.int .i64 0, .int .u32 0]
  have n_r_g := Lib.hid (nn _ r.lt)
  have n_t_g := Lib.hid (nn _ t.lt)
  have n_u_g := Lib.hid (nn _ u.lt)
  have n_f_g := Lib.hid (nn _ f.lt)
  have HL_g : Hid (W.heap.size ≤ b_g) := Lib.hid (by have := HD.out.size; omega)
  rw [← hw, ← hb]
  clear hw hb nn
  replace r := r.dn d'
  replace t := t.dn d'
  replace u := u.dn d'
  replace f := f.dn d'
  replace om := Lib.hid (om.out.dn d')
  replace HD := Lib.hid (HD.out.trans d')
  replace c0 := r.pc hl
  clear d'
  go_wp2_with (first | ((with_reducible refine load33 r hl ?_ ?_ ?_); rfl; rfl) | ((with_reducible refine loadCore r hl ?_ ?_ ?_); rfl; rfl) | ((with_reducible refine loadCsr r hl ?_ ?_ ?_); rfl; rfl) | ((with_reducible refine loadTrap t ?_ ?_ ?_); rfl; rfl) | ((with_reducible refine loadTrap u ?_ ?_ ?_); rfl; rfl) | ((with_reducible refine loadTrap f ?_ ?_ ?_); rfl; rfl) | ((with_reducible refine loadTrap g ?_ ?_ ?_); rfl; rfl) | ((with_reducible refine storeTrap (k := k) (v := y) g ?_ ?_ ?_ ?_); rfl; rfl; rfl; intro w' r' t'; refine Hid.out ?_))
  refine Lib.hid ?_
  replace om := Lib.hid (om.out.trn g (NoU8.trap _ _) t')
  replace r := r.trn t' n_r_g.out
  replace t := t.trn t' n_t_g.out
  replace u := u.trn t' n_u_g.out
  replace f := f.trn t' n_f_g.out
  replace HD := Lib.hid (HD.out.trn HL_g.out t')
  clear t' g
  have g := r'
  clear r'
  replace c0 := r.pc hl
  go_wp2_with (first | ((with_reducible refine load33 r hl ?_ ?_ ?_); rfl; rfl) | ((with_reducible refine loadCore r hl ?_ ?_ ?_); rfl; rfl) | ((with_reducible refine loadCsr r hl ?_ ?_ ?_); rfl; rfl) | ((with_reducible refine loadTrap t ?_ ?_ ?_); rfl; rfl) | ((with_reducible refine loadTrap u ?_ ?_ ?_); rfl; rfl) | ((with_reducible refine loadTrap f ?_ ?_ ?_); rfl; rfl) | ((with_reducible refine loadTrap g ?_ ?_ ?_); rfl; rfl) | (go_at_call 16; (first | (with_reducible refine (C5.out _ om.out).mono ?_)); rintro e w' ⟨rfl, d'⟩; replace r := r.dn d'; replace t := t.dn d'; replace u := u.dn d'; replace f := f.dn d'; replace g := g.dn d'; replace om := Lib.hid (om.out.dn d'); replace HD := Lib.hid (HD.out.trans d'); replace c0 := r.pc hl; clear d') | ((with_reducible refine allocTrap (b := w'.heap.size) rfl ?_ ?_); rfl; refine Hid.out ?_))
  refine Lib.hid ?_
  obtain ⟨x', b_h, hw, hb, h, d', nn⟩ := new_blk w' 35 #[.int .i64 0, .int .u32 0]
  have n_r_h := Lib.hid (nn _ r.lt)
  have n_t_h := Lib.hid (nn _ t.lt)
  have n_u_h := Lib.hid (nn _ u.lt)
  have n_f_h := Lib.hid (nn _ f.lt)
  have n_g_h := Lib.hid (nn _ g.lt)
  have HL_h : Hid (W.heap.size ≤ b_h) := Lib.hid (by have := HD.out.size; omega)
  rw [← hw, ← hb]
  clear hw hb nn
  replace r := r.dn d'
  replace t := t.dn d'
  replace u := u.dn d'
  replace f := f.dn d'
  replace g := g.dn d'
  replace om := Lib.hid (om.out.dn d')
  replace HD := Lib.hid (HD.out.trans d')
  replace c0 := r.pc hl
  clear d'
  go_wp2_with (first | ((with_reducible refine load33 r hl ?_ ?_ ?_); rfl; rfl) | ((with_reducible refine loadCore r hl ?_ ?_ ?_); rfl; rfl) | ((with_reducible refine loadCsr r hl ?_ ?_ ?_); rfl; rfl) | ((with_reducible refine loadTrap t ?_ ?_ ?_); rfl; rfl) | ((with_reducible refine loadTrap u ?_ ?_ ?_); rfl; rfl) | ((with_reducible refine loadTrap f ?_ ?_ ?_); rfl; rfl) | ((with_reducible refine loadTrap g ?_ ?_ ?_); rfl; rfl) | ((with_reducible refine loadTrap h ?_ ?_ ?_); rfl; rfl) | ((with_reducible refine storeTrap (k := kp) (v := yp) h ?_ ?_ ?_ ?_); rfl; rfl; rfl; intro w' r' t'; refine Hid.out ?_))
  refine Lib.hid ?_
  replace om := Lib.hid (om.out.trn h (NoU8.trap _ _) t')
  replace r := r.trn t' n_r_h.out
  replace t := t.trn t' n_t_h.out
  replace u := u.trn t' n_u_h.out
  replace f := f.trn t' n_f_h.out
  replace g := g.trn t' n_g_h.out
  replace HD := Lib.hid (HD.out.trn HL_h.out t')
  clear t' h
  have h := r'
  clear r'
  replace c0 := r.pc hl
  go_wp2_with (first | ((with_reducible refine load33 r hl ?_ ?_ ?_); rfl; rfl) | ((with_reducible refine loadCore r hl ?_ ?_ ?_); rfl; rfl) | ((with_reducible refine loadCsr r hl ?_ ?_ ?_); rfl; rfl) | ((with_reducible refine loadTrap t ?_ ?_ ?_); rfl; rfl) | ((with_reducible refine loadTrap u ?_ ?_ ?_); rfl; rfl) | ((with_reducible refine loadTrap f ?_ ?_ ?_); rfl; rfl) | ((with_reducible refine loadTrap g ?_ ?_ ?_); rfl; rfl) | ((with_reducible refine loadTrap h ?_ ?_ ?_); rfl; rfl) | (go_at_call 15; (first | (with_reducible refine (C6.out _ om.out).mono ?_)); rintro e w' ⟨rfl, d'⟩; replace r := r.dn d'; replace t := t.dn d'; replace u := u.dn d'; replace f := f.dn d'; replace g := g.dn d'; replace h := h.dn d'; replace om := Lib.hid (om.out.dn d'); replace HD := Lib.hid (HD.out.trans d'); replace c0 := r.pc hl; clear d') | ((with_reducible refine allocTrap (b := w'.heap.size) rfl ?_ ?_); rfl; refine Hid.out ?_))
  refine Lib.hid ?_
  obtain ⟨x', b_i, hw, hb, i, d', nn⟩ := new_blk w' 35 #[.int .i64 0, .int .u32 0]
  have n_r_i := Lib.hid (nn _ r.lt)
  have n_t_i := Lib.hid (nn _ t.lt)
  have n_u_i := Lib.hid (nn _ u.lt)
  have n_f_i := Lib.hid (nn _ f.lt)
  have n_g_i := Lib.hid (nn _ g.lt)
  have n_h_i := Lib.hid (nn _ h.lt)
  have HL_i : Hid (W.heap.size ≤ b_i) := Lib.hid (by have := HD.out.size; omega)
  rw [← hw, ← hb]
  clear hw hb nn
  replace r := r.dn d'
  replace t := t.dn d'
  replace u := u.dn d'
  replace f := f.dn d'
  replace g := g.dn d'
  replace h := h.dn d'
  replace om := Lib.hid (om.out.dn d')
  replace HD := Lib.hid (HD.out.trans d')
  replace c0 := r.pc hl
  clear d'
  go_wp2_with (first | ((with_reducible refine load33 r hl ?_ ?_ ?_); rfl; rfl) | ((with_reducible refine loadCore r hl ?_ ?_ ?_); rfl; rfl) | ((with_reducible refine loadCsr r hl ?_ ?_ ?_); rfl; rfl) | ((with_reducible refine loadTrap t ?_ ?_ ?_); rfl; rfl) | ((with_reducible refine loadTrap u ?_ ?_ ?_); rfl; rfl) | ((with_reducible refine loadTrap f ?_ ?_ ?_); rfl; rfl) | ((with_reducible refine loadTrap g ?_ ?_ ?_); rfl; rfl) | ((with_reducible refine loadTrap h ?_ ?_ ?_); rfl; rfl) | ((with_reducible refine loadTrap i ?_ ?_ ?_); rfl; rfl) | ((with_reducible refine storeTrap (k := kp) (v := yp) i ?_ ?_ ?_ ?_); rfl; rfl; rfl; intro w' r' t'; refine Hid.out ?_))
  refine Lib.hid ?_
  replace om := Lib.hid (om.out.trn i (NoU8.trap _ _) t')
  replace r := r.trn t' n_r_i.out
  replace t := t.trn t' n_t_i.out
  replace u := u.trn t' n_u_i.out
  replace f := f.trn t' n_f_i.out
  replace g := g.trn t' n_g_i.out
  replace h := h.trn t' n_h_i.out
  replace HD := Lib.hid (HD.out.trn HL_i.out t')
  clear t' i
  have i := r'
  clear r'
  replace c0 := r.pc hl
  go_wp2_with (first | ((with_reducible refine load33 r hl ?_ ?_ ?_); rfl; rfl) | ((with_reducible refine loadCore r hl ?_ ?_ ?_); rfl; rfl) | ((with_reducible refine loadCsr r hl ?_ ?_ ?_); rfl; rfl) | ((with_reducible refine loadTrap t ?_ ?_ ?_); rfl; rfl) | ((with_reducible refine loadTrap u ?_ ?_ ?_); rfl; rfl) | ((with_reducible refine loadTrap f ?_ ?_ ?_); rfl; rfl) | ((with_reducible refine loadTrap g ?_ ?_ ?_); rfl; rfl) | ((with_reducible refine loadTrap h ?_ ?_ ?_); rfl; rfl) | ((with_reducible refine loadTrap i ?_ ?_ ?_); rfl; rfl) | (go_at_call 17; (with_reducible refine (C7.out _ om.out).mono ?_); rintro e w' ⟨m1, rfl, o1, u1, d'⟩; replace r := r.dn d'; replace t := t.dn d'; replace u := u.dn d'; replace f := f.dn d'; replace g := g.dn d'; replace h := h.dn d'; replace i := i.dn d'; replace om := Lib.hid (om.out.dn d'); replace HD := Lib.hid (HD.out.trans d'); replace c0 := r.pc hl; clear d') | ((with_reducible refine alloc33 (b := w'.heap.size) rfl ?_ ?_); rfl; refine Hid.out ?_))
  refine Lib.hid ?_
  have h1 := o1.out.len
  obtain ⟨x', b_B, hw, hb, B, d', nn⟩ := new_blk w' 30 (mach Mc.zero)
  have n_r_B := Lib.hid (nn _ r.lt)
  have n_t_B := Lib.hid (nn _ t.lt)
  have n_u_B := Lib.hid (nn _ u.lt)
  have n_f_B := Lib.hid (nn _ f.lt)
  have n_g_B := Lib.hid (nn _ g.lt)
  have n_h_B := Lib.hid (nn _ h.lt)
  have n_i_B := Lib.hid (nn _ i.lt)
  have HL_B : Hid (W.heap.size ≤ b_B) := Lib.hid (by have := HD.out.size; omega)
  rw [← hw, ← hb]
  clear hw hb nn
  replace r := r.dn d'
  replace t := t.dn d'
  replace u := u.dn d'
  replace f := f.dn d'
  replace g := g.dn d'
  replace h := h.dn d'
  replace i := i.dn d'
  replace om := Lib.hid (om.out.dn d')
  replace o1 := Lib.hid (o1.out.dn d')
  replace HD := Lib.hid (HD.out.trans d')
  replace c0 := r.pc hl
  clear d'
  go_wp2_with (first | ((with_reducible refine load33 r hl ?_ ?_ ?_); rfl; rfl) | ((with_reducible refine loadCore r hl ?_ ?_ ?_); rfl; rfl) | ((with_reducible refine loadCsr r hl ?_ ?_ ?_); rfl; rfl) | ((with_reducible refine loadTrap t ?_ ?_ ?_); rfl; rfl) | ((with_reducible refine loadTrap u ?_ ?_ ?_); rfl; rfl) | ((with_reducible refine loadTrap f ?_ ?_ ?_); rfl; rfl) | ((with_reducible refine loadTrap g ?_ ?_ ?_); rfl; rfl) | ((with_reducible refine loadTrap h ?_ ?_ ?_); rfl; rfl) | ((with_reducible refine loadTrap i ?_ ?_ ?_); rfl; rfl) | ((with_reducible refine load33 B zlen ?_ ?_ ?_); rfl; rfl) | ((with_reducible refine loadCore B zlen ?_ ?_ ?_); rfl; rfl) | ((with_reducible refine loadCsr B zlen ?_ ?_ ?_); rfl; rfl) | ((with_reducible refine allocTrap (b := x'.heap.size) rfl ?_ ?_); rfl; refine Hid.out ?_))
  refine Lib.hid ?_
  obtain ⟨x', b_j, hw, hb, j, d', nn⟩ := new_blk x' 35 #[.int .i64 0, .int .u32 0]
  have n_r_j := Lib.hid (nn _ r.lt)
  have n_t_j := Lib.hid (nn _ t.lt)
  have n_u_j := Lib.hid (nn _ u.lt)
  have n_f_j := Lib.hid (nn _ f.lt)
  have n_g_j := Lib.hid (nn _ g.lt)
  have n_h_j := Lib.hid (nn _ h.lt)
  have n_i_j := Lib.hid (nn _ i.lt)
  have n_B_j := Lib.hid (nn _ B.lt)
  have HL_j : Hid (W.heap.size ≤ b_j) := Lib.hid (by have := HD.out.size; omega)
  rw [← hw, ← hb]
  clear hw hb nn
  replace r := r.dn d'
  replace t := t.dn d'
  replace u := u.dn d'
  replace f := f.dn d'
  replace g := g.dn d'
  replace h := h.dn d'
  replace i := i.dn d'
  replace B := B.dn d'
  replace om := Lib.hid (om.out.dn d')
  replace o1 := Lib.hid (o1.out.dn d')
  replace HD := Lib.hid (HD.out.trans d')
  replace c0 := r.pc hl
  clear d'
  go_wp2_with (first | ((with_reducible refine load33 r hl ?_ ?_ ?_); rfl; rfl) | ((with_reducible refine loadCore r hl ?_ ?_ ?_); rfl; rfl) | ((with_reducible refine loadCsr r hl ?_ ?_ ?_); rfl; rfl) | ((with_reducible refine loadTrap t ?_ ?_ ?_); rfl; rfl) | ((with_reducible refine loadTrap u ?_ ?_ ?_); rfl; rfl) | ((with_reducible refine loadTrap f ?_ ?_ ?_); rfl; rfl) | ((with_reducible refine loadTrap g ?_ ?_ ?_); rfl; rfl) | ((with_reducible refine loadTrap h ?_ ?_ ?_); rfl; rfl) | ((with_reducible refine loadTrap i ?_ ?_ ?_); rfl; rfl) | ((with_reducible refine load33 B zlen ?_ ?_ ?_); rfl; rfl) | ((with_reducible refine loadCore B zlen ?_ ?_ ?_); rfl; rfl) | ((with_reducible refine loadCsr B zlen ?_ ?_ ?_); rfl; rfl) | ((with_reducible refine loadTrap j ?_ ?_ ?_); rfl; rfl) | ((with_reducible refine store33 m1 h1 B zlen ?_ ?_ ?_ ?_); rfl; rfl; rfl; intro w' r' t'; refine Hid.out ?_))
  refine Lib.hid ?_
  replace om := Lib.hid (om.out.trn B (NoU8.mach _) t')
  replace o1 := Lib.hid (o1.out.trn B (NoU8.mach _) t')
  replace r := r.trn t' n_r_B.out
  replace t := t.trn t' n_t_B.out
  replace u := u.trn t' n_u_B.out
  replace f := f.trn t' n_f_B.out
  replace g := g.trn t' n_g_B.out
  replace h := h.trn t' n_h_B.out
  replace i := i.trn t' n_i_B.out
  replace j := j.trn t' n_B_j.out.symm
  replace HD := Lib.hid (HD.out.trn HL_B.out t')
  clear t' B
  have B := r'
  clear r'
  replace c0 := r.pc hl
  go_wp2_with (first | ((with_reducible refine load33 r hl ?_ ?_ ?_); rfl; rfl) | ((with_reducible refine loadCore r hl ?_ ?_ ?_); rfl; rfl) | ((with_reducible refine loadCsr r hl ?_ ?_ ?_); rfl; rfl) | ((with_reducible refine loadTrap t ?_ ?_ ?_); rfl; rfl) | ((with_reducible refine loadTrap u ?_ ?_ ?_); rfl; rfl) | ((with_reducible refine loadTrap f ?_ ?_ ?_); rfl; rfl) | ((with_reducible refine loadTrap g ?_ ?_ ?_); rfl; rfl) | ((with_reducible refine loadTrap h ?_ ?_ ?_); rfl; rfl) | ((with_reducible refine loadTrap i ?_ ?_ ?_); rfl; rfl) | ((with_reducible refine load33 B h1 ?_ ?_ ?_); rfl; rfl) | ((with_reducible refine loadCore B h1 ?_ ?_ ?_); rfl; rfl) | ((with_reducible refine loadCsr B h1 ?_ ?_ ?_); rfl; rfl) | ((with_reducible refine loadTrap j ?_ ?_ ?_); rfl; rfl) | ((with_reducible refine storeTrap (k := k) (v := y) j ?_ ?_ ?_ ?_); rfl; rfl; rfl; intro w' r' t'; refine Hid.out ?_))
  refine Lib.hid ?_
  replace om := Lib.hid (om.out.trn j (NoU8.trap _ _) t')
  replace o1 := Lib.hid (o1.out.trn j (NoU8.trap _ _) t')
  replace r := r.trn t' n_r_j.out
  replace t := t.trn t' n_t_j.out
  replace u := u.trn t' n_u_j.out
  replace f := f.trn t' n_f_j.out
  replace g := g.trn t' n_g_j.out
  replace h := h.trn t' n_h_j.out
  replace i := i.trn t' n_i_j.out
  replace B := B.trn t' n_B_j.out
  replace HD := Lib.hid (HD.out.trn HL_j.out t')
  clear t' j
  have j := r'
  clear r'
  replace c0 := r.pc hl
  go_wp2_with (first | ((with_reducible refine load33 r hl ?_ ?_ ?_); rfl; rfl) | ((with_reducible refine loadCore r hl ?_ ?_ ?_); rfl; rfl) | ((with_reducible refine loadCsr r hl ?_ ?_ ?_); rfl; rfl) | ((with_reducible refine loadTrap t ?_ ?_ ?_); rfl; rfl) | ((with_reducible refine loadTrap u ?_ ?_ ?_); rfl; rfl) | ((with_reducible refine loadTrap f ?_ ?_ ?_); rfl; rfl) | ((with_reducible refine loadTrap g ?_ ?_ ?_); rfl; rfl) | ((with_reducible refine loadTrap h ?_ ?_ ?_); rfl; rfl) | ((with_reducible refine loadTrap i ?_ ?_ ?_); rfl; rfl) | ((with_reducible refine load33 B h1 ?_ ?_ ?_); rfl; rfl) | ((with_reducible refine loadCore B h1 ?_ ?_ ?_); rfl; rfl) | ((with_reducible refine loadCsr B h1 ?_ ?_ ?_); rfl; rfl) | ((with_reducible refine loadTrap j ?_ ?_ ?_); rfl; rfl) | (go_at_call 18; (with_reducible refine (C8.out _ om.out).mono ?_); rintro e w' ⟨m2, rfl, o2, u2, d'⟩; replace r := r.dn d'; replace t := t.dn d'; replace u := u.dn d'; replace f := f.dn d'; replace g := g.dn d'; replace h := h.dn d'; replace i := i.dn d'; replace B := B.dn d'; replace j := j.dn d'; replace om := Lib.hid (om.out.dn d'); replace o1 := Lib.hid (o1.out.dn d'); replace HD := Lib.hid (HD.out.trans d'); replace c0 := r.pc hl; clear d') | ((with_reducible refine alloc33 (b := w'.heap.size) rfl ?_ ?_); rfl; refine Hid.out ?_))
  refine Lib.hid ?_
  have h2 := o2.out.len
  obtain ⟨x', b_E, hw, hb, E, d', nn⟩ := new_blk w' 30 (mach Mc.zero)
  have n_r_E := Lib.hid (nn _ r.lt)
  have n_t_E := Lib.hid (nn _ t.lt)
  have n_u_E := Lib.hid (nn _ u.lt)
  have n_f_E := Lib.hid (nn _ f.lt)
  have n_g_E := Lib.hid (nn _ g.lt)
  have n_h_E := Lib.hid (nn _ h.lt)
  have n_i_E := Lib.hid (nn _ i.lt)
  have n_B_E := Lib.hid (nn _ B.lt)
  have n_j_E := Lib.hid (nn _ j.lt)
  have HL_E : Hid (W.heap.size ≤ b_E) := Lib.hid (by have := HD.out.size; omega)
  rw [← hw, ← hb]
  clear hw hb nn
  replace r := r.dn d'
  replace t := t.dn d'
  replace u := u.dn d'
  replace f := f.dn d'
  replace g := g.dn d'
  replace h := h.dn d'
  replace i := i.dn d'
  replace B := B.dn d'
  replace j := j.dn d'
  replace om := Lib.hid (om.out.dn d')
  replace o1 := Lib.hid (o1.out.dn d')
  replace o2 := Lib.hid (o2.out.dn d')
  replace HD := Lib.hid (HD.out.trans d')
  replace c0 := r.pc hl
  clear d'
  go_wp2_with (first | ((with_reducible refine load33 r hl ?_ ?_ ?_); rfl; rfl) | ((with_reducible refine loadCore r hl ?_ ?_ ?_); rfl; rfl) | ((with_reducible refine loadCsr r hl ?_ ?_ ?_); rfl; rfl) | ((with_reducible refine loadTrap t ?_ ?_ ?_); rfl; rfl) | ((with_reducible refine loadTrap u ?_ ?_ ?_); rfl; rfl) | ((with_reducible refine loadTrap f ?_ ?_ ?_); rfl; rfl) | ((with_reducible refine loadTrap g ?_ ?_ ?_); rfl; rfl) | ((with_reducible refine loadTrap h ?_ ?_ ?_); rfl; rfl) | ((with_reducible refine loadTrap i ?_ ?_ ?_); rfl; rfl) | ((with_reducible refine load33 B h1 ?_ ?_ ?_); rfl; rfl) | ((with_reducible refine loadCore B h1 ?_ ?_ ?_); rfl; rfl) | ((with_reducible refine loadCsr B h1 ?_ ?_ ?_); rfl; rfl) | ((with_reducible refine loadTrap j ?_ ?_ ?_); rfl; rfl) | ((with_reducible refine load33 E zlen ?_ ?_ ?_); rfl; rfl) | ((with_reducible refine loadCore E zlen ?_ ?_ ?_); rfl; rfl) | ((with_reducible refine loadCsr E zlen ?_ ?_ ?_); rfl; rfl) | ((with_reducible refine allocTrap (b := x'.heap.size) rfl ?_ ?_); rfl; refine Hid.out ?_))
  refine Lib.hid ?_
  obtain ⟨x', b_kk, hw, hb, kk, d', nn⟩ := new_blk x' 35 #[.int .i64 0, .int .u32 0]
  have n_r_kk := Lib.hid (nn _ r.lt)
  have n_t_kk := Lib.hid (nn _ t.lt)
  have n_u_kk := Lib.hid (nn _ u.lt)
  have n_f_kk := Lib.hid (nn _ f.lt)
  have n_g_kk := Lib.hid (nn _ g.lt)
  have n_h_kk := Lib.hid (nn _ h.lt)
  have n_i_kk := Lib.hid (nn _ i.lt)
  have n_B_kk := Lib.hid (nn _ B.lt)
  have n_j_kk := Lib.hid (nn _ j.lt)
  have n_E_kk := Lib.hid (nn _ E.lt)
  have HL_kk : Hid (W.heap.size ≤ b_kk) := Lib.hid (by have := HD.out.size; omega)
  rw [← hw, ← hb]
  clear hw hb nn
  replace r := r.dn d'
  replace t := t.dn d'
  replace u := u.dn d'
  replace f := f.dn d'
  replace g := g.dn d'
  replace h := h.dn d'
  replace i := i.dn d'
  replace B := B.dn d'
  replace j := j.dn d'
  replace E := E.dn d'
  replace om := Lib.hid (om.out.dn d')
  replace o1 := Lib.hid (o1.out.dn d')
  replace o2 := Lib.hid (o2.out.dn d')
  replace HD := Lib.hid (HD.out.trans d')
  replace c0 := r.pc hl
  clear d'
  go_wp2_with (first | ((with_reducible refine load33 r hl ?_ ?_ ?_); rfl; rfl) | ((with_reducible refine loadCore r hl ?_ ?_ ?_); rfl; rfl) | ((with_reducible refine loadCsr r hl ?_ ?_ ?_); rfl; rfl) | ((with_reducible refine loadTrap t ?_ ?_ ?_); rfl; rfl) | ((with_reducible refine loadTrap u ?_ ?_ ?_); rfl; rfl) | ((with_reducible refine loadTrap f ?_ ?_ ?_); rfl; rfl) | ((with_reducible refine loadTrap g ?_ ?_ ?_); rfl; rfl) | ((with_reducible refine loadTrap h ?_ ?_ ?_); rfl; rfl) | ((with_reducible refine loadTrap i ?_ ?_ ?_); rfl; rfl) | ((with_reducible refine load33 B h1 ?_ ?_ ?_); rfl; rfl) | ((with_reducible refine loadCore B h1 ?_ ?_ ?_); rfl; rfl) | ((with_reducible refine loadCsr B h1 ?_ ?_ ?_); rfl; rfl) | ((with_reducible refine loadTrap j ?_ ?_ ?_); rfl; rfl) | ((with_reducible refine load33 E zlen ?_ ?_ ?_); rfl; rfl) | ((with_reducible refine loadCore E zlen ?_ ?_ ?_); rfl; rfl) | ((with_reducible refine loadCsr E zlen ?_ ?_ ?_); rfl; rfl) | ((with_reducible refine loadTrap kk ?_ ?_ ?_); rfl; rfl) | ((with_reducible refine store33 m2 h2 E zlen ?_ ?_ ?_ ?_); rfl; rfl; rfl; intro w' r' t'; refine Hid.out ?_))
  refine Lib.hid ?_
  replace om := Lib.hid (om.out.trn E (NoU8.mach _) t')
  replace o1 := Lib.hid (o1.out.trn E (NoU8.mach _) t')
  replace o2 := Lib.hid (o2.out.trn E (NoU8.mach _) t')
  replace r := r.trn t' n_r_E.out
  replace t := t.trn t' n_t_E.out
  replace u := u.trn t' n_u_E.out
  replace f := f.trn t' n_f_E.out
  replace g := g.trn t' n_g_E.out
  replace h := h.trn t' n_h_E.out
  replace i := i.trn t' n_i_E.out
  replace B := B.trn t' n_B_E.out
  replace j := j.trn t' n_j_E.out
  replace kk := kk.trn t' n_E_kk.out.symm
  replace HD := Lib.hid (HD.out.trn HL_E.out t')
  clear t' E
  have E := r'
  clear r'
  replace c0 := r.pc hl
  go_wp2_with (first | ((with_reducible refine load33 r hl ?_ ?_ ?_); rfl; rfl) | ((with_reducible refine loadCore r hl ?_ ?_ ?_); rfl; rfl) | ((with_reducible refine loadCsr r hl ?_ ?_ ?_); rfl; rfl) | ((with_reducible refine loadTrap t ?_ ?_ ?_); rfl; rfl) | ((with_reducible refine loadTrap u ?_ ?_ ?_); rfl; rfl) | ((with_reducible refine loadTrap f ?_ ?_ ?_); rfl; rfl) | ((with_reducible refine loadTrap g ?_ ?_ ?_); rfl; rfl) | ((with_reducible refine loadTrap h ?_ ?_ ?_); rfl; rfl) | ((with_reducible refine loadTrap i ?_ ?_ ?_); rfl; rfl) | ((with_reducible refine load33 B h1 ?_ ?_ ?_); rfl; rfl) | ((with_reducible refine loadCore B h1 ?_ ?_ ?_); rfl; rfl) | ((with_reducible refine loadCsr B h1 ?_ ?_ ?_); rfl; rfl) | ((with_reducible refine loadTrap j ?_ ?_ ?_); rfl; rfl) | ((with_reducible refine load33 E h2 ?_ ?_ ?_); rfl; rfl) | ((with_reducible refine loadCore E h2 ?_ ?_ ?_); rfl; rfl) | ((with_reducible refine loadCsr E h2 ?_ ?_ ?_); rfl; rfl) | ((with_reducible refine loadTrap kk ?_ ?_ ?_); rfl; rfl) | ((with_reducible refine storeTrap (k := k) (v := y) kk ?_ ?_ ?_ ?_); rfl; rfl; rfl; intro w' r' t'; refine Hid.out ?_))
  refine Lib.hid ?_
  replace om := Lib.hid (om.out.trn kk (NoU8.trap _ _) t')
  replace o1 := Lib.hid (o1.out.trn kk (NoU8.trap _ _) t')
  replace o2 := Lib.hid (o2.out.trn kk (NoU8.trap _ _) t')
  replace r := r.trn t' n_r_kk.out
  replace t := t.trn t' n_t_kk.out
  replace u := u.trn t' n_u_kk.out
  replace f := f.trn t' n_f_kk.out
  replace g := g.trn t' n_g_kk.out
  replace h := h.trn t' n_h_kk.out
  replace i := i.trn t' n_i_kk.out
  replace B := B.trn t' n_B_kk.out
  replace j := j.trn t' n_j_kk.out
  replace E := E.trn t' n_E_kk.out
  replace HD := Lib.hid (HD.out.trn HL_kk.out t')
  clear t' kk
  have kk := r'
  clear r'
  replace c0 := r.pc hl
  have C9 := Lib.hid fun w => fun (ow : m1.Ok w) (ox : m2.Ok w) => rsame m1 m2 w ow ox (by obtain ⟨A1, K1, g1⟩ := u1.out; obtain ⟨A2, K2, g2⟩ := u2.out; rw [g1]; show zs.length ≤ 100000; have := zl.out; omega) (by obtain ⟨A1, K1, g1⟩ := u1.out; obtain ⟨A2, K2, g2⟩ := u2.out; rw [g1]; show m.ys.length ≤ 100000; omega) (by obtain ⟨A1, K1, g1⟩ := u1.out; obtain ⟨A2, K2, g2⟩ := u2.out; rw [g1, g2]) (by obtain ⟨A1, K1, g1⟩ := u1.out; obtain ⟨A2, K2, g2⟩ := u2.out; rw [g1, g2]) (by obtain ⟨A1, K1, g1⟩ := u1.out; obtain ⟨A2, K2, g2⟩ := u2.out; rw [g1, g2]) (by obtain ⟨A1, K1, g1⟩ := u1.out; obtain ⟨A2, K2, g2⟩ := u2.out; rw [g1, g2]) (by obtain ⟨A1, K1, g1⟩ := u1.out; obtain ⟨A2, K2, g2⟩ := u2.out; rw [g1, g2])
  clear u1 u2
  go_wp2_with (first | ((with_reducible refine load33 r hl ?_ ?_ ?_); rfl; rfl) | ((with_reducible refine loadCore r hl ?_ ?_ ?_); rfl; rfl) | ((with_reducible refine loadCsr r hl ?_ ?_ ?_); rfl; rfl) | ((with_reducible refine loadTrap t ?_ ?_ ?_); rfl; rfl) | ((with_reducible refine loadTrap u ?_ ?_ ?_); rfl; rfl) | ((with_reducible refine loadTrap f ?_ ?_ ?_); rfl; rfl) | ((with_reducible refine loadTrap g ?_ ?_ ?_); rfl; rfl) | ((with_reducible refine loadTrap h ?_ ?_ ?_); rfl; rfl) | ((with_reducible refine loadTrap i ?_ ?_ ?_); rfl; rfl) | ((with_reducible refine load33 B h1 ?_ ?_ ?_); rfl; rfl) | ((with_reducible refine loadCore B h1 ?_ ?_ ?_); rfl; rfl) | ((with_reducible refine loadCsr B h1 ?_ ?_ ?_); rfl; rfl) | ((with_reducible refine loadTrap j ?_ ?_ ?_); rfl; rfl) | ((with_reducible refine load33 E h2 ?_ ?_ ?_); rfl; rfl) | ((with_reducible refine loadCore E h2 ?_ ?_ ?_); rfl; rfl) | ((with_reducible refine loadCsr E h2 ?_ ?_ ?_); rfl; rfl) | ((with_reducible refine loadTrap kk ?_ ?_ ?_); rfl; rfl))
  have QC9 := Lib.hid fun p q => Calls.regrown_of (C9.out _ (o1.out.dn (below_regrown w' p q)) (o2.out.dn (below_regrown w' p q)))
  have QT1 := Lib.hid fun p q => Calls.regrown_of (T1.out _ (om.out.dn (below_regrown w' p q)))
  have QT2 := Lib.hid fun p q => Calls.regrown_of (T2.out _ (om.out.dn (below_regrown w' p q)))
  have lc0 := fun d os => cell_regrown c0 d os
  refine wp_region_quiet_below (by kernel_rfl) (by kernel_rfl) ?_
  simp only [Act.put, List.setIfInBounds_toArray, List.set_cons_succ, List.set_cons_zero]
  repeat (first | go_big_quiet_skip | (go_big_quiet_want; first | ((with_reducible refine qop33 r hl ?_ ?_); rfl; simp only [Act.put, List.setIfInBounds_toArray, List.set_cons_succ, List.set_cons_zero]; go_big_quiet_on) | ((with_reducible refine qopCore r hl ?_ ?_); rfl; simp only [Act.put, List.setIfInBounds_toArray, List.set_cons_succ, List.set_cons_zero]; go_big_quiet_on) | ((with_reducible refine qopCsr r hl ?_ ?_); rfl; simp only [Act.put, List.setIfInBounds_toArray, List.set_cons_succ, List.set_cons_zero]; go_big_quiet_on) | ((with_reducible refine qopTrap t ?_ ?_); rfl; simp only [Act.put, List.setIfInBounds_toArray, List.set_cons_succ, List.set_cons_zero]; go_big_quiet_on) | ((with_reducible refine qopTrap u ?_ ?_); rfl; simp only [Act.put, List.setIfInBounds_toArray, List.set_cons_succ, List.set_cons_zero]; go_big_quiet_on) | ((with_reducible refine qopTrap f ?_ ?_); rfl; simp only [Act.put, List.setIfInBounds_toArray, List.set_cons_succ, List.set_cons_zero]; go_big_quiet_on) | ((with_reducible refine qopTrap g ?_ ?_); rfl; simp only [Act.put, List.setIfInBounds_toArray, List.set_cons_succ, List.set_cons_zero]; go_big_quiet_on) | ((with_reducible refine qopTrap h ?_ ?_); rfl; simp only [Act.put, List.setIfInBounds_toArray, List.set_cons_succ, List.set_cons_zero]; go_big_quiet_on) | ((with_reducible refine qopTrap i ?_ ?_); rfl; simp only [Act.put, List.setIfInBounds_toArray, List.set_cons_succ, List.set_cons_zero]; go_big_quiet_on) | ((with_reducible refine qop33 B h1 ?_ ?_); rfl; simp only [Act.put, List.setIfInBounds_toArray, List.set_cons_succ, List.set_cons_zero]; go_big_quiet_on) | ((with_reducible refine qopCore B h1 ?_ ?_); rfl; simp only [Act.put, List.setIfInBounds_toArray, List.set_cons_succ, List.set_cons_zero]; go_big_quiet_on) | ((with_reducible refine qopCsr B h1 ?_ ?_); rfl; simp only [Act.put, List.setIfInBounds_toArray, List.set_cons_succ, List.set_cons_zero]; go_big_quiet_on) | ((with_reducible refine qopTrap j ?_ ?_); rfl; simp only [Act.put, List.setIfInBounds_toArray, List.set_cons_succ, List.set_cons_zero]; go_big_quiet_on) | ((with_reducible refine qop33 E h2 ?_ ?_); rfl; simp only [Act.put, List.setIfInBounds_toArray, List.set_cons_succ, List.set_cons_zero]; go_big_quiet_on) | ((with_reducible refine qopCore E h2 ?_ ?_); rfl; simp only [Act.put, List.setIfInBounds_toArray, List.set_cons_succ, List.set_cons_zero]; go_big_quiet_on) | ((with_reducible refine qopCsr E h2 ?_ ?_); rfl; simp only [Act.put, List.setIfInBounds_toArray, List.set_cons_succ, List.set_cons_zero]; go_big_quiet_on) | ((with_reducible refine qopTrap kk ?_ ?_); rfl; simp only [Act.put, List.setIfInBounds_toArray, List.set_cons_succ, List.set_cons_zero]; go_big_quiet_on) | (go_big_quiet_op; first | go_big_quiet_on | go_big_quiet_call (first | (with_reducible exact QC9.out _ _) | (with_reducible exact QT1.out _ _) | (with_reducible exact QT2.out _ _)))))
  refine wpQuiet_nil ?_
  intro _ hw'
  obtain ⟨⟨dq, osq⟩, hw''⟩ := hw'
  subst hw''
  have d' := below_regrown w' dq osq
  clear QC9 QT1 QT2 lc0
  replace r := r.dn d'
  replace t := t.dn d'
  replace u := u.dn d'
  replace f := f.dn d'
  replace g := g.dn d'
  replace h := h.dn d'
  replace i := i.dn d'
  replace B := B.dn d'
  replace j := j.dn d'
  replace E := E.dn d'
  replace kk := kk.dn d'
  replace om := Lib.hid (om.out.dn d')
  replace o1 := Lib.hid (o1.out.dn d')
  replace o2 := Lib.hid (o2.out.dn d')
  replace HD := Lib.hid (HD.out.trans d')
  replace c0 := r.pc hl
  clear d'
  generalize grow (redrawn w' dq) osq = w' at r t u f g h i B j E kk om o1 o2 HD c0 ⊢
  go_wp2_with (first | ((with_reducible refine load33 r hl ?_ ?_ ?_); rfl; rfl) | ((with_reducible refine loadCore r hl ?_ ?_ ?_); rfl; rfl) | ((with_reducible refine loadCsr r hl ?_ ?_ ?_); rfl; rfl) | ((with_reducible refine loadTrap t ?_ ?_ ?_); rfl; rfl) | ((with_reducible refine loadTrap u ?_ ?_ ?_); rfl; rfl) | ((with_reducible refine loadTrap f ?_ ?_ ?_); rfl; rfl) | ((with_reducible refine loadTrap g ?_ ?_ ?_); rfl; rfl) | ((with_reducible refine loadTrap h ?_ ?_ ?_); rfl; rfl) | ((with_reducible refine loadTrap i ?_ ?_ ?_); rfl; rfl) | ((with_reducible refine load33 B h1 ?_ ?_ ?_); rfl; rfl) | ((with_reducible refine loadCore B h1 ?_ ?_ ?_); rfl; rfl) | ((with_reducible refine loadCsr B h1 ?_ ?_ ?_); rfl; rfl) | ((with_reducible refine loadTrap j ?_ ?_ ?_); rfl; rfl) | ((with_reducible refine load33 E h2 ?_ ?_ ?_); rfl; rfl) | ((with_reducible refine loadCore E h2 ?_ ?_ ?_); rfl; rfl) | ((with_reducible refine loadCsr E h2 ?_ ?_ ?_); rfl; rfl) | ((with_reducible refine loadTrap kk ?_ ?_ ?_); rfl; rfl))
  go_ret
  exact ⟨rfl, HD.out⟩
theorem lMr (m : Mc) (a : Int) (a0 : 0 ≤ a) (a1 : a < 4294967296) (b : Bool) (v : Int) (v0 : 0 ≤ v) (v1 : v < 4294967296) (W : World) (hm : m.Ok W) (hx : m.xs.length ≤ 9223372036854775807) (hy : m.ys.length ≤ 9223372036854775807) :
    Calls Try.prog 3 #[.agg (mach m), .int .u32 a, .bool b, .int .u32 v] W fun e W' => e = .returned (.bool true) ∧ Dn W W' := by
  by_cases hb : m.xs.length ≤ 600 ∧ m.ys.length ≤ 600
  · obtain ⟨n, hn⟩ : ∃ n, (if b = true then 4 else 1 : Int) = n := ⟨_, rfl⟩
    have hn2 : 1 ≤ n ∧ n ≤ 4 := by cases b <;> (rw [← hn]; decide)
    exact lMr_yes m a a0 a1 b v v0 v1 W hm hb.1 hb.2 n hn hn2.1 hn2.2
  · exact lMr_no m a a0 a1 b v v0 v1 W hm hx hy hb
end Go.Proofs.Ytchekfipdhoejaa
