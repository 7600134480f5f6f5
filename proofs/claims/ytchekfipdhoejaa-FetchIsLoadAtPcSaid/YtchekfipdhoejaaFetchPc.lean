/-
  'FetchIsLoadAtPc' returns true at every input: the walk. Conditions: the machine is one that can come in.
-/
import Derived.Test.YtchekfipdhoejaaFetchAwake
namespace Go.Proofs.Ytchekfipdhoejaa
open Go.ChangeShapes Go.WideShapes Go.ChangeAt Go.RowKit Go.Sort
set_option linter.unusedVariables false

set_option maxRecDepth 100000 in
set_option maxHeartbeats 2000000 in
theorem lPc_no (m : Mc) (a : Int) (a0 : 0 ≤ a) (a1 : a < 4294967296) (b : Bool) (W : World) (hm : m.Ok W) (hx : m.xs.length ≤ 9223372036854775807) (hy : m.ys.length ≤ 9223372036854775807) (hb : ¬ (m.xs.length ≤ 600 ∧ m.ys.length ≤ 600)) :
    Calls Try.prog 8 #[.agg (mach m), .int .u32 a, .bool b] W fun e W' => e = .returned (.bool true) ∧ Dn W W' := by
  have hl := hm.len
  have om := Lib.hid hm
  have C0 := Lib.hid fun w => awake w
  have CF := Lib.hid fun w => fun (ow : m.Ok w) => rfew m false w ow hx hy (decide_eq_false hb)
  clear hb
  have HD := Lib.hid (Dn.refl W)
  obtain ⟨x0, b_r, hw0, hb0, r, d', nn⟩ := new_blk W 30 (mach m)
  have HL_r : Hid (W.heap.size ≤ b_r) := Lib.hid (by have := HD.out.size; omega)
  clear nn
  replace om := Lib.hid (om.out.dn d')
  replace HD := Lib.hid (HD.out.trans d')
  clear d'
  go_enter Try.func8, Try.ntmps8
  go_wp2_with fail
  rw [← hw0, ← hb0]
  clear hw0 hb0
  go_wp2_with (first | ((with_reducible refine load33 r hl ?_ ?_ ?_); rfl; rfl) | ((with_reducible refine loadCore r hl ?_ ?_ ?_); rfl; rfl) | ((with_reducible refine loadCsr r hl ?_ ?_ ?_); rfl; rfl) | (go_at_call 9; (first | (with_reducible refine (C0.out _).mono ?_)); rintro e w' ⟨rfl, d'⟩; replace r := r.dn d'; replace om := Lib.hid (om.out.dn d'); replace HD := Lib.hid (HD.out.trans d'); clear d') | (go_at_call 10; (first | (with_reducible refine (CF.out _ om.out).mono ?_)); rintro e w' ⟨rfl, d'⟩; replace r := r.dn d'; replace om := Lib.hid (om.out.dn d'); replace HD := Lib.hid (HD.out.trans d'); clear d'))
  go_ret
  exact ⟨rfl, HD.out⟩
set_option maxRecDepth 100000 in
set_option maxHeartbeats 2000000 in
theorem lPc_ok (m : Mc) (a : Int) (a0 : 0 ≤ a) (a1 : a < 4294967296) (b : Bool) (W : World) (hm : m.Ok W) (hx : m.xs.length ≤ 600) (hy : m.ys.length ≤ 600) (n : Int) (hn : (if b = true then 4 else 1 : Int) = n) (n0 : 1 ≤ n) (n1 : n ≤ 4) (ek : M.acz m.c m.xs.length a n = 0) :
    Calls Try.prog 8 #[.agg (mach m), .int .u32 a, .bool b] W fun e W' => e = .returned (.bool true) ∧ Dn W W' := by
  have hl := hm.len
  have om := Lib.hid hm
  have C0 := Lib.hid fun w => awake w
  have CF := Lib.hid fun w => fun (ow : m.Ok w) => rfew m true w ow (by omega) (by omega) (decide_eq_true ⟨hx, hy⟩)
  have hp := M.core_pc hm.core
  obtain ⟨x1, ex1⟩ : ∃ x, M.alv m.c m.xs (M.pc m.c) 4 = x := ⟨_, rfl⟩
  obtain ⟨k1, ek1⟩ : ∃ x, M.acz m.c m.xs.length (M.pc m.c) 4 = x := ⟨_, rfl⟩
  obtain ⟨v1, ev1⟩ : ∃ x, M.atv m.c m.xs.length (M.pc m.c) 4 = x := ⟨_, rfl⟩
  obtain ⟨x3, ex3⟩ : ∃ x, M.alv m.c m.xs a n = x := ⟨_, rfl⟩
  have C1 := Lib.hid fun w => fun (ow : m.Ok w) => ffetch m w ow (by omega) x1 k1 v1 ex1 ek1 ev1
  have C2 := Lib.hid fun w => fun (ow : m.Ok w) => fload m (M.pc m.c) 4 w ow (by omega) hp.1 hp.2 (by decide) (by decide) x1 k1 v1 ex1 ek1 ev1
  have C3 := Lib.hid fun w => size_ b n w hn
  have hk := M.acz_hit ek
  have hu := M.ub_rng hm.core
  obtain ⟨p, ep⟩ : ∃ p, M.ub m.c + a = p := ⟨_, rfl⟩
  have C4 := Lib.hid fun w => fun (ow : m.Ok w) => resolve m a n p 0 0 w ow (by omega) a0 a1 n0 n1 (by rw [← ep]; exact M.apa_yes ek) ek (M.atv_yes ek)
  have C5 := Lib.hid fun w => fun (ow : m.Ok w) => fload m a n w ow (by omega) a0 a1 n0 n1 x3 0 0 ex3 ek (M.atv_yes ek)
  have p0 : 0 ≤ p := by omega
  have p1 : p < 4294967296 := by omega
  have tl : decide (p + n ≤ (m.xs.length : Int)) = true := decide_eq_true (by omega)
  have q2 : ∀ w, (Op.equalIn 10000 35 (.agg #[.int .i64 0, .int .u32 0]) (.agg #[.int .i64 0, .int .u32 0])).run Try.prog w = .ok true w := fun w => by rw [eqTrap]; exact congrArg (fun b => Result.ok b w) (rfl)
  have q1 : ∀ w, (Op.equalIn 10000 35 (.agg #[.int .i64 k1, .int .u32 v1]) (.agg #[.int .i64 k1, .int .u32 v1])).run Try.prog w = .ok true w := fun w => by rw [eqTrap]; exact congrArg (fun b => Result.ok b w) (by simp)
  have b1 : (x1 == x1) = true := by simp
  clear ex1 ek1 ev1 ex3 hp ek hk hu ep
  have HD := Lib.hid (Dn.refl W)
  obtain ⟨x0, b_r, hw0, hb0, r, d', nn⟩ := new_blk W 30 (mach m)
  have HL_r : Hid (W.heap.size ≤ b_r) := Lib.hid (by have := HD.out.size; omega)
  clear nn
  replace om := Lib.hid (om.out.dn d')
  replace HD := Lib.hid (HD.out.trans d')
  clear d'
  go_enter Try.func8, Try.ntmps8
  go_wp2_with fail
  rw [← hw0, ← hb0]
  clear hw0 hb0
  have c0 := r.pc hl
  go_wp2_with (first | ((with_reducible refine load33 r hl ?_ ?_ ?_); rfl; rfl) | ((with_reducible refine loadCore r hl ?_ ?_ ?_); rfl; rfl) | ((with_reducible refine loadCsr r hl ?_ ?_ ?_); rfl; rfl) | (go_at_call 9; (first | (with_reducible refine (C0.out _).mono ?_)); rintro e w' ⟨rfl, d'⟩; replace r := r.dn d'; replace om := Lib.hid (om.out.dn d'); replace HD := Lib.hid (HD.out.trans d'); replace c0 := r.pc hl; clear d') | (go_at_call 10; (first | (with_reducible refine (CF.out _ om.out).mono ?_)); rintro e w' ⟨rfl, d'⟩; replace r := r.dn d'; replace om := Lib.hid (om.out.dn d'); replace HD := Lib.hid (HD.out.trans d'); replace c0 := r.pc hl; clear d') | (go_at_call 16; (first | (with_reducible refine (C1.out _ om.out).mono ?_)); rintro e w' ⟨rfl, d'⟩; replace r := r.dn d'; replace om := Lib.hid (om.out.dn d'); replace HD := Lib.hid (HD.out.trans d'); replace c0 := r.pc hl; clear d') | ((with_reducible refine allocTrap (b := w'.heap.size) rfl ?_ ?_); rfl; refine Hid.out ?_))
  refine Lib.hid ?_
  obtain ⟨x', b_t, hw, hb, t, d', nn⟩ := new_blk w' 35 #[.int .i64 0, .int .u32 0]
  have n_r_t := Lib.hid (nn _ r.lt)
  have HL_t : Hid (W.heap.size ≤ b_t) := Lib.hid (by have := HD.out.size; omega)
  rw [← hw, ← hb]
  clear hw hb nn
  replace r := r.dn d'
  replace om := Lib.hid (om.out.dn d')
  replace HD := Lib.hid (HD.out.trans d')
  replace c0 := r.pc hl
  clear d'
  go_wp2_with (first | ((with_reducible refine load33 r hl ?_ ?_ ?_); rfl; rfl) | ((with_reducible refine loadCore r hl ?_ ?_ ?_); rfl; rfl) | ((with_reducible refine loadCsr r hl ?_ ?_ ?_); rfl; rfl) | ((with_reducible refine loadTrap t ?_ ?_ ?_); rfl; rfl) | ((with_reducible refine storeTrap (k := k1) (v := v1) t ?_ ?_ ?_ ?_); rfl; rfl; rfl; intro w' r' t'; refine Hid.out ?_))
  refine Lib.hid ?_
  replace om := Lib.hid (om.out.trn t (NoU8.trap _ _) t')
  replace r := r.trn t' n_r_t.out
  replace HD := Lib.hid (HD.out.trn HL_t.out t')
  clear t' t
  have t := r'
  clear r'
  replace c0 := r.pc hl
  go_wp2_with (first | ((with_reducible refine load33 r hl ?_ ?_ ?_); rfl; rfl) | ((with_reducible refine loadCore r hl ?_ ?_ ?_); rfl; rfl) | ((with_reducible refine loadCsr r hl ?_ ?_ ?_); rfl; rfl) | ((with_reducible refine loadTrap t ?_ ?_ ?_); rfl; rfl) | (go_at_call 14; (first | (with_reducible refine (C2.out _ om.out).mono ?_)); rintro e w' ⟨rfl, d'⟩; replace r := r.dn d'; replace t := t.dn d'; replace om := Lib.hid (om.out.dn d'); replace HD := Lib.hid (HD.out.trans d'); replace c0 := r.pc hl; clear d') | ((with_reducible refine allocTrap (b := w'.heap.size) rfl ?_ ?_); rfl; refine Hid.out ?_))
  refine Lib.hid ?_
  obtain ⟨x', b_u, hw, hb, u, d', nn⟩ := new_blk w' 35 #[.int .i64 0, .int .u32 0]
  have n_r_u := Lib.hid (nn _ r.lt)
  have n_t_u := Lib.hid (nn _ t.lt)
  have HL_u : Hid (W.heap.size ≤ b_u) := Lib.hid (by have := HD.out.size; omega)
  rw [← hw, ← hb]
  clear hw hb nn
  replace r := r.dn d'
  replace t := t.dn d'
  replace om := Lib.hid (om.out.dn d')
  replace HD := Lib.hid (HD.out.trans d')
  replace c0 := r.pc hl
  clear d'
  go_wp2_with (first | ((with_reducible refine load33 r hl ?_ ?_ ?_); rfl; rfl) | ((with_reducible refine loadCore r hl ?_ ?_ ?_); rfl; rfl) | ((with_reducible refine loadCsr r hl ?_ ?_ ?_); rfl; rfl) | ((with_reducible refine loadTrap t ?_ ?_ ?_); rfl; rfl) | ((with_reducible refine loadTrap u ?_ ?_ ?_); rfl; rfl) | ((with_reducible refine storeTrap (k := k1) (v := v1) u ?_ ?_ ?_ ?_); rfl; rfl; rfl; intro w' r' t'; refine Hid.out ?_))
  refine Lib.hid ?_
  replace om := Lib.hid (om.out.trn u (NoU8.trap _ _) t')
  replace r := r.trn t' n_r_u.out
  replace t := t.trn t' n_t_u.out
  replace HD := Lib.hid (HD.out.trn HL_u.out t')
  clear t' u
  have u := r'
  clear r'
  replace c0 := r.pc hl
  go_wp2_with (first | ((with_reducible refine load33 r hl ?_ ?_ ?_); rfl; rfl) | ((with_reducible refine loadCore r hl ?_ ?_ ?_); rfl; rfl) | ((with_reducible refine loadCsr r hl ?_ ?_ ?_); rfl; rfl) | ((with_reducible refine loadTrap t ?_ ?_ ?_); rfl; rfl) | ((with_reducible refine loadTrap u ?_ ?_ ?_); rfl; rfl) | (go_at_call 11; (first | (with_reducible refine (C3.out _).mono ?_)); rintro e w' ⟨rfl, rfl⟩) | (go_at_call 12; (first | (with_reducible refine (C4.out _ om.out).mono ?_)); rintro e w' ⟨rfl, d'⟩; replace r := r.dn d'; replace t := t.dn d'; replace u := u.dn d'; replace om := Lib.hid (om.out.dn d'); replace HD := Lib.hid (HD.out.trans d'); replace c0 := r.pc hl; clear d') | ((with_reducible refine allocTrap (b := w'.heap.size) rfl ?_ ?_); rfl; refine Hid.out ?_))
  refine Lib.hid ?_
  obtain ⟨x', b_x, hw, hb, x, d', nn⟩ := new_blk w' 35 #[.int .i64 0, .int .u32 0]
  have n_r_x := Lib.hid (nn _ r.lt)
  have n_t_x := Lib.hid (nn _ t.lt)
  have n_u_x := Lib.hid (nn _ u.lt)
  have HL_x : Hid (W.heap.size ≤ b_x) := Lib.hid (by have := HD.out.size; omega)
  rw [← hw, ← hb]
  clear hw hb nn
  replace r := r.dn d'
  replace t := t.dn d'
  replace u := u.dn d'
  replace om := Lib.hid (om.out.dn d')
  replace HD := Lib.hid (HD.out.trans d')
  replace c0 := r.pc hl
  clear d'
  go_wp2_with (first | ((with_reducible refine load33 r hl ?_ ?_ ?_); rfl; rfl) | ((with_reducible refine loadCore r hl ?_ ?_ ?_); rfl; rfl) | ((with_reducible refine loadCsr r hl ?_ ?_ ?_); rfl; rfl) | ((with_reducible refine loadTrap t ?_ ?_ ?_); rfl; rfl) | ((with_reducible refine loadTrap u ?_ ?_ ?_); rfl; rfl) | ((with_reducible refine loadTrap x ?_ ?_ ?_); rfl; rfl) | ((with_reducible refine storeTrap (k := 0) (v := 0) x ?_ ?_ ?_ ?_); rfl; rfl; rfl; intro w' r' t'; refine Hid.out ?_))
  refine Lib.hid ?_
  replace om := Lib.hid (om.out.trn x (NoU8.trap _ _) t')
  replace r := r.trn t' n_r_x.out
  replace t := t.trn t' n_t_x.out
  replace u := u.trn t' n_u_x.out
  replace HD := Lib.hid (HD.out.trn HL_x.out t')
  clear t' x
  have x := r'
  clear r'
  replace c0 := r.pc hl
  go_wp2_with (first | ((with_reducible refine load33 r hl ?_ ?_ ?_); rfl; rfl) | ((with_reducible refine loadCore r hl ?_ ?_ ?_); rfl; rfl) | ((with_reducible refine loadCsr r hl ?_ ?_ ?_); rfl; rfl) | ((with_reducible refine loadTrap t ?_ ?_ ?_); rfl; rfl) | ((with_reducible refine loadTrap u ?_ ?_ ?_); rfl; rfl) | ((with_reducible refine loadTrap x ?_ ?_ ?_); rfl; rfl) | (go_at_call 14; (first | (with_reducible refine (C5.out _ om.out).mono ?_)); rintro e w' ⟨rfl, d'⟩; replace r := r.dn d'; replace t := t.dn d'; replace u := u.dn d'; replace x := x.dn d'; replace om := Lib.hid (om.out.dn d'); replace HD := Lib.hid (HD.out.trans d'); replace c0 := r.pc hl; clear d') | ((with_reducible refine allocTrap (b := w'.heap.size) rfl ?_ ?_); rfl; refine Hid.out ?_))
  refine Lib.hid ?_
  obtain ⟨x', b_y, hw, hb, y, d', nn⟩ := new_blk w' 35 #[.int .i64 0, .int .u32 0]
  have n_r_y := Lib.hid (nn _ r.lt)
  have n_t_y := Lib.hid (nn _ t.lt)
  have n_u_y := Lib.hid (nn _ u.lt)
  have n_x_y := Lib.hid (nn _ x.lt)
  have HL_y : Hid (W.heap.size ≤ b_y) := Lib.hid (by have := HD.out.size; omega)
  rw [← hw, ← hb]
  clear hw hb nn
  replace r := r.dn d'
  replace t := t.dn d'
  replace u := u.dn d'
  replace x := x.dn d'
  replace om := Lib.hid (om.out.dn d')
  replace HD := Lib.hid (HD.out.trans d')
  replace c0 := r.pc hl
  clear d'
  go_wp2_with (first | ((with_reducible refine load33 r hl ?_ ?_ ?_); rfl; rfl) | ((with_reducible refine loadCore r hl ?_ ?_ ?_); rfl; rfl) | ((with_reducible refine loadCsr r hl ?_ ?_ ?_); rfl; rfl) | ((with_reducible refine loadTrap t ?_ ?_ ?_); rfl; rfl) | ((with_reducible refine loadTrap u ?_ ?_ ?_); rfl; rfl) | ((with_reducible refine loadTrap x ?_ ?_ ?_); rfl; rfl) | ((with_reducible refine loadTrap y ?_ ?_ ?_); rfl; rfl) | ((with_reducible refine storeTrap (k := 0) (v := 0) y ?_ ?_ ?_ ?_); rfl; rfl; rfl; intro w' r' t'; refine Hid.out ?_))
  refine Lib.hid ?_
  replace om := Lib.hid (om.out.trn y (NoU8.trap _ _) t')
  replace r := r.trn t' n_r_y.out
  replace t := t.trn t' n_t_y.out
  replace u := u.trn t' n_u_y.out
  replace x := x.trn t' n_x_y.out
  replace HD := Lib.hid (HD.out.trn HL_y.out t')
  clear t' y
  have y := r'
  clear r'
  replace c0 := r.pc hl
  have c1 := r.mem hl
  go_wp2_with (first | ((with_reducible refine load33 r hl ?_ ?_ ?_); rfl; rfl) | ((with_reducible refine loadCore r hl ?_ ?_ ?_); rfl; rfl) | ((with_reducible refine loadCsr r hl ?_ ?_ ?_); rfl; rfl) | ((with_reducible refine loadTrap t ?_ ?_ ?_); rfl; rfl) | ((with_reducible refine loadTrap u ?_ ?_ ?_); rfl; rfl) | ((with_reducible refine loadTrap x ?_ ?_ ?_); rfl; rfl) | ((with_reducible refine loadTrap y ?_ ?_ ?_); rfl; rfl))
  go_ret
  exact ⟨rfl, HD.out⟩
set_option maxRecDepth 100000 in
set_option maxHeartbeats 2000000 in
theorem lPc_trap (m : Mc) (a : Int) (a0 : 0 ≤ a) (a1 : a < 4294967296) (b : Bool) (W : World) (hm : m.Ok W) (hx : m.xs.length ≤ 600) (hy : m.ys.length ≤ 600) (n : Int) (hn : (if b = true then 4 else 1 : Int) = n) (n0 : 1 ≤ n) (n1 : n ≤ 4) (k v : Int) (ek : M.acz m.c m.xs.length a n = k) (ev : M.atv m.c m.xs.length a n = v) (hk : k ≠ 0) :
    Calls Try.prog 8 #[.agg (mach m), .int .u32 a, .bool b] W fun e W' => e = .returned (.bool true) ∧ Dn W W' := by
  have hl := hm.len
  have om := Lib.hid hm
  have C0 := Lib.hid fun w => awake w
  have CF := Lib.hid fun w => fun (ow : m.Ok w) => rfew m true w ow (by omega) (by omega) (decide_eq_true ⟨hx, hy⟩)
  have hp := M.core_pc hm.core
  obtain ⟨x1, ex1⟩ : ∃ x, M.alv m.c m.xs (M.pc m.c) 4 = x := ⟨_, rfl⟩
  obtain ⟨k1, ek1⟩ : ∃ x, M.acz m.c m.xs.length (M.pc m.c) 4 = x := ⟨_, rfl⟩
  obtain ⟨v1, ev1⟩ : ∃ x, M.atv m.c m.xs.length (M.pc m.c) 4 = x := ⟨_, rfl⟩
  obtain ⟨x3, ex3⟩ : ∃ x, M.alv m.c m.xs a n = x := ⟨_, rfl⟩
  have C1 := Lib.hid fun w => fun (ow : m.Ok w) => ffetch m w ow (by omega) x1 k1 v1 ex1 ek1 ev1
  have C2 := Lib.hid fun w => fun (ow : m.Ok w) => fload m (M.pc m.c) 4 w ow (by omega) hp.1 hp.2 (by decide) (by decide) x1 k1 v1 ex1 ek1 ev1
  have C3 := Lib.hid fun w => size_ b n w hn
  have C4 := Lib.hid fun w => fun (ow : m.Ok w) => resolve m a n 0 k v w ow (by omega) a0 a1 n0 n1 (M.apa_no (by rw [ek]; exact hk)) ek ev
  have C5 := Lib.hid fun w => fun (ow : m.Ok w) => fload m a n w ow (by omega) a0 a1 n0 n1 x3 k v ex3 ek ev
  have hkb : (k == 0) = false := by simpa using hk
  have q2 : ∀ w, (Op.equalIn 10000 35 (.agg #[.int .i64 k, .int .u32 v]) (.agg #[.int .i64 k, .int .u32 v])).run Try.prog w = .ok true w := fun w => by rw [eqTrap]; exact congrArg (fun b => Result.ok b w) (by simp)
  have q3 : ∀ w, (Op.equalIn 10000 35 (.agg #[.int .i64 k, .int .u32 v]) (.agg #[.int .i64 0, .int .u32 0])).run Try.prog w = .ok false w := fun w => by rw [eqTrap]; exact congrArg (fun b => Result.ok b w) (by rw [hkb]; rfl)
  have q1 : ∀ w, (Op.equalIn 10000 35 (.agg #[.int .i64 k1, .int .u32 v1]) (.agg #[.int .i64 k1, .int .u32 v1])).run Try.prog w = .ok true w := fun w => by rw [eqTrap]; exact congrArg (fun b => Result.ok b w) (by simp)
  have b1 : (x1 == x1) = true := by simp
  clear ex1 ek1 ev1 ex3 hp ek ev hk
  have HD := Lib.hid (Dn.refl W)
  obtain ⟨x0, b_r, hw0, hb0, r, d', nn⟩ := new_blk W 30 (mach m)
  have HL_r : Hid (W.heap.size ≤ b_r) := Lib.hid (by have := HD.out.size; omega)
  clear nn
  replace om := Lib.hid (om.out.dn d')
  replace HD := Lib.hid (HD.out.trans d')
  clear d'
  go_enter Try.func8, Try.ntmps8
  go_wp2_with fail
  rw [← hw0, ← hb0]
  clear hw0 hb0
  have c0 := r.pc hl
  go_wp2_with (first | ((with_reducible refine load33 r hl ?_ ?_ ?_); rfl; rfl) | ((with_reducible refine loadCore r hl ?_ ?_ ?_); rfl; rfl) | ((with_reducible refine loadCsr r hl ?_ ?_ ?_); rfl; rfl) | (go_at_call 9; (first | (with_reducible refine (C0.out _).mono ?_)); rintro e w' ⟨rfl, d'⟩; replace r := r.dn d'; replace om := Lib.hid (om.out.dn d'); replace HD := Lib.hid (HD.out.trans d'); replace c0 := r.pc hl; clear d') | (go_at_call 10; (first | (with_reducible refine (CF.out _ om.out).mono ?_)); rintro e w' ⟨rfl, d'⟩; replace r := r.dn d'; replace om := Lib.hid (om.out.dn d'); replace HD := Lib.hid (HD.out.trans d'); replace c0 := r.pc hl; clear d') | (go_at_call 16; (first | (with_reducible refine (C1.out _ om.out).mono ?_)); rintro e w' ⟨rfl, d'⟩; replace r := r.dn d'; replace om := Lib.hid (om.out.dn d'); replace HD := Lib.hid (HD.out.trans d'); replace c0 := r.pc hl; clear d') | ((with_reducible refine allocTrap (b := w'.heap.size) rfl ?_ ?_); rfl; refine Hid.out ?_))
  refine Lib.hid ?_
  obtain ⟨x', b_t, hw, hb, t, d', nn⟩ := new_blk w' 35 #[.int .i64 0, .int .u32 0]
  have n_r_t := Lib.hid (nn _ r.lt)
  have HL_t : Hid (W.heap.size ≤ b_t) := Lib.hid (by have := HD.out.size; omega)
  rw [← hw, ← hb]
  clear hw hb nn
  replace r := r.dn d'
  replace om := Lib.hid (om.out.dn d')
  replace HD := Lib.hid (HD.out.trans d')
  replace c0 := r.pc hl
  clear d'
  go_wp2_with (first | ((with_reducible refine load33 r hl ?_ ?_ ?_); rfl; rfl) | ((with_reducible refine loadCore r hl ?_ ?_ ?_); rfl; rfl) | ((with_reducible refine loadCsr r hl ?_ ?_ ?_); rfl; rfl) | ((with_reducible refine loadTrap t ?_ ?_ ?_); rfl; rfl) | ((with_reducible refine storeTrap (k := k1) (v := v1) t ?_ ?_ ?_ ?_); rfl; rfl; rfl; intro w' r' t'; refine Hid.out ?_))
  refine Lib.hid ?_
  replace om := Lib.hid (om.out.trn t (NoU8.trap _ _) t')
  replace r := r.trn t' n_r_t.out
  replace HD := Lib.hid (HD.out.trn HL_t.out t')
  clear t' t
  have t := r'
  clear r'
  replace c0 := r.pc hl
  go_wp2_with (first | ((with_reducible refine load33 r hl ?_ ?_ ?_); rfl; rfl) | ((with_reducible refine loadCore r hl ?_ ?_ ?_); rfl; rfl) | ((with_reducible refine loadCsr r hl ?_ ?_ ?_); rfl; rfl) | ((with_reducible refine loadTrap t ?_ ?_ ?_); rfl; rfl) | (go_at_call 14; (first | (with_reducible refine (C2.out _ om.out).mono ?_)); rintro e w' ⟨rfl, d'⟩; replace r := r.dn d'; replace t := t.dn d'; replace om := Lib.hid (om.out.dn d'); replace HD := Lib.hid (HD.out.trans d'); replace c0 := r.pc hl; clear d') | ((with_reducible refine allocTrap (b := w'.heap.size) rfl ?_ ?_); rfl; refine Hid.out ?_))
  refine Lib.hid ?_
  obtain ⟨x', b_u, hw, hb, u, d', nn⟩ := new_blk w' 35 #[.int .i64 0, .int .u32 0]
  have n_r_u := Lib.hid (nn _ r.lt)
  have n_t_u := Lib.hid (nn _ t.lt)
  have HL_u : Hid (W.heap.size ≤ b_u) := Lib.hid (by have := HD.out.size; omega)
  rw [← hw, ← hb]
  clear hw hb nn
  replace r := r.dn d'
  replace t := t.dn d'
  replace om := Lib.hid (om.out.dn d')
  replace HD := Lib.hid (HD.out.trans d')
  replace c0 := r.pc hl
  clear d'
  go_wp2_with (first | ((with_reducible refine load33 r hl ?_ ?_ ?_); rfl; rfl) | ((with_reducible refine loadCore r hl ?_ ?_ ?_); rfl; rfl) | ((with_reducible refine loadCsr r hl ?_ ?_ ?_); rfl; rfl) | ((with_reducible refine loadTrap t ?_ ?_ ?_); rfl; rfl) | ((with_reducible refine loadTrap u ?_ ?_ ?_); rfl; rfl) | ((with_reducible refine storeTrap (k := k1) (v := v1) u ?_ ?_ ?_ ?_); rfl; rfl; rfl; intro w' r' t'; refine Hid.out ?_))
  refine Lib.hid ?_
  replace om := Lib.hid (om.out.trn u (NoU8.trap _ _) t')
  replace r := r.trn t' n_r_u.out
  replace t := t.trn t' n_t_u.out
  replace HD := Lib.hid (HD.out.trn HL_u.out t')
  clear t' u
  have u := r'
  clear r'
  replace c0 := r.pc hl
  go_wp2_with (first | ((with_reducible refine load33 r hl ?_ ?_ ?_); rfl; rfl) | ((with_reducible refine loadCore r hl ?_ ?_ ?_); rfl; rfl) | ((with_reducible refine loadCsr r hl ?_ ?_ ?_); rfl; rfl) | ((with_reducible refine loadTrap t ?_ ?_ ?_); rfl; rfl) | ((with_reducible refine loadTrap u ?_ ?_ ?_); rfl; rfl) | (go_at_call 11; (first | (with_reducible refine (C3.out _).mono ?_)); rintro e w' ⟨rfl, rfl⟩) | (go_at_call 12; (first | (with_reducible refine (C4.out _ om.out).mono ?_)); rintro e w' ⟨rfl, d'⟩; replace r := r.dn d'; replace t := t.dn d'; replace u := u.dn d'; replace om := Lib.hid (om.out.dn d'); replace HD := Lib.hid (HD.out.trans d'); replace c0 := r.pc hl; clear d') | ((with_reducible refine allocTrap (b := w'.heap.size) rfl ?_ ?_); rfl; refine Hid.out ?_))
  refine Lib.hid ?_
  obtain ⟨x', b_x, hw, hb, x, d', nn⟩ := new_blk w' 35 #[.int .i64 0, .int .u32 0]
  have n_r_x := Lib.hid (nn _ r.lt)
  have n_t_x := Lib.hid (nn _ t.lt)
  have n_u_x := Lib.hid (nn _ u.lt)
  have HL_x : Hid (W.heap.size ≤ b_x) := Lib.hid (by have := HD.out.size; omega)
  rw [← hw, ← hb]
  clear hw hb nn
  replace r := r.dn d'
  replace t := t.dn d'
  replace u := u.dn d'
  replace om := Lib.hid (om.out.dn d')
  replace HD := Lib.hid (HD.out.trans d')
  replace c0 := r.pc hl
  clear d'
  go_wp2_with (first | ((with_reducible refine load33 r hl ?_ ?_ ?_); rfl; rfl) | ((with_reducible refine loadCore r hl ?_ ?_ ?_); rfl; rfl) | ((with_reducible refine loadCsr r hl ?_ ?_ ?_); rfl; rfl) | ((with_reducible refine loadTrap t ?_ ?_ ?_); rfl; rfl) | ((with_reducible refine loadTrap u ?_ ?_ ?_); rfl; rfl) | ((with_reducible refine loadTrap x ?_ ?_ ?_); rfl; rfl) | ((with_reducible refine storeTrap (k := k) (v := v) x ?_ ?_ ?_ ?_); rfl; rfl; rfl; intro w' r' t'; refine Hid.out ?_))
  refine Lib.hid ?_
  replace om := Lib.hid (om.out.trn x (NoU8.trap _ _) t')
  replace r := r.trn t' n_r_x.out
  replace t := t.trn t' n_t_x.out
  replace u := u.trn t' n_u_x.out
  replace HD := Lib.hid (HD.out.trn HL_x.out t')
  clear t' x
  have x := r'
  clear r'
  replace c0 := r.pc hl
  go_wp2_with (first | ((with_reducible refine load33 r hl ?_ ?_ ?_); rfl; rfl) | ((with_reducible refine loadCore r hl ?_ ?_ ?_); rfl; rfl) | ((with_reducible refine loadCsr r hl ?_ ?_ ?_); rfl; rfl) | ((with_reducible refine loadTrap t ?_ ?_ ?_); rfl; rfl) | ((with_reducible refine loadTrap u ?_ ?_ ?_); rfl; rfl) | ((with_reducible refine loadTrap x ?_ ?_ ?_); rfl; rfl) | (go_at_call 14; (first | (with_reducible refine (C5.out _ om.out).mono ?_)); rintro e w' ⟨rfl, d'⟩; replace r := r.dn d'; replace t := t.dn d'; replace u := u.dn d'; replace x := x.dn d'; replace om := Lib.hid (om.out.dn d'); replace HD := Lib.hid (HD.out.trans d'); replace c0 := r.pc hl; clear d') | ((with_reducible refine allocTrap (b := w'.heap.size) rfl ?_ ?_); rfl; refine Hid.out ?_))
  refine Lib.hid ?_
  obtain ⟨x', b_y, hw, hb, y, d', nn⟩ := new_blk w' 35 #[.int .i64 0, .int .u32 0]
  have n_r_y := Lib.hid (nn _ r.lt)
  have n_t_y := Lib.hid (nn _ t.lt)
  have n_u_y := Lib.hid (nn _ u.lt)
  have n_x_y := Lib.hid (nn _ x.lt)
  have HL_y : Hid (W.heap.size ≤ b_y) := Lib.hid (by have := HD.out.size; omega)
  rw [← hw, ← hb]
  clear hw hb nn
  replace r := r.dn d'
  replace t := t.dn d'
  replace u := u.dn d'
  replace x := x.dn d'
  replace om := Lib.hid (om.out.dn d')
  replace HD := Lib.hid (HD.out.trans d')
  replace c0 := r.pc hl
  clear d'
  go_wp2_with (first | ((with_reducible refine load33 r hl ?_ ?_ ?_); rfl; rfl) | ((with_reducible refine loadCore r hl ?_ ?_ ?_); rfl; rfl) | ((with_reducible refine loadCsr r hl ?_ ?_ ?_); rfl; rfl) | ((with_reducible refine loadTrap t ?_ ?_ ?_); rfl; rfl) | ((with_reducible refine loadTrap u ?_ ?_ ?_); rfl; rfl) | ((with_reducible refine loadTrap x ?_ ?_ ?_); rfl; rfl) | ((with_reducible refine loadTrap y ?_ ?_ ?_); rfl; rfl) | ((with_reducible refine storeTrap (k := k) (v := v) y ?_ ?_ ?_ ?_); rfl; rfl; rfl; intro w' r' t'; refine Hid.out ?_))
  refine Lib.hid ?_
  replace om := Lib.hid (om.out.trn y (NoU8.trap _ _) t')
  replace r := r.trn t' n_r_y.out
  replace t := t.trn t' n_t_y.out
  replace u := u.trn t' n_u_y.out
  replace x := x.trn t' n_x_y.out
  replace HD := Lib.hid (HD.out.trn HL_y.out t')
  clear t' y
  have y := r'
  clear r'
  replace c0 := r.pc hl
  have c1 := r.mem hl
  go_wp2_with (first | ((with_reducible refine load33 r hl ?_ ?_ ?_); rfl; rfl) | ((with_reducible refine loadCore r hl ?_ ?_ ?_); rfl; rfl) | ((with_reducible refine loadCsr r hl ?_ ?_ ?_); rfl; rfl) | ((with_reducible refine loadTrap t ?_ ?_ ?_); rfl; rfl) | ((with_reducible refine loadTrap u ?_ ?_ ?_); rfl; rfl) | ((with_reducible refine loadTrap x ?_ ?_ ?_); rfl; rfl) | ((with_reducible refine loadTrap y ?_ ?_ ?_); rfl; rfl))
  go_ret
  exact ⟨rfl, HD.out⟩
theorem lPc (m : Mc) (a : Int) (a0 : 0 ≤ a) (a1 : a < 4294967296) (b : Bool) (W : World) (hm : m.Ok W) (hx : m.xs.length ≤ 9223372036854775807) (hy : m.ys.length ≤ 9223372036854775807) :
    Calls Try.prog 8 #[.agg (mach m), .int .u32 a, .bool b] W fun e W' => e = .returned (.bool true) ∧ Dn W W' := by
  by_cases hb : m.xs.length ≤ 600 ∧ m.ys.length ≤ 600
  · obtain ⟨n, hn⟩ : ∃ n, (if b = true then 4 else 1 : Int) = n := ⟨_, rfl⟩
    have hn2 : 1 ≤ n ∧ n ≤ 4 := by cases b <;> (rw [← hn]; decide)
    by_cases hk : M.acz m.c m.xs.length a n = 0
    · exact lPc_ok m a a0 a1 b W hm hb.1 hb.2 n hn hn2.1 hn2.2 hk
    · exact lPc_trap m a a0 a1 b W hm hb.1 hb.2 n hn hn2.1 hn2.2 _ _ rfl rfl hk
  · exact lPc_no m a a0 a1 b W hm hx hy hb
end Go.Proofs.Ytchekfipdhoejaa
