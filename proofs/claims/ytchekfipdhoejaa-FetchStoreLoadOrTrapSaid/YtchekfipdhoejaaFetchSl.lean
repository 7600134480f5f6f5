/-
  'FetchStoreLoadOrTrap' returns true at every input: the walk. Conditions: the machine is one that can come in.
-/
import Derived.Test.YtchekfipdhoejaaFetchAwake
namespace Go.Proofs.Ytchekfipdhoejaa
open Go.ChangeShapes Go.WideShapes Go.ChangeAt Go.RowKit Go.Sort
set_option linter.unusedVariables false

theorem Blk.cause {w : World} {b : Nat} {t : TypeId} {k v : Int} (g : Blk w b t #[.int .i64 k, .int .u32 v]) : w.cell? ⟨b, 0, none⟩ = some (.int .i64 k) := g.cell rfl
theorem Blk.tval {w : World} {b : Nat} {t : TypeId} {k v : Int} (g : Blk w b t #[.int .i64 k, .int .u32 v]) : w.cell? ⟨b, 1, none⟩ = some (.int .u32 v) := g.cell rfl
namespace M
/-- a load of the cell that was stored -/
theorem alv_asv {c xs : List Int} {a n v : Int} (hc : Core c) (h : acz c xs.length a n = 0) (a0 : 0 ≤ a) (n0 : 1 ≤ n) (v0 : 0 ≤ v) : alv c (asv c xs a n v) a n = v % 256 ^ n.toNat := by
  have hk := acz_hit h
  have hu := ub_rng hc
  unfold alv
  rw [asv_len, if_pos h]
  unfold asv
  rw [if_pos h]
  generalize hp : (ub c + a).toNat = p
  have hpn : p + n.toNat ≤ xs.length := by omega
  unfold st
  rw [if_pos hpn]
  unfold ld
  rw [wr_len (by rw [bytes_len]; exact hpn), if_pos hpn]
  have e := rd_wr (xs := xs) (bs := bytes v n.toNat) (a := p) (by omega)
  rw [bytes_len] at e
  rw [e, leval_bytes v0]
/-- a load of a word that was not -/
theorem alv_other {c xs : List Int} {a b n v : Int} (hc : Core c) (h : acz c xs.length a n = 0) (a0 : 0 ≤ a) (b0 : 0 ≤ b) (hn : n = 4 ∨ n = 1) (hb : b % 4 = 0) (hab : a / 4 ≠ b / 4) : alv c (asv c xs a n v) b 4 = alv c xs b 4 := by
  have hk := acz_hit h
  have hu := ub_rng hc
  unfold alv
  rw [asv_len]
  split
  · rename_i hB
    have hkb := acz_hit hB
    unfold asv
    rw [if_pos h]
    generalize hp : (ub c + a).toNat = p
    generalize hq : (ub c + b).toNat = q
    have hpn : p + n.toNat ≤ xs.length := by omega
    have hqn : q + (4 : Int).toNat ≤ xs.length := by omega
    unfold st
    rw [if_pos hpn]
    unfold ld
    rw [wr_len (by rw [bytes_len]; exact hpn), if_pos hqn, if_pos hqn]
    congr 1
    by_cases hlt : q < p
    · exact rd_wr_before (by omega) (by omega)
    · exact rd_wr_after (by omega) (by rw [bytes_len]; omega)
  · rfl
end M
set_option maxRecDepth 100000 in
set_option maxHeartbeats 2000000 in
theorem lSl_no (m : Mc) (a : Int) (a0 : 0 ≤ a) (a1 : a < 4294967296) (b : Int) (b0 : 0 ≤ b) (b1 : b < 4294967296) (wd : Bool) (v : Int) (v0 : 0 ≤ v) (v1 : v < 4294967296) (W : World) (hm : m.Ok W) (hx : m.xs.length ≤ 9223372036854775807) (hy : m.ys.length ≤ 9223372036854775807) (hb : ¬ (m.xs.length ≤ 600 ∧ m.ys.length ≤ 600)) :
    Calls Try.prog 4 #[.agg (mach m), .int .u32 a, .int .u32 b, .bool wd, .int .u32 v] W fun e W' => e = .returned (.bool true) ∧ Dn W W' := by
  have hl := hm.len
  have om := Lib.hid hm
  have C0 := Lib.hid fun w => awake w
  have CF := Lib.hid fun w => fun (ow : m.Ok w) => rfew m false w ow hx hy (decide_eq_false hb)
  clear hb
  have HD := Lib.hid (Dn.refl W)
  obtain ⟨x0, b_r, hw0, hb0, r, d', nn⟩ := new_blk W 30 (mach m)
  have HL_r : Hid (W.heap.size ≤ b_r) := Lib.hid (by have := HD.out.size; omega)
  clear nn
  replace om := Lib.hid (om.out.dn d')
  replace HD := Lib.hid (HD.out.trans d')
  clear d'
  go_enter Try.func4, Try.ntmps4
  go_wp2_with fail
  rw [← hw0, ← hb0]
  clear hw0 hb0
  go_wp2_with (first | ((with_reducible refine load33 r hl ?_ ?_ ?_); rfl; rfl) | ((with_reducible refine loadCore r hl ?_ ?_ ?_); rfl; rfl) | ((with_reducible refine loadCsr r hl ?_ ?_ ?_); rfl; rfl) | (go_at_call 9; (first | (with_reducible refine (C0.out _).mono ?_)); rintro e w' ⟨rfl, d'⟩; replace r := r.dn d'; replace om := Lib.hid (om.out.dn d'); replace HD := Lib.hid (HD.out.trans d'); clear d') | (go_at_call 10; (first | (with_reducible refine (CF.out _ om.out).mono ?_)); rintro e w' ⟨rfl, d'⟩; replace r := r.dn d'; replace om := Lib.hid (om.out.dn d'); replace HD := Lib.hid (HD.out.trans d'); clear d'))
  go_ret
  exact ⟨rfl, HD.out⟩
set_option maxRecDepth 100000 in
set_option maxHeartbeats 2000000 in
theorem lSl_trap3 (m : Mc) (a : Int) (a0 : 0 ≤ a) (a1 : a < 4294967296) (b : Int) (b0 : 0 ≤ b) (b1 : b < 4294967296) (wd : Bool) (v : Int) (v0 : 0 ≤ v) (v1 : v < 4294967296) (W : World) (hm : m.Ok W) (hx : m.xs.length ≤ 600) (hy : m.ys.length ≤ 600) (n : Int) (hn : (if wd = true then 4 else 1 : Int) = n) (n0 : 1 ≤ n) (n1 : n ≤ 4) (ek : M.acz m.c m.xs.length a n = 3) :
    Calls Try.prog 4 #[.agg (mach m), .int .u32 a, .int .u32 b, .bool wd, .int .u32 v] W fun e W' => e = .returned (.bool true) ∧ Dn W W' := by
  have hl := hm.len
  have om := Lib.hid hm
  have C0 := Lib.hid fun w => awake w
  have CF := Lib.hid fun w => fun (ow : m.Ok w) => rfew m true w ow (by omega) (by omega) (decide_eq_true ⟨hx, hy⟩)
  have hne : M.acz m.c m.xs.length a n ≠ 0 := by rw [ek]; decide
  have CS := Lib.hid fun w => size_ wd n w hn
  have C7 := Lib.hid fun w => fun (ow : m.Ok w) => fstore m a n v w ow (by omega) a0 a1 n0 n1 v0 v1 m.xs 3 a (M.asv_no hne) ek (M.atv_no hne)
  have C3 := Lib.hid fun w => fun (ow : m.Ok w) => fload m a n w ow (by omega) a0 a1 n0 n1 0 3 a (M.alv_no hne) ek (M.atv_no hne)
  have q1 : ∀ w, (Op.equalIn 10000 35 (.agg #[.int .i64 3, .int .u32 a]) (.agg #[.int .i64 3, .int .u32 a])).run Try.prog w = .ok true w := fun w => by rw [eqTrap]; exact congrArg (fun b => Result.ok b w) (by simp)
  have q2 : ∀ w, (Op.equalIn 10000 35 (.agg #[.int .i64 3, .int .u32 a]) (.agg #[.int .i64 0, .int .u32 0])).run Try.prog w = .ok false w := fun w => by rw [eqTrap]; exact congrArg (fun b => Result.ok b w) (rfl)
  clear ek hne hn
  have HD := Lib.hid (Dn.refl W)
  obtain ⟨x0, b_r, hw0, hb0, r, d', nn⟩ := new_blk W 30 (mach m)
  have HL_r : Hid (W.heap.size ≤ b_r) := Lib.hid (by have := HD.out.size; omega)
  clear nn
  replace om := Lib.hid (om.out.dn d')
  replace HD := Lib.hid (HD.out.trans d')
  clear d'
  go_enter Try.func4, Try.ntmps4
  go_wp2_with fail
  rw [← hw0, ← hb0]
  clear hw0 hb0
  go_wp2_with (first | ((with_reducible refine load33 r hl ?_ ?_ ?_); rfl; rfl) | ((with_reducible refine loadCore r hl ?_ ?_ ?_); rfl; rfl) | ((with_reducible refine loadCsr r hl ?_ ?_ ?_); rfl; rfl) | (go_at_call 9; (first | (with_reducible refine (C0.out _).mono ?_)); rintro e w' ⟨rfl, d'⟩; replace r := r.dn d'; replace om := Lib.hid (om.out.dn d'); replace HD := Lib.hid (HD.out.trans d'); clear d') | (go_at_call 10; (first | (with_reducible refine (CF.out _ om.out).mono ?_)); rintro e w' ⟨rfl, d'⟩; replace r := r.dn d'; replace om := Lib.hid (om.out.dn d'); replace HD := Lib.hid (HD.out.trans d'); clear d') | (go_at_call 11; (first | (with_reducible refine (CS.out _).mono ?_)); rintro e w' ⟨rfl, rfl⟩) | (go_at_call 17; (with_reducible refine (C7.out _ om.out).mono ?_); rintro e w' ⟨m1, rfl, o1, u1, d'⟩; replace r := r.dn d'; replace om := Lib.hid (om.out.dn d'); replace HD := Lib.hid (HD.out.trans d'); clear d') | ((with_reducible refine alloc33 (b := w'.heap.size) rfl ?_ ?_); rfl; refine Hid.out ?_))
  refine Lib.hid ?_
  have h1 := o1.out.len
  obtain ⟨x', b_s, hw, hb, s, d', nn⟩ := new_blk w' 30 (mach Mc.zero)
  have n_r_s := Lib.hid (nn _ r.lt)
  have HL_s : Hid (W.heap.size ≤ b_s) := Lib.hid (by have := HD.out.size; omega)
  rw [← hw, ← hb]
  clear hw hb nn
  replace r := r.dn d'
  replace om := Lib.hid (om.out.dn d')
  replace o1 := Lib.hid (o1.out.dn d')
  replace HD := Lib.hid (HD.out.trans d')
  clear d'
  go_wp2_with (first | ((with_reducible refine load33 r hl ?_ ?_ ?_); rfl; rfl) | ((with_reducible refine loadCore r hl ?_ ?_ ?_); rfl; rfl) | ((with_reducible refine loadCsr r hl ?_ ?_ ?_); rfl; rfl) | ((with_reducible refine load33 s zlen ?_ ?_ ?_); rfl; rfl) | ((with_reducible refine loadCore s zlen ?_ ?_ ?_); rfl; rfl) | ((with_reducible refine loadCsr s zlen ?_ ?_ ?_); rfl; rfl) | ((with_reducible refine allocTrap (b := x'.heap.size) rfl ?_ ?_); rfl; refine Hid.out ?_))
  refine Lib.hid ?_
  obtain ⟨x', b_t, hw, hb, t, d', nn⟩ := new_blk x' 35 #[.int .i64 0, .int .u32 0]
  have n_r_t := Lib.hid (nn _ r.lt)
  have n_s_t := Lib.hid (nn _ s.lt)
  have HL_t : Hid (W.heap.size ≤ b_t) := Lib.hid (by have := HD.out.size; omega)
  rw [← hw, ← hb]
  clear hw hb nn
  replace r := r.dn d'
  replace s := s.dn d'
  replace om := Lib.hid (om.out.dn d')
  replace o1 := Lib.hid (o1.out.dn d')
  replace HD := Lib.hid (HD.out.trans d')
  clear d'
  go_wp2_with (first | ((with_reducible refine load33 r hl ?_ ?_ ?_); rfl; rfl) | ((with_reducible refine loadCore r hl ?_ ?_ ?_); rfl; rfl) | ((with_reducible refine loadCsr r hl ?_ ?_ ?_); rfl; rfl) | ((with_reducible refine load33 s zlen ?_ ?_ ?_); rfl; rfl) | ((with_reducible refine loadCore s zlen ?_ ?_ ?_); rfl; rfl) | ((with_reducible refine loadCsr s zlen ?_ ?_ ?_); rfl; rfl) | ((with_reducible refine loadTrap t ?_ ?_ ?_); rfl; rfl) | ((with_reducible refine store33 m1 h1 s zlen ?_ ?_ ?_ ?_); rfl; rfl; rfl; intro w' r' t'; refine Hid.out ?_))
  refine Lib.hid ?_
  replace om := Lib.hid (om.out.trn s (NoU8.mach _) t')
  replace o1 := Lib.hid (o1.out.trn s (NoU8.mach _) t')
  replace r := r.trn t' n_r_s.out
  replace t := t.trn t' n_s_t.out.symm
  replace HD := Lib.hid (HD.out.trn HL_s.out t')
  clear t' s
  have s := r'
  clear r'
  go_wp2_with (first | ((with_reducible refine load33 r hl ?_ ?_ ?_); rfl; rfl) | ((with_reducible refine loadCore r hl ?_ ?_ ?_); rfl; rfl) | ((with_reducible refine loadCsr r hl ?_ ?_ ?_); rfl; rfl) | ((with_reducible refine load33 s h1 ?_ ?_ ?_); rfl; rfl) | ((with_reducible refine loadCore s h1 ?_ ?_ ?_); rfl; rfl) | ((with_reducible refine loadCsr s h1 ?_ ?_ ?_); rfl; rfl) | ((with_reducible refine loadTrap t ?_ ?_ ?_); rfl; rfl) | ((with_reducible refine storeTrap (k := 3) (v := a) t ?_ ?_ ?_ ?_); rfl; rfl; rfl; intro w' r' t'; refine Hid.out ?_))
  refine Lib.hid ?_
  replace om := Lib.hid (om.out.trn t (NoU8.trap _ _) t')
  replace o1 := Lib.hid (o1.out.trn t (NoU8.trap _ _) t')
  replace r := r.trn t' n_r_t.out
  replace s := s.trn t' n_s_t.out
  replace HD := Lib.hid (HD.out.trn HL_t.out t')
  clear t' t
  have t := r'
  clear r'
  go_wp2_with (first | ((with_reducible refine load33 r hl ?_ ?_ ?_); rfl; rfl) | ((with_reducible refine loadCore r hl ?_ ?_ ?_); rfl; rfl) | ((with_reducible refine loadCsr r hl ?_ ?_ ?_); rfl; rfl) | ((with_reducible refine load33 s h1 ?_ ?_ ?_); rfl; rfl) | ((with_reducible refine loadCore s h1 ?_ ?_ ?_); rfl; rfl) | ((with_reducible refine loadCsr s h1 ?_ ?_ ?_); rfl; rfl) | ((with_reducible refine loadTrap t ?_ ?_ ?_); rfl; rfl) | (go_at_call 14; (first | (with_reducible refine (C3.out _ om.out).mono ?_)); rintro e w' ⟨rfl, d'⟩; replace r := r.dn d'; replace s := s.dn d'; replace t := t.dn d'; replace om := Lib.hid (om.out.dn d'); replace o1 := Lib.hid (o1.out.dn d'); replace HD := Lib.hid (HD.out.trans d'); clear d') | ((with_reducible refine allocTrap (b := w'.heap.size) rfl ?_ ?_); rfl; refine Hid.out ?_))
  refine Lib.hid ?_
  obtain ⟨x', b_u, hw, hb, u, d', nn⟩ := new_blk w' 35 #[.int .i64 0, .int .u32 0]
  have n_r_u := Lib.hid (nn _ r.lt)
  have n_s_u := Lib.hid (nn _ s.lt)
  have n_t_u := Lib.hid (nn _ t.lt)
  have HL_u : Hid (W.heap.size ≤ b_u) := Lib.hid (by have := HD.out.size; omega)
  rw [← hw, ← hb]
  clear hw hb nn
  replace r := r.dn d'
  replace s := s.dn d'
  replace t := t.dn d'
  replace om := Lib.hid (om.out.dn d')
  replace o1 := Lib.hid (o1.out.dn d')
  replace HD := Lib.hid (HD.out.trans d')
  clear d'
  go_wp2_with (first | ((with_reducible refine load33 r hl ?_ ?_ ?_); rfl; rfl) | ((with_reducible refine loadCore r hl ?_ ?_ ?_); rfl; rfl) | ((with_reducible refine loadCsr r hl ?_ ?_ ?_); rfl; rfl) | ((with_reducible refine load33 s h1 ?_ ?_ ?_); rfl; rfl) | ((with_reducible refine loadCore s h1 ?_ ?_ ?_); rfl; rfl) | ((with_reducible refine loadCsr s h1 ?_ ?_ ?_); rfl; rfl) | ((with_reducible refine loadTrap t ?_ ?_ ?_); rfl; rfl) | ((with_reducible refine loadTrap u ?_ ?_ ?_); rfl; rfl) | ((with_reducible refine storeTrap (k := 3) (v := a) u ?_ ?_ ?_ ?_); rfl; rfl; rfl; intro w' r' t'; refine Hid.out ?_))
  refine Lib.hid ?_
  replace om := Lib.hid (om.out.trn u (NoU8.trap _ _) t')
  replace o1 := Lib.hid (o1.out.trn u (NoU8.trap _ _) t')
  replace r := r.trn t' n_r_u.out
  replace s := s.trn t' n_s_u.out
  replace t := t.trn t' n_t_u.out
  replace HD := Lib.hid (HD.out.trn HL_u.out t')
  clear t' u
  have u := r'
  clear r'
  have C9 := Lib.hid fun w => fun (ow : m1.Ok w) (ox : m.Ok w) => rsame m1 m w ow ox (by obtain ⟨A1, K1, g1⟩ := u1.out; rw [g1]; show m.xs.length ≤ 100000; omega) (by obtain ⟨A1, K1, g1⟩ := u1.out; rw [g1]; show m.ys.length ≤ 100000; omega) (by obtain ⟨A1, K1, g1⟩ := u1.out; rw [g1]) (by obtain ⟨A1, K1, g1⟩ := u1.out; rw [g1]) (by obtain ⟨A1, K1, g1⟩ := u1.out; rw [g1]) (by obtain ⟨A1, K1, g1⟩ := u1.out; rw [g1]) (by obtain ⟨A1, K1, g1⟩ := u1.out; rw [g1])
  clear u1
  have c0 := t.cause
  have c1 := t.tval
  go_wp2_with (first | ((with_reducible refine load33 r hl ?_ ?_ ?_); rfl; rfl) | ((with_reducible refine loadCore r hl ?_ ?_ ?_); rfl; rfl) | ((with_reducible refine loadCsr r hl ?_ ?_ ?_); rfl; rfl) | ((with_reducible refine load33 s h1 ?_ ?_ ?_); rfl; rfl) | ((with_reducible refine loadCore s h1 ?_ ?_ ?_); rfl; rfl) | ((with_reducible refine loadCsr s h1 ?_ ?_ ?_); rfl; rfl) | ((with_reducible refine loadTrap t ?_ ?_ ?_); rfl; rfl) | ((with_reducible refine loadTrap u ?_ ?_ ?_); rfl; rfl) | (go_at_call 19; (first | (with_reducible refine (C9.out _ o1.out om.out).mono ?_)); rintro e w' ⟨rfl, d'⟩; replace r := r.dn d'; replace s := s.dn d'; replace t := t.dn d'; replace u := u.dn d'; replace om := Lib.hid (om.out.dn d'); replace o1 := Lib.hid (o1.out.dn d'); replace HD := Lib.hid (HD.out.trans d'); replace c0 := t.cause; replace c1 := t.tval; clear d'))
  go_ret
  exact ⟨rfl, HD.out⟩
set_option maxRecDepth 100000 in
set_option maxHeartbeats 2000000 in
theorem lSl_trap4 (m : Mc) (a : Int) (a0 : 0 ≤ a) (a1 : a < 4294967296) (b : Int) (b0 : 0 ≤ b) (b1 : b < 4294967296) (wd : Bool) (v : Int) (v0 : 0 ≤ v) (v1 : v < 4294967296) (W : World) (hm : m.Ok W) (hx : m.xs.length ≤ 600) (hy : m.ys.length ≤ 600) (n : Int) (hn : (if wd = true then 4 else 1 : Int) = n) (n0 : 1 ≤ n) (n1 : n ≤ 4) (ek : M.acz m.c m.xs.length a n = 4) :
    Calls Try.prog 4 #[.agg (mach m), .int .u32 a, .int .u32 b, .bool wd, .int .u32 v] W fun e W' => e = .returned (.bool true) ∧ Dn W W' := by
  have hl := hm.len
  have om := Lib.hid hm
  have C0 := Lib.hid fun w => awake w
  have CF := Lib.hid fun w => fun (ow : m.Ok w) => rfew m true w ow (by omega) (by omega) (decide_eq_true ⟨hx, hy⟩)
  have hne : M.acz m.c m.xs.length a n ≠ 0 := by rw [ek]; decide
  have CS := Lib.hid fun w => size_ wd n w hn
  have C7 := Lib.hid fun w => fun (ow : m.Ok w) => fstore m a n v w ow (by omega) a0 a1 n0 n1 v0 v1 m.xs 4 a (M.asv_no hne) ek (M.atv_no hne)
  have C3 := Lib.hid fun w => fun (ow : m.Ok w) => fload m a n w ow (by omega) a0 a1 n0 n1 0 4 a (M.alv_no hne) ek (M.atv_no hne)
  have q1 : ∀ w, (Op.equalIn 10000 35 (.agg #[.int .i64 4, .int .u32 a]) (.agg #[.int .i64 4, .int .u32 a])).run Try.prog w = .ok true w := fun w => by rw [eqTrap]; exact congrArg (fun b => Result.ok b w) (by simp)
  have q2 : ∀ w, (Op.equalIn 10000 35 (.agg #[.int .i64 4, .int .u32 a]) (.agg #[.int .i64 0, .int .u32 0])).run Try.prog w = .ok false w := fun w => by rw [eqTrap]; exact congrArg (fun b => Result.ok b w) (rfl)
  clear ek hne hn
  have HD := Lib.hid (Dn.refl W)
  obtain ⟨x0, b_r, hw0, hb0, r, d', nn⟩ := new_blk W 30 (mach m)
  have HL_r : Hid (W.heap.size ≤ b_r) := Lib.hid (by have := HD.out.size; omega)
  clear nn
  replace om := Lib.hid (om.out.dn d')
  replace HD := Lib.hid (HD.out.trans d')
  clear d'
  go_enter Try.func4, Try.ntmps4
  go_wp2_with fail
  rw [← hw0, ← hb0]
  clear hw0 hb0
  go_wp2_with (first | ((with_reducible refine load33 r hl ?_ ?_ ?_); rfl; rfl) | ((with_reducible refine loadCore r hl ?_ ?_ ?_); rfl; rfl) | ((with_reducible refine loadCsr r hl ?_ ?_ ?_); rfl; rfl) | (go_at_call 9; (first | (with_reducible refine (C0.out _).mono ?_)); rintro e w' ⟨rfl, d'⟩; replace r := r.dn d'; replace om := Lib.hid (om.out.dn d'); replace HD := Lib.hid (HD.out.trans d'); clear d') | (go_at_call 10; (first | (with_reducible refine (CF.out _ om.out).mono ?_)); rintro e w' ⟨rfl, d'⟩; replace r := r.dn d'; replace om := Lib.hid (om.out.dn d'); replace HD := Lib.hid (HD.out.trans d'); clear d') | (go_at_call 11; (first | (with_reducible refine (CS.out _).mono ?_)); rintro e w' ⟨rfl, rfl⟩) | (go_at_call 17; (with_reducible refine (C7.out _ om.out).mono ?_); rintro e w' ⟨m1, rfl, o1, u1, d'⟩; replace r := r.dn d'; replace om := Lib.hid (om.out.dn d'); replace HD := Lib.hid (HD.out.trans d'); clear d') | ((with_reducible refine alloc33 (b := w'.heap.size) rfl ?_ ?_); rfl; refine Hid.out ?_))
  refine Lib.hid ?_
  have h1 := o1.out.len
  obtain ⟨x', b_s, hw, hb, s, d', nn⟩ := new_blk w' 30 (mach Mc.zero)
  have n_r_s := Lib.hid (nn _ r.lt)
  have HL_s : Hid (W.heap.size ≤ b_s) := Lib.hid (by have := HD.out.size; omega)
  rw [← hw, ← hb]
  clear hw hb nn
  replace r := r.dn d'
  replace om := Lib.hid (om.out.dn d')
  replace o1 := Lib.hid (o1.out.dn d')
  replace HD := Lib.hid (HD.out.trans d')
  clear d'
  go_wp2_with (first | ((with_reducible refine load33 r hl ?_ ?_ ?_); rfl; rfl) | ((with_reducible refine loadCore r hl ?_ ?_ ?_); rfl; rfl) | ((with_reducible refine loadCsr r hl ?_ ?_ ?_); rfl; rfl) | ((with_reducible refine load33 s zlen ?_ ?_ ?_); rfl; rfl) | ((with_reducible refine loadCore s zlen ?_ ?_ ?_); rfl; rfl) | ((with_reducible refine loadCsr s zlen ?_ ?_ ?_); rfl; rfl) | ((with_reducible refine allocTrap (b := x'.heap.size) rfl ?_ ?_); rfl; refine Hid.out ?_))
  refine Lib.hid ?_
  obtain ⟨x', b_t, hw, hb, t, d', nn⟩ := new_blk x' 35 #[.int .i64 0, .int .u32 0]
  have n_r_t := Lib.hid (nn _ r.lt)
  have n_s_t := Lib.hid (nn _ s.lt)
  have HL_t : Hid (W.heap.size ≤ b_t) := Lib.hid (by have := HD.out.size; omega)
  rw [← hw, ← hb]
  clear hw hb nn
  replace r := r.dn d'
  replace s := s.dn d'
  replace om := Lib.hid (om.out.dn d')
  replace o1 := Lib.hid (o1.out.dn d')
  replace HD := Lib.hid (HD.out.trans d')
  clear d'
  go_wp2_with (first | ((with_reducible refine load33 r hl ?_ ?_ ?_); rfl; rfl) | ((with_reducible refine loadCore r hl ?_ ?_ ?_); rfl; rfl) | ((with_reducible refine loadCsr r hl ?_ ?_ ?_); rfl; rfl) | ((with_reducible refine load33 s zlen ?_ ?_ ?_); rfl; rfl) | ((with_reducible refine loadCore s zlen ?_ ?_ ?_); rfl; rfl) | ((with_reducible refine loadCsr s zlen ?_ ?_ ?_); rfl; rfl) | ((with_reducible refine loadTrap t ?_ ?_ ?_); rfl; rfl) | ((with_reducible refine store33 m1 h1 s zlen ?_ ?_ ?_ ?_); rfl; rfl; rfl; intro w' r' t'; refine Hid.out ?_))
  refine Lib.hid ?_
  replace om := Lib.hid (om.out.trn s (NoU8.mach _) t')
  replace o1 := Lib.hid (o1.out.trn s (NoU8.mach _) t')
  replace r := r.trn t' n_r_s.out
  replace t := t.trn t' n_s_t.out.symm
  replace HD := Lib.hid (HD.out.trn HL_s.out t')
  clear t' s
  have s := r'
  clear r'
  go_wp2_with (first | ((with_reducible refine load33 r hl ?_ ?_ ?_); rfl; rfl) | ((with_reducible refine loadCore r hl ?_ ?_ ?_); rfl; rfl) | ((with_reducible refine loadCsr r hl ?_ ?_ ?_); rfl; rfl) | ((with_reducible refine load33 s h1 ?_ ?_ ?_); rfl; rfl) | ((with_reducible refine loadCore s h1 ?_ ?_ ?_); rfl; rfl) | ((with_reducible refine loadCsr s h1 ?_ ?_ ?_); rfl; rfl) | ((with_reducible refine loadTrap t ?_ ?_ ?_); rfl; rfl) | ((with_reducible refine storeTrap (k := 4) (v := a) t ?_ ?_ ?_ ?_); rfl; rfl; rfl; intro w' r' t'; refine Hid.out ?_))
  refine Lib.hid ?_
  replace om := Lib.hid (om.out.trn t (NoU8.trap _ _) t')
  replace o1 := Lib.hid (o1.out.trn t (NoU8.trap _ _) t')
  replace r := r.trn t' n_r_t.out
  replace s := s.trn t' n_s_t.out
  replace HD := Lib.hid (HD.out.trn HL_t.out t')
  clear t' t
  have t := r'
  clear r'
  go_wp2_with (first | ((with_reducible refine load33 r hl ?_ ?_ ?_); rfl; rfl) | ((with_reducible refine loadCore r hl ?_ ?_ ?_); rfl; rfl) | ((with_reducible refine loadCsr r hl ?_ ?_ ?_); rfl; rfl) | ((with_reducible refine load33 s h1 ?_ ?_ ?_); rfl; rfl) | ((with_reducible refine loadCore s h1 ?_ ?_ ?_); rfl; rfl) | ((with_reducible refine loadCsr s h1 ?_ ?_ ?_); rfl; rfl) | ((with_reducible refine loadTrap t ?_ ?_ ?_); rfl; rfl) | (go_at_call 14; (first | (with_reducible refine (C3.out _ om.out).mono ?_)); rintro e w' ⟨rfl, d'⟩; replace r := r.dn d'; replace s := s.dn d'; replace t := t.dn d'; replace om := Lib.hid (om.out.dn d'); replace o1 := Lib.hid (o1.out.dn d'); replace HD := Lib.hid (HD.out.trans d'); clear d') | ((with_reducible refine allocTrap (b := w'.heap.size) rfl ?_ ?_); rfl; refine Hid.out ?_))
  refine Lib.hid ?_
  obtain ⟨x', b_u, hw, hb, u, d', nn⟩ := new_blk w' 35 #[.int .i64 0, .int .u32 0]
  have n_r_u := Lib.hid (nn _ r.lt)
  have n_s_u := Lib.hid (nn _ s.lt)
  have n_t_u := Lib.hid (nn _ t.lt)
  have HL_u : Hid (W.heap.size ≤ b_u) := Lib.hid (by have := HD.out.size; omega)
  rw [← hw, ← hb]
  clear hw hb nn
  replace r := r.dn d'
  replace s := s.dn d'
  replace t := t.dn d'
  replace om := Lib.hid (om.out.dn d')
  replace o1 := Lib.hid (o1.out.dn d')
  replace HD := Lib.hid (HD.out.trans d')
  clear d'
  go_wp2_with (first | ((with_reducible refine load33 r hl ?_ ?_ ?_); rfl; rfl) | ((with_reducible refine loadCore r hl ?_ ?_ ?_); rfl; rfl) | ((with_reducible refine loadCsr r hl ?_ ?_ ?_); rfl; rfl) | ((with_reducible refine load33 s h1 ?_ ?_ ?_); rfl; rfl) | ((with_reducible refine loadCore s h1 ?_ ?_ ?_); rfl; rfl) | ((with_reducible refine loadCsr s h1 ?_ ?_ ?_); rfl; rfl) | ((with_reducible refine loadTrap t ?_ ?_ ?_); rfl; rfl) | ((with_reducible refine loadTrap u ?_ ?_ ?_); rfl; rfl) | ((with_reducible refine storeTrap (k := 4) (v := a) u ?_ ?_ ?_ ?_); rfl; rfl; rfl; intro w' r' t'; refine Hid.out ?_))
  refine Lib.hid ?_
  replace om := Lib.hid (om.out.trn u (NoU8.trap _ _) t')
  replace o1 := Lib.hid (o1.out.trn u (NoU8.trap _ _) t')
  replace r := r.trn t' n_r_u.out
  replace s := s.trn t' n_s_u.out
  replace t := t.trn t' n_t_u.out
  replace HD := Lib.hid (HD.out.trn HL_u.out t')
  clear t' u
  have u := r'
  clear r'
  have C9 := Lib.hid fun w => fun (ow : m1.Ok w) (ox : m.Ok w) => rsame m1 m w ow ox (by obtain ⟨A1, K1, g1⟩ := u1.out; rw [g1]; show m.xs.length ≤ 100000; omega) (by obtain ⟨A1, K1, g1⟩ := u1.out; rw [g1]; show m.ys.length ≤ 100000; omega) (by obtain ⟨A1, K1, g1⟩ := u1.out; rw [g1]) (by obtain ⟨A1, K1, g1⟩ := u1.out; rw [g1]) (by obtain ⟨A1, K1, g1⟩ := u1.out; rw [g1]) (by obtain ⟨A1, K1, g1⟩ := u1.out; rw [g1]) (by obtain ⟨A1, K1, g1⟩ := u1.out; rw [g1])
  clear u1
  have c0 := t.cause
  have c1 := t.tval
  go_wp2_with (first | ((with_reducible refine load33 r hl ?_ ?_ ?_); rfl; rfl) | ((with_reducible refine loadCore r hl ?_ ?_ ?_); rfl; rfl) | ((with_reducible refine loadCsr r hl ?_ ?_ ?_); rfl; rfl) | ((with_reducible refine load33 s h1 ?_ ?_ ?_); rfl; rfl) | ((with_reducible refine loadCore s h1 ?_ ?_ ?_); rfl; rfl) | ((with_reducible refine loadCsr s h1 ?_ ?_ ?_); rfl; rfl) | ((with_reducible refine loadTrap t ?_ ?_ ?_); rfl; rfl) | ((with_reducible refine loadTrap u ?_ ?_ ?_); rfl; rfl) | (go_at_call 19; (first | (with_reducible refine (C9.out _ o1.out om.out).mono ?_)); rintro e w' ⟨rfl, d'⟩; replace r := r.dn d'; replace s := s.dn d'; replace t := t.dn d'; replace u := u.dn d'; replace om := Lib.hid (om.out.dn d'); replace o1 := Lib.hid (o1.out.dn d'); replace HD := Lib.hid (HD.out.trans d'); replace c0 := t.cause; replace c1 := t.tval; clear d'))
  go_ret
  exact ⟨rfl, HD.out⟩
set_option maxRecDepth 100000 in
set_option maxHeartbeats 2000000 in
theorem lSl_ok4x (m : Mc) (a : Int) (a0 : 0 ≤ a) (a1 : a < 4294967296) (b : Int) (b0 : 0 ≤ b) (b1 : b < 4294967296) (wd : Bool) (v : Int) (v0 : 0 ≤ v) (v1 : v < 4294967296) (W : World) (hm : m.Ok W) (hx : m.xs.length ≤ 600) (hy : m.ys.length ≤ 600) (n : Int) (hn : (if wd = true then 4 else 1 : Int) = n) (n0 : 1 ≤ n) (n1 : n ≤ 4) (ek : M.acz m.c m.xs.length a n = 0) (hw : wd = true) (hb : b % 4 ≠ 0) :
    Calls Try.prog 4 #[.agg (mach m), .int .u32 a, .int .u32 b, .bool wd, .int .u32 v] W fun e W' => e = .returned (.bool true) ∧ Dn W W' := by
  have hl := hm.len
  have om := Lib.hid hm
  have C0 := Lib.hid fun w => awake w
  have CF := Lib.hid fun w => fun (ow : m.Ok w) => rfew m true w ow (by omega) (by omega) (decide_eq_true ⟨hx, hy⟩)
  have hN : n = 4 := by subst hw; exact hn.symm
  have CS := Lib.hid fun w => size_ wd n w hn
  obtain ⟨zs, e_zs⟩ : ∃ x, M.asv m.c m.xs a n v = x := ⟨_, rfl⟩
  obtain ⟨x, e_x⟩ : ∃ x, M.alv m.c m.xs a n = x := ⟨_, rfl⟩
  have C7 := Lib.hid fun w => fun (ow : m.Ok w) => fstore m a n v w ow (by omega) a0 a1 n0 n1 v0 v1 zs 0 0 e_zs ek (M.atv_yes ek)
  have C3 := Lib.hid fun w => fun (ow : m.Ok w) => fload m a n w ow (by omega) a0 a1 n0 n1 x 0 0 e_x ek (M.atv_yes ek)
  have hzl : zs.length = m.xs.length := by rw [← e_zs, M.asv_len]
  have ez : M.alv m.c zs a n = v := by rw [← e_zs, M.alv_asv hm.core ek a0 n0 v0, hN]; exact Int.emod_eq_of_lt v0 (by simpa using v1)
  have f1 : (n == 1) = false := by rw [hN]; rfl
  have q1 : ∀ w, (Op.equalIn 10000 35 (.agg #[.int .i64 0, .int .u32 0]) (.agg #[.int .i64 0, .int .u32 0])).run Try.prog w = .ok true w := fun w => by rw [eqTrap]; exact congrArg (fun b => Result.ok b w) (rfl)
  have g1 : (b % 4 != 0) = true := by simpa using hb
  replace ek := Lib.hid ek
  replace ez := Lib.hid ez
  replace hzl := Lib.hid hzl
  clear hN hn hw e_zs e_x hb
  have HD := Lib.hid (Dn.refl W)
  obtain ⟨x0, b_r, hw0, hb0, r, d', nn⟩ := new_blk W 30 (mach m)
  have HL_r : Hid (W.heap.size ≤ b_r) := Lib.hid (by have := HD.out.size; omega)
  clear nn
  replace om := Lib.hid (om.out.dn d')
  replace HD := Lib.hid (HD.out.trans d')
  clear d'
  go_enter Try.func4, Try.ntmps4
  go_wp2_with fail
  rw [← hw0, ← hb0]
  clear hw0 hb0
  go_wp2_with (first | ((with_reducible refine load33 r hl ?_ ?_ ?_); rfl; rfl) | ((with_reducible refine loadCore r hl ?_ ?_ ?_); rfl; rfl) | ((with_reducible refine loadCsr r hl ?_ ?_ ?_); rfl; rfl) | (go_at_call 9; (first | (with_reducible refine (C0.out _).mono ?_)); rintro e w' ⟨rfl, d'⟩; replace r := r.dn d'; replace om := Lib.hid (om.out.dn d'); replace HD := Lib.hid (HD.out.trans d'); clear d') | (go_at_call 10; (first | (with_reducible refine (CF.out _ om.out).mono ?_)); rintro e w' ⟨rfl, d'⟩; replace r := r.dn d'; replace om := Lib.hid (om.out.dn d'); replace HD := Lib.hid (HD.out.trans d'); clear d') | (go_at_call 11; (first | (with_reducible refine (CS.out _).mono ?_)); rintro e w' ⟨rfl, rfl⟩) | (go_at_call 17; (with_reducible refine (C7.out _ om.out).mono ?_); rintro e w' ⟨m1, rfl, o1, u1, d'⟩; replace r := r.dn d'; replace om := Lib.hid (om.out.dn d'); replace HD := Lib.hid (HD.out.trans d'); clear d') | ((with_reducible refine alloc33 (b := w'.heap.size) rfl ?_ ?_); rfl; refine Hid.out ?_))
  refine Lib.hid ?_
  have h1 := o1.out.len
  obtain ⟨x', b_s, hw, hb, s, d', nn⟩ := new_blk w' 30 (mach Mc.zero)
  have n_r_s := Lib.hid (nn _ r.lt)
  have HL_s : Hid (W.heap.size ≤ b_s) := Lib.hid (by have := HD.out.size; omega)
  rw [← hw, ← hb]
  clear hw hb nn
  replace r := r.dn d'
  replace om := Lib.hid (om.out.dn d')
  replace o1 := Lib.hid (o1.out.dn d')
  replace HD := Lib.hid (HD.out.trans d')
  clear d'
  go_wp2_with (first | ((with_reducible refine load33 r hl ?_ ?_ ?_); rfl; rfl) | ((with_reducible refine loadCore r hl ?_ ?_ ?_); rfl; rfl) | ((with_reducible refine loadCsr r hl ?_ ?_ ?_); rfl; rfl) | ((with_reducible refine load33 s zlen ?_ ?_ ?_); rfl; rfl) | ((with_reducible refine loadCore s zlen ?_ ?_ ?_); rfl; rfl) | ((with_reducible refine loadCsr s zlen ?_ ?_ ?_); rfl; rfl) | ((with_reducible refine allocTrap (b := x'.heap.size) rfl ?_ ?_); rfl; refine Hid.out ?_))
  refine Lib.hid ?_
  obtain ⟨x', b_t, hw, hb, t, d', nn⟩ := new_blk x' 35 #[.int .i64 0, .int .u32 0]
  have n_r_t := Lib.hid (nn _ r.lt)
  have n_s_t := Lib.hid (nn _ s.lt)
  have HL_t : Hid (W.heap.size ≤ b_t) := Lib.hid (by have := HD.out.size; omega)
  rw [← hw, ← hb]
  clear hw hb nn
  replace r := r.dn d'
  replace s := s.dn d'
  replace om := Lib.hid (om.out.dn d')
  replace o1 := Lib.hid (o1.out.dn d')
  replace HD := Lib.hid (HD.out.trans d')
  clear d'
  go_wp2_with (first | ((with_reducible refine load33 r hl ?_ ?_ ?_); rfl; rfl) | ((with_reducible refine loadCore r hl ?_ ?_ ?_); rfl; rfl) | ((with_reducible refine loadCsr r hl ?_ ?_ ?_); rfl; rfl) | ((with_reducible refine load33 s zlen ?_ ?_ ?_); rfl; rfl) | ((with_reducible refine loadCore s zlen ?_ ?_ ?_); rfl; rfl) | ((with_reducible refine loadCsr s zlen ?_ ?_ ?_); rfl; rfl) | ((with_reducible refine loadTrap t ?_ ?_ ?_); rfl; rfl) | ((with_reducible refine store33 m1 h1 s zlen ?_ ?_ ?_ ?_); rfl; rfl; rfl; intro w' r' t'; refine Hid.out ?_))
  refine Lib.hid ?_
  replace om := Lib.hid (om.out.trn s (NoU8.mach _) t')
  replace o1 := Lib.hid (o1.out.trn s (NoU8.mach _) t')
  replace r := r.trn t' n_r_s.out
  replace t := t.trn t' n_s_t.out.symm
  replace HD := Lib.hid (HD.out.trn HL_s.out t')
  clear t' s
  have s := r'
  clear r'
  go_wp2_with (first | ((with_reducible refine load33 r hl ?_ ?_ ?_); rfl; rfl) | ((with_reducible refine loadCore r hl ?_ ?_ ?_); rfl; rfl) | ((with_reducible refine loadCsr r hl ?_ ?_ ?_); rfl; rfl) | ((with_reducible refine load33 s h1 ?_ ?_ ?_); rfl; rfl) | ((with_reducible refine loadCore s h1 ?_ ?_ ?_); rfl; rfl) | ((with_reducible refine loadCsr s h1 ?_ ?_ ?_); rfl; rfl) | ((with_reducible refine loadTrap t ?_ ?_ ?_); rfl; rfl) | ((with_reducible refine storeTrap (k := 0) (v := 0) t ?_ ?_ ?_ ?_); rfl; rfl; rfl; intro w' r' t'; refine Hid.out ?_))
  refine Lib.hid ?_
  replace om := Lib.hid (om.out.trn t (NoU8.trap _ _) t')
  replace o1 := Lib.hid (o1.out.trn t (NoU8.trap _ _) t')
  replace r := r.trn t' n_r_t.out
  replace s := s.trn t' n_s_t.out
  replace HD := Lib.hid (HD.out.trn HL_t.out t')
  clear t' t
  have t := r'
  clear r'
  go_wp2_with (first | ((with_reducible refine load33 r hl ?_ ?_ ?_); rfl; rfl) | ((with_reducible refine loadCore r hl ?_ ?_ ?_); rfl; rfl) | ((with_reducible refine loadCsr r hl ?_ ?_ ?_); rfl; rfl) | ((with_reducible refine load33 s h1 ?_ ?_ ?_); rfl; rfl) | ((with_reducible refine loadCore s h1 ?_ ?_ ?_); rfl; rfl) | ((with_reducible refine loadCsr s h1 ?_ ?_ ?_); rfl; rfl) | ((with_reducible refine loadTrap t ?_ ?_ ?_); rfl; rfl) | (go_at_call 14; (first | (with_reducible refine (C3.out _ om.out).mono ?_)); rintro e w' ⟨rfl, d'⟩; replace r := r.dn d'; replace s := s.dn d'; replace t := t.dn d'; replace om := Lib.hid (om.out.dn d'); replace o1 := Lib.hid (o1.out.dn d'); replace HD := Lib.hid (HD.out.trans d'); clear d') | ((with_reducible refine allocTrap (b := w'.heap.size) rfl ?_ ?_); rfl; refine Hid.out ?_))
  refine Lib.hid ?_
  obtain ⟨x', b_u, hw, hb, u, d', nn⟩ := new_blk w' 35 #[.int .i64 0, .int .u32 0]
  have n_r_u := Lib.hid (nn _ r.lt)
  have n_s_u := Lib.hid (nn _ s.lt)
  have n_t_u := Lib.hid (nn _ t.lt)
  have HL_u : Hid (W.heap.size ≤ b_u) := Lib.hid (by have := HD.out.size; omega)
  rw [← hw, ← hb]
  clear hw hb nn
  replace r := r.dn d'
  replace s := s.dn d'
  replace t := t.dn d'
  replace om := Lib.hid (om.out.dn d')
  replace o1 := Lib.hid (o1.out.dn d')
  replace HD := Lib.hid (HD.out.trans d')
  clear d'
  go_wp2_with (first | ((with_reducible refine load33 r hl ?_ ?_ ?_); rfl; rfl) | ((with_reducible refine loadCore r hl ?_ ?_ ?_); rfl; rfl) | ((with_reducible refine loadCsr r hl ?_ ?_ ?_); rfl; rfl) | ((with_reducible refine load33 s h1 ?_ ?_ ?_); rfl; rfl) | ((with_reducible refine loadCore s h1 ?_ ?_ ?_); rfl; rfl) | ((with_reducible refine loadCsr s h1 ?_ ?_ ?_); rfl; rfl) | ((with_reducible refine loadTrap t ?_ ?_ ?_); rfl; rfl) | ((with_reducible refine loadTrap u ?_ ?_ ?_); rfl; rfl) | ((with_reducible refine storeTrap (k := 0) (v := 0) u ?_ ?_ ?_ ?_); rfl; rfl; rfl; intro w' r' t'; refine Hid.out ?_))
  refine Lib.hid ?_
  replace om := Lib.hid (om.out.trn u (NoU8.trap _ _) t')
  replace o1 := Lib.hid (o1.out.trn u (NoU8.trap _ _) t')
  replace r := r.trn t' n_r_u.out
  replace s := s.trn t' n_s_u.out
  replace t := t.trn t' n_t_u.out
  replace HD := Lib.hid (HD.out.trn HL_u.out t')
  clear t' u
  have u := r'
  clear r'
  have C4 := Lib.hid fun w => fun (ow : m1.Ok w) => fload m1 a n w ow (by obtain ⟨A1, K1, g1⟩ := u1.out; rw [g1]; show zs.length ≤ 100000; have := hzl.out; omega) a0 a1 n0 n1 v 0 0 (by obtain ⟨A1, K1, g1⟩ := u1.out; rw [g1]; exact ez.out) (by obtain ⟨A1, K1, g1⟩ := u1.out; rw [g1]; show M.acz m.c zs.length a n = 0; rw [hzl.out]; exact ek.out) (by obtain ⟨A1, K1, g1⟩ := u1.out; rw [g1]; show M.atv m.c zs.length a n = 0; rw [hzl.out]; exact M.atv_yes ek.out)
  have C9 := Lib.hid fun w => fun (ow : m1.Ok w) (ox : m.Ok w) => same_yes m1.B m.B m1.q m.q _ _ m1.ys m.ys w ow.out ox.out rfl rfl (by obtain ⟨A1, K1, g1⟩ := u1.out; rw [g1]) (by obtain ⟨A1, K1, g1⟩ := u1.out; rw [g1]; show m.ys.length ≤ 100000; omega)
  have qc := fun w => eq29 h1 hl w
  rw [show (m1.c == m.c) = true by obtain ⟨A1, K1, g1⟩ := u1.out; rw [g1]; simp] at qc
  have b1 : (m1.t != m.t) = false := by obtain ⟨A1, K1, g1⟩ := u1.out; rw [g1]; simp
  have b2 : (m1.h == m.h) = true := by obtain ⟨A1, K1, g1⟩ := u1.out; rw [g1]; simp
  have b3 : ((m1.xs.length : Int) != (m.xs.length : Int)) = false := by obtain ⟨A1, K1, g1⟩ := u1.out; rw [g1]; show ((zs.length : Int) != _) = false; rw [hzl.out]; simp
  clear u1 ez hzl ek
  go_wp2_with (first | ((with_reducible refine load33 r hl ?_ ?_ ?_); rfl; rfl) | ((with_reducible refine loadCore r hl ?_ ?_ ?_); rfl; rfl) | ((with_reducible refine loadCsr r hl ?_ ?_ ?_); rfl; rfl) | ((with_reducible refine load33 s h1 ?_ ?_ ?_); rfl; rfl) | ((with_reducible refine loadCore s h1 ?_ ?_ ?_); rfl; rfl) | ((with_reducible refine loadCsr s h1 ?_ ?_ ?_); rfl; rfl) | ((with_reducible refine loadTrap t ?_ ?_ ?_); rfl; rfl) | ((with_reducible refine loadTrap u ?_ ?_ ?_); rfl; rfl) | (go_at_call 14; (first | (with_reducible refine (C4.out _ o1.out).mono ?_)); rintro e w' ⟨rfl, d'⟩; replace r := r.dn d'; replace s := s.dn d'; replace t := t.dn d'; replace u := u.dn d'; replace om := Lib.hid (om.out.dn d'); replace o1 := Lib.hid (o1.out.dn d'); replace HD := Lib.hid (HD.out.trans d'); clear d') | ((with_reducible refine allocTrap (b := w'.heap.size) rfl ?_ ?_); rfl; refine Hid.out ?_))
  refine Lib.hid ?_
  obtain ⟨x', b_w, hw, hb, w, d', nn⟩ := new_blk w' 35 #[.int .i64 0, .int .u32 0]
  have n_r_w := Lib.hid (nn _ r.lt)
  have n_s_w := Lib.hid (nn _ s.lt)
  have n_t_w := Lib.hid (nn _ t.lt)
  have n_u_w := Lib.hid (nn _ u.lt)
  have HL_w : Hid (W.heap.size ≤ b_w) := Lib.hid (by have := HD.out.size; omega)
  rw [← hw, ← hb]
  clear hw hb nn
  replace r := r.dn d'
  replace s := s.dn d'
  replace t := t.dn d'
  replace u := u.dn d'
  replace om := Lib.hid (om.out.dn d')
  replace o1 := Lib.hid (o1.out.dn d')
  replace HD := Lib.hid (HD.out.trans d')
  clear d'
  go_wp2_with (first | ((with_reducible refine load33 r hl ?_ ?_ ?_); rfl; rfl) | ((with_reducible refine loadCore r hl ?_ ?_ ?_); rfl; rfl) | ((with_reducible refine loadCsr r hl ?_ ?_ ?_); rfl; rfl) | ((with_reducible refine load33 s h1 ?_ ?_ ?_); rfl; rfl) | ((with_reducible refine loadCore s h1 ?_ ?_ ?_); rfl; rfl) | ((with_reducible refine loadCsr s h1 ?_ ?_ ?_); rfl; rfl) | ((with_reducible refine loadTrap t ?_ ?_ ?_); rfl; rfl) | ((with_reducible refine loadTrap u ?_ ?_ ?_); rfl; rfl) | ((with_reducible refine loadTrap w ?_ ?_ ?_); rfl; rfl) | ((with_reducible refine storeTrap (k := 0) (v := 0) w ?_ ?_ ?_ ?_); rfl; rfl; rfl; intro w' r' t'; refine Hid.out ?_))
  refine Lib.hid ?_
  replace om := Lib.hid (om.out.trn w (NoU8.trap _ _) t')
  replace o1 := Lib.hid (o1.out.trn w (NoU8.trap _ _) t')
  replace r := r.trn t' n_r_w.out
  replace s := s.trn t' n_s_w.out
  replace t := t.trn t' n_t_w.out
  replace u := u.trn t' n_u_w.out
  replace HD := Lib.hid (HD.out.trn HL_w.out t')
  clear t' w
  have w := r'
  clear r'
  have c0 := s.mem h1
  have c1 := r.mem hl
  have c2 := s.time h1
  have c3 := r.time hl
  have c4 := s.halted h1
  have c5 := r.halted hl
  have c6 := s.out h1
  have c7 := r.out hl
  go_wp2_with (first | ((with_reducible refine load33 r hl ?_ ?_ ?_); rfl; rfl) | ((with_reducible refine loadCore r hl ?_ ?_ ?_); rfl; rfl) | ((with_reducible refine loadCsr r hl ?_ ?_ ?_); rfl; rfl) | ((with_reducible refine load33 s h1 ?_ ?_ ?_); rfl; rfl) | ((with_reducible refine loadCore s h1 ?_ ?_ ?_); rfl; rfl) | ((with_reducible refine loadCsr s h1 ?_ ?_ ?_); rfl; rfl) | ((with_reducible refine loadTrap t ?_ ?_ ?_); rfl; rfl) | ((with_reducible refine loadTrap u ?_ ?_ ?_); rfl; rfl) | ((with_reducible refine loadTrap w ?_ ?_ ?_); rfl; rfl) | (go_at_call 22; (first | (with_reducible refine (C9.out _ o1.out om.out).mono ?_)); rintro e w' ⟨rfl, d'⟩; replace r := r.dn d'; replace s := s.dn d'; replace t := t.dn d'; replace u := u.dn d'; replace w := w.dn d'; replace om := Lib.hid (om.out.dn d'); replace o1 := Lib.hid (o1.out.dn d'); replace HD := Lib.hid (HD.out.trans d'); replace c0 := s.mem h1; replace c1 := r.mem hl; replace c2 := s.time h1; replace c3 := r.time hl; replace c4 := s.halted h1; replace c5 := r.halted hl; replace c6 := s.out h1; replace c7 := r.out hl; clear d'))
  go_ret
  exact ⟨rfl, HD.out⟩
set_option maxRecDepth 100000 in
set_option maxHeartbeats 2000000 in
theorem lSl_ok4y (m : Mc) (a : Int) (a0 : 0 ≤ a) (a1 : a < 4294967296) (b : Int) (b0 : 0 ≤ b) (b1 : b < 4294967296) (wd : Bool) (v : Int) (v0 : 0 ≤ v) (v1 : v < 4294967296) (W : World) (hm : m.Ok W) (hx : m.xs.length ≤ 600) (hy : m.ys.length ≤ 600) (n : Int) (hn : (if wd = true then 4 else 1 : Int) = n) (n0 : 1 ≤ n) (n1 : n ≤ 4) (ek : M.acz m.c m.xs.length a n = 0) (hw : wd = true) (hb : b % 4 = 0) (hab : a / 4 = b / 4) :
    Calls Try.prog 4 #[.agg (mach m), .int .u32 a, .int .u32 b, .bool wd, .int .u32 v] W fun e W' => e = .returned (.bool true) ∧ Dn W W' := by
  have hl := hm.len
  have om := Lib.hid hm
  have C0 := Lib.hid fun w => awake w
  have CF := Lib.hid fun w => fun (ow : m.Ok w) => rfew m true w ow (by omega) (by omega) (decide_eq_true ⟨hx, hy⟩)
  have hN : n = 4 := by subst hw; exact hn.symm
  have CS := Lib.hid fun w => size_ wd n w hn
  obtain ⟨zs, e_zs⟩ : ∃ x, M.asv m.c m.xs a n v = x := ⟨_, rfl⟩
  obtain ⟨x, e_x⟩ : ∃ x, M.alv m.c m.xs a n = x := ⟨_, rfl⟩
  have C7 := Lib.hid fun w => fun (ow : m.Ok w) => fstore m a n v w ow (by omega) a0 a1 n0 n1 v0 v1 zs 0 0 e_zs ek (M.atv_yes ek)
  have C3 := Lib.hid fun w => fun (ow : m.Ok w) => fload m a n w ow (by omega) a0 a1 n0 n1 x 0 0 e_x ek (M.atv_yes ek)
  have hzl : zs.length = m.xs.length := by rw [← e_zs, M.asv_len]
  have ez : M.alv m.c zs a n = v := by rw [← e_zs, M.alv_asv hm.core ek a0 n0 v0, hN]; exact Int.emod_eq_of_lt v0 (by simpa using v1)
  have f1 : (n == 1) = false := by rw [hN]; rfl
  have q1 : ∀ w, (Op.equalIn 10000 35 (.agg #[.int .i64 0, .int .u32 0]) (.agg #[.int .i64 0, .int .u32 0])).run Try.prog w = .ok true w := fun w => by rw [eqTrap]; exact congrArg (fun b => Result.ok b w) (rfl)
  have g1 : (b % 4 != 0) = false := by simpa using hb
  have g2 : (a / 4 == b / 4) = true := by simpa using hab
  replace ek := Lib.hid ek
  replace ez := Lib.hid ez
  replace hzl := Lib.hid hzl
  clear hN hn hw e_zs e_x hab hb
  have HD := Lib.hid (Dn.refl W)
  obtain ⟨x0, b_r, hw0, hb0, r, d', nn⟩ := new_blk W 30 (mach m)
  have HL_r : Hid (W.heap.size ≤ b_r) := Lib.hid (by have := HD.out.size; omega)
  clear nn
  replace om := Lib.hid (om.out.dn d')
  replace HD := Lib.hid (HD.out.trans d')
  clear d'
  go_enter Try.func4, Try.ntmps4
  go_wp2_with fail
  rw [← hw0, ← hb0]
  clear hw0 hb0
  go_wp2_with (first | ((with_reducible refine load33 r hl ?_ ?_ ?_); rfl; rfl) | ((with_reducible refine loadCore r hl ?_ ?_ ?_); rfl; rfl) | ((with_reducible refine loadCsr r hl ?_ ?_ ?_); rfl; rfl) | (go_at_call 9; (first | (with_reducible refine (C0.out _).mono ?_)); rintro e w' ⟨rfl, d'⟩; replace r := r.dn d'; replace om := Lib.hid (om.out.dn d'); replace HD := Lib.hid (HD.out.trans d'); clear d') | (go_at_call 10; (first | (with_reducible refine (CF.out _ om.out).mono ?_)); rintro e w' ⟨rfl, d'⟩; replace r := r.dn d'; replace om := Lib.hid (om.out.dn d'); replace HD := Lib.hid (HD.out.trans d'); clear d') | (go_at_call 11; (first | (with_reducible refine (CS.out _).mono ?_)); rintro e w' ⟨rfl, rfl⟩) | (go_at_call 17; (with_reducible refine (C7.out _ om.out).mono ?_); rintro e w' ⟨m1, rfl, o1, u1, d'⟩; replace r := r.dn d'; replace om := Lib.hid (om.out.dn d'); replace HD := Lib.hid (HD.out.trans d'); clear d') | ((with_reducible refine alloc33 (b := w'.heap.size) rfl ?_ ?_); rfl; refine Hid.out ?_))
  refine Lib.hid ?_
  have h1 := o1.out.len
  obtain ⟨x', b_s, hw, hb, s, d', nn⟩ := new_blk w' 30 (mach Mc.zero)
  have n_r_s := Lib.hid (nn _ r.lt)
  have HL_s : Hid (W.heap.size ≤ b_s) := Lib.hid (by have := HD.out.size; omega)
  rw [← hw, ← hb]
  clear hw hb nn
  replace r := r.dn d'
  replace om := Lib.hid (om.out.dn d')
  replace o1 := Lib.hid (o1.out.dn d')
  replace HD := Lib.hid (HD.out.trans d')
  clear d'
  go_wp2_with (first | ((with_reducible refine load33 r hl ?_ ?_ ?_); rfl; rfl) | ((with_reducible refine loadCore r hl ?_ ?_ ?_); rfl; rfl) | ((with_reducible refine loadCsr r hl ?_ ?_ ?_); rfl; rfl) | ((with_reducible refine load33 s zlen ?_ ?_ ?_); rfl; rfl) | ((with_reducible refine loadCore s zlen ?_ ?_ ?_); rfl; rfl) | ((with_reducible refine loadCsr s zlen ?_ ?_ ?_); rfl; rfl) | ((with_reducible refine allocTrap (b := x'.heap.size) rfl ?_ ?_); rfl; refine Hid.out ?_))
  refine Lib.hid ?_
  obtain ⟨x', b_t, hw, hb, t, d', nn⟩ := new_blk x' 35 #[.int .i64 0, .int .u32 0]
  have n_r_t := Lib.hid (nn _ r.lt)
  have n_s_t := Lib.hid (nn _ s.lt)
  have HL_t : Hid (W.heap.size ≤ b_t) := Lib.hid (by have := HD.out.size; omega)
  rw [← hw, ← hb]
  clear hw hb nn
  replace r := r.dn d'
  replace s := s.dn d'
  replace om := Lib.hid (om.out.dn d')
  replace o1 := Lib.hid (o1.out.dn d')
  replace HD := Lib.hid (HD.out.trans d')
  clear d'
  go_wp2_with (first | ((with_reducible refine load33 r hl ?_ ?_ ?_); rfl; rfl) | ((with_reducible refine loadCore r hl ?_ ?_ ?_); rfl; rfl) | ((with_reducible refine loadCsr r hl ?_ ?_ ?_); rfl; rfl) | ((with_reducible refine load33 s zlen ?_ ?_ ?_); rfl; rfl) | ((with_reducible refine loadCore s zlen ?_ ?_ ?_); rfl; rfl) | ((with_reducible refine loadCsr s zlen ?_ ?_ ?_); rfl; rfl) | ((with_reducible refine loadTrap t ?_ ?_ ?_); rfl; rfl) | ((with_reducible refine store33 m1 h1 s zlen ?_ ?_ ?_ ?_); rfl; rfl; rfl; intro w' r' t'; refine Hid.out ?_))
  refine Lib.hid ?_
  replace om := Lib.hid (om.out.trn s (NoU8.mach _) t')
  replace o1 := Lib.hid (o1.out.trn s (NoU8.mach _) t')
  replace r := r.trn t' n_r_s.out
  replace t := t.trn t' n_s_t.out.symm
  replace HD := Lib.hid (HD.out.trn HL_s.out t')
  clear t' s
  have s := r'
  clear r'
  go_wp2_with (first | ((with_reducible refine load33 r hl ?_ ?_ ?_); rfl; rfl) | ((with_reducible refine loadCore r hl ?_ ?_ ?_); rfl; rfl) | ((with_reducible refine loadCsr r hl ?_ ?_ ?_); rfl; rfl) | ((with_reducible refine load33 s h1 ?_ ?_ ?_); rfl; rfl) | ((with_reducible refine loadCore s h1 ?_ ?_ ?_); rfl; rfl) | ((with_reducible refine loadCsr s h1 ?_ ?_ ?_); rfl; rfl) | ((with_reducible refine loadTrap t ?_ ?_ ?_); rfl; rfl) | ((with_reducible refine storeTrap (k := 0) (v := 0) t ?_ ?_ ?_ ?_); rfl; rfl; rfl; intro w' r' t'; refine Hid.out ?_))
  refine Lib.hid ?_
  replace om := Lib.hid (om.out.trn t (NoU8.trap _ _) t')
  replace o1 := Lib.hid (o1.out.trn t (NoU8.trap _ _) t')
  replace r := r.trn t' n_r_t.out
  replace s := s.trn t' n_s_t.out
  replace HD := Lib.hid (HD.out.trn HL_t.out t')
  clear t' t
  have t := r'
  clear r'
  go_wp2_with (first | ((with_reducible refine load33 r hl ?_ ?_ ?_); rfl; rfl) | ((with_reducible refine loadCore r hl ?_ ?_ ?_); rfl; rfl) | ((with_reducible refine loadCsr r hl ?_ ?_ ?_); rfl; rfl) | ((with_reducible refine load33 s h1 ?_ ?_ ?_); rfl; rfl) | ((with_reducible refine loadCore s h1 ?_ ?_ ?_); rfl; rfl) | ((with_reducible refine loadCsr s h1 ?_ ?_ ?_); rfl; rfl) | ((with_reducible refine loadTrap t ?_ ?_ ?_); rfl; rfl) | (go_at_call 14; (first | (with_reducible refine (C3.out _ om.out).mono ?_)); rintro e w' ⟨rfl, d'⟩; replace r := r.dn d'; replace s := s.dn d'; replace t := t.dn d'; replace om := Lib.hid (om.out.dn d'); replace o1 := Lib.hid (o1.out.dn d'); replace HD := Lib.hid (HD.out.trans d'); clear d') | ((with_reducible refine allocTrap (b := w'.heap.size) rfl ?_ ?_); rfl; refine Hid.out ?_))
  refine Lib.hid ?_
  obtain ⟨x', b_u, hw, hb, u, d', nn⟩ := new_blk w' 35 #[.int .i64 0, .int .u32 0]
  have n_r_u := Lib.hid (nn _ r.lt)
  have n_s_u := Lib.hid (nn _ s.lt)
  have n_t_u := Lib.hid (nn _ t.lt)
  have HL_u : Hid (W.heap.size ≤ b_u) := Lib.hid (by have := HD.out.size; omega)
  rw [← hw, ← hb]
  clear hw hb nn
  replace r := r.dn d'
  replace s := s.dn d'
  replace t := t.dn d'
  replace om := Lib.hid (om.out.dn d')
  replace o1 := Lib.hid (o1.out.dn d')
  replace HD := Lib.hid (HD.out.trans d')
  clear d'
  go_wp2_with (first | ((with_reducible refine load33 r hl ?_ ?_ ?_); rfl; rfl) | ((with_reducible refine loadCore r hl ?_ ?_ ?_); rfl; rfl) | ((with_reducible refine loadCsr r hl ?_ ?_ ?_); rfl; rfl) | ((with_reducible refine load33 s h1 ?_ ?_ ?_); rfl; rfl) | ((with_reducible refine loadCore s h1 ?_ ?_ ?_); rfl; rfl) | ((with_reducible refine loadCsr s h1 ?_ ?_ ?_); rfl; rfl) | ((with_reducible refine loadTrap t ?_ ?_ ?_); rfl; rfl) | ((with_reducible refine loadTrap u ?_ ?_ ?_); rfl; rfl) | ((with_reducible refine storeTrap (k := 0) (v := 0) u ?_ ?_ ?_ ?_); rfl; rfl; rfl; intro w' r' t'; refine Hid.out ?_))
  refine Lib.hid ?_
  replace om := Lib.hid (om.out.trn u (NoU8.trap _ _) t')
  replace o1 := Lib.hid (o1.out.trn u (NoU8.trap _ _) t')
  replace r := r.trn t' n_r_u.out
  replace s := s.trn t' n_s_u.out
  replace t := t.trn t' n_t_u.out
  replace HD := Lib.hid (HD.out.trn HL_u.out t')
  clear t' u
  have u := r'
  clear r'
  have C4 := Lib.hid fun w => fun (ow : m1.Ok w) => fload m1 a n w ow (by obtain ⟨A1, K1, g1⟩ := u1.out; rw [g1]; show zs.length ≤ 100000; have := hzl.out; omega) a0 a1 n0 n1 v 0 0 (by obtain ⟨A1, K1, g1⟩ := u1.out; rw [g1]; exact ez.out) (by obtain ⟨A1, K1, g1⟩ := u1.out; rw [g1]; show M.acz m.c zs.length a n = 0; rw [hzl.out]; exact ek.out) (by obtain ⟨A1, K1, g1⟩ := u1.out; rw [g1]; show M.atv m.c zs.length a n = 0; rw [hzl.out]; exact M.atv_yes ek.out)
  have C9 := Lib.hid fun w => fun (ow : m1.Ok w) (ox : m.Ok w) => same_yes m1.B m.B m1.q m.q _ _ m1.ys m.ys w ow.out ox.out rfl rfl (by obtain ⟨A1, K1, g1⟩ := u1.out; rw [g1]) (by obtain ⟨A1, K1, g1⟩ := u1.out; rw [g1]; show m.ys.length ≤ 100000; omega)
  have qc := fun w => eq29 h1 hl w
  rw [show (m1.c == m.c) = true by obtain ⟨A1, K1, g1⟩ := u1.out; rw [g1]; simp] at qc
  have b1 : (m1.t != m.t) = false := by obtain ⟨A1, K1, g1⟩ := u1.out; rw [g1]; simp
  have b2 : (m1.h == m.h) = true := by obtain ⟨A1, K1, g1⟩ := u1.out; rw [g1]; simp
  have b3 : ((m1.xs.length : Int) != (m.xs.length : Int)) = false := by obtain ⟨A1, K1, g1⟩ := u1.out; rw [g1]; show ((zs.length : Int) != _) = false; rw [hzl.out]; simp
  clear u1 ez hzl ek
  go_wp2_with (first | ((with_reducible refine load33 r hl ?_ ?_ ?_); rfl; rfl) | ((with_reducible refine loadCore r hl ?_ ?_ ?_); rfl; rfl) | ((with_reducible refine loadCsr r hl ?_ ?_ ?_); rfl; rfl) | ((with_reducible refine load33 s h1 ?_ ?_ ?_); rfl; rfl) | ((with_reducible refine loadCore s h1 ?_ ?_ ?_); rfl; rfl) | ((with_reducible refine loadCsr s h1 ?_ ?_ ?_); rfl; rfl) | ((with_reducible refine loadTrap t ?_ ?_ ?_); rfl; rfl) | ((with_reducible refine loadTrap u ?_ ?_ ?_); rfl; rfl) | (go_at_call 14; (first | (with_reducible refine (C4.out _ o1.out).mono ?_)); rintro e w' ⟨rfl, d'⟩; replace r := r.dn d'; replace s := s.dn d'; replace t := t.dn d'; replace u := u.dn d'; replace om := Lib.hid (om.out.dn d'); replace o1 := Lib.hid (o1.out.dn d'); replace HD := Lib.hid (HD.out.trans d'); clear d') | ((with_reducible refine allocTrap (b := w'.heap.size) rfl ?_ ?_); rfl; refine Hid.out ?_))
  refine Lib.hid ?_
  obtain ⟨x', b_w, hw, hb, w, d', nn⟩ := new_blk w' 35 #[.int .i64 0, .int .u32 0]
  have n_r_w := Lib.hid (nn _ r.lt)
  have n_s_w := Lib.hid (nn _ s.lt)
  have n_t_w := Lib.hid (nn _ t.lt)
  have n_u_w := Lib.hid (nn _ u.lt)
  have HL_w : Hid (W.heap.size ≤ b_w) := Lib.hid (by have := HD.out.size; omega)
  rw [← hw, ← hb]
  clear hw hb nn
  replace r := r.dn d'
  replace s := s.dn d'
  replace t := t.dn d'
  replace u := u.dn d'
  replace om := Lib.hid (om.out.dn d')
  replace o1 := Lib.hid (o1.out.dn d')
  replace HD := Lib.hid (HD.out.trans d')
  clear d'
  go_wp2_with (first | ((with_reducible refine load33 r hl ?_ ?_ ?_); rfl; rfl) | ((with_reducible refine loadCore r hl ?_ ?_ ?_); rfl; rfl) | ((with_reducible refine loadCsr r hl ?_ ?_ ?_); rfl; rfl) | ((with_reducible refine load33 s h1 ?_ ?_ ?_); rfl; rfl) | ((with_reducible refine loadCore s h1 ?_ ?_ ?_); rfl; rfl) | ((with_reducible refine loadCsr s h1 ?_ ?_ ?_); rfl; rfl) | ((with_reducible refine loadTrap t ?_ ?_ ?_); rfl; rfl) | ((with_reducible refine loadTrap u ?_ ?_ ?_); rfl; rfl) | ((with_reducible refine loadTrap w ?_ ?_ ?_); rfl; rfl) | ((with_reducible refine storeTrap (k := 0) (v := 0) w ?_ ?_ ?_ ?_); rfl; rfl; rfl; intro w' r' t'; refine Hid.out ?_))
  refine Lib.hid ?_
  replace om := Lib.hid (om.out.trn w (NoU8.trap _ _) t')
  replace o1 := Lib.hid (o1.out.trn w (NoU8.trap _ _) t')
  replace r := r.trn t' n_r_w.out
  replace s := s.trn t' n_s_w.out
  replace t := t.trn t' n_t_w.out
  replace u := u.trn t' n_u_w.out
  replace HD := Lib.hid (HD.out.trn HL_w.out t')
  clear t' w
  have w := r'
  clear r'
  have c0 := s.mem h1
  have c1 := r.mem hl
  have c2 := s.time h1
  have c3 := r.time hl
  have c4 := s.halted h1
  have c5 := r.halted hl
  have c6 := s.out h1
  have c7 := r.out hl
  go_wp2_with (first | ((with_reducible refine load33 r hl ?_ ?_ ?_); rfl; rfl) | ((with_reducible refine loadCore r hl ?_ ?_ ?_); rfl; rfl) | ((with_reducible refine loadCsr r hl ?_ ?_ ?_); rfl; rfl) | ((with_reducible refine load33 s h1 ?_ ?_ ?_); rfl; rfl) | ((with_reducible refine loadCore s h1 ?_ ?_ ?_); rfl; rfl) | ((with_reducible refine loadCsr s h1 ?_ ?_ ?_); rfl; rfl) | ((with_reducible refine loadTrap t ?_ ?_ ?_); rfl; rfl) | ((with_reducible refine loadTrap u ?_ ?_ ?_); rfl; rfl) | ((with_reducible refine loadTrap w ?_ ?_ ?_); rfl; rfl) | (go_at_call 22; (first | (with_reducible refine (C9.out _ o1.out om.out).mono ?_)); rintro e w' ⟨rfl, d'⟩; replace r := r.dn d'; replace s := s.dn d'; replace t := t.dn d'; replace u := u.dn d'; replace w := w.dn d'; replace om := Lib.hid (om.out.dn d'); replace o1 := Lib.hid (o1.out.dn d'); replace HD := Lib.hid (HD.out.trans d'); replace c0 := s.mem h1; replace c1 := r.mem hl; replace c2 := s.time h1; replace c3 := r.time hl; replace c4 := s.halted h1; replace c5 := r.halted hl; replace c6 := s.out h1; replace c7 := r.out hl; clear d'))
  go_ret
  exact ⟨rfl, HD.out⟩
set_option maxRecDepth 100000 in
set_option maxHeartbeats 2000000 in
theorem lSl_ok4z (m : Mc) (a : Int) (a0 : 0 ≤ a) (a1 : a < 4294967296) (b : Int) (b0 : 0 ≤ b) (b1 : b < 4294967296) (wd : Bool) (v : Int) (v0 : 0 ≤ v) (v1 : v < 4294967296) (W : World) (hm : m.Ok W) (hx : m.xs.length ≤ 600) (hy : m.ys.length ≤ 600) (n : Int) (hn : (if wd = true then 4 else 1 : Int) = n) (n0 : 1 ≤ n) (n1 : n ≤ 4) (ek : M.acz m.c m.xs.length a n = 0) (hw : wd = true) (hb : b % 4 = 0) (hab : a / 4 ≠ b / 4) :
    Calls Try.prog 4 #[.agg (mach m), .int .u32 a, .int .u32 b, .bool wd, .int .u32 v] W fun e W' => e = .returned (.bool true) ∧ Dn W W' := by
  have hl := hm.len
  have om := Lib.hid hm
  have C0 := Lib.hid fun w => awake w
  have CF := Lib.hid fun w => fun (ow : m.Ok w) => rfew m true w ow (by omega) (by omega) (decide_eq_true ⟨hx, hy⟩)
  have hN : n = 4 := by subst hw; exact hn.symm
  have CS := Lib.hid fun w => size_ wd n w hn
  obtain ⟨zs, e_zs⟩ : ∃ x, M.asv m.c m.xs a n v = x := ⟨_, rfl⟩
  obtain ⟨x, e_x⟩ : ∃ x, M.alv m.c m.xs a n = x := ⟨_, rfl⟩
  have C7 := Lib.hid fun w => fun (ow : m.Ok w) => fstore m a n v w ow (by omega) a0 a1 n0 n1 v0 v1 zs 0 0 e_zs ek (M.atv_yes ek)
  have C3 := Lib.hid fun w => fun (ow : m.Ok w) => fload m a n w ow (by omega) a0 a1 n0 n1 x 0 0 e_x ek (M.atv_yes ek)
  have hzl : zs.length = m.xs.length := by rw [← e_zs, M.asv_len]
  have ez : M.alv m.c zs a n = v := by rw [← e_zs, M.alv_asv hm.core ek a0 n0 v0, hN]; exact Int.emod_eq_of_lt v0 (by simpa using v1)
  have f1 : (n == 1) = false := by rw [hN]; rfl
  have q1 : ∀ w, (Op.equalIn 10000 35 (.agg #[.int .i64 0, .int .u32 0]) (.agg #[.int .i64 0, .int .u32 0])).run Try.prog w = .ok true w := fun w => by rw [eqTrap]; exact congrArg (fun b => Result.ok b w) (rfl)
  have g1 : (b % 4 != 0) = false := by simpa using hb
  have g2 : (a / 4 == b / 4) = false := by simpa using hab
  obtain ⟨xb, e_xb⟩ : ∃ x, M.alv m.c m.xs b 4 = x := ⟨_, rfl⟩
  obtain ⟨kb, e_kb⟩ : ∃ x, M.acz m.c m.xs.length b 4 = x := ⟨_, rfl⟩
  obtain ⟨yb, e_yb⟩ : ∃ x, M.atv m.c m.xs.length b 4 = x := ⟨_, rfl⟩
  have eb : M.alv m.c zs b 4 = xb := by rw [← e_zs, M.alv_other hm.core ek a0 b0 (by omega) hb hab]; exact e_xb
  have C5 := Lib.hid fun w => fun (ow : m.Ok w) => fload m b 4 w ow (by omega) b0 b1 (by decide) (by decide) xb kb yb e_xb e_kb e_yb
  have q3 : ∀ w, (Op.equalIn 10000 35 (.agg #[.int .i64 kb, .int .u32 yb]) (.agg #[.int .i64 kb, .int .u32 yb])).run Try.prog w = .ok true w := fun w => by rw [eqTrap]; exact congrArg (fun b => Result.ok b w) (by simp)
  have f3 : (xb == xb) = true := by simp
  replace ek := Lib.hid ek
  replace ez := Lib.hid ez
  replace hzl := Lib.hid hzl
  replace eb := Lib.hid eb
  replace e_kb := Lib.hid e_kb
  replace e_yb := Lib.hid e_yb
  clear e_xb
  clear hN hn hw e_zs e_x hab hb
  have HD := Lib.hid (Dn.refl W)
  obtain ⟨x0, b_r, hw0, hb0, r, d', nn⟩ := new_blk W 30 (mach m)
  have HL_r : Hid (W.heap.size ≤ b_r) := Lib.hid (by have := HD.out.size; omega)
  clear nn
  replace om := Lib.hid (om.out.dn d')
  replace HD := Lib.hid (HD.out.trans d')
  clear d'
  go_enter Try.func4, Try.ntmps4
  go_wp2_with fail
  rw [← hw0, ← hb0]
  clear hw0 hb0
  go_wp2_with (first | ((with_reducible refine load33 r hl ?_ ?_ ?_); rfl; rfl) | ((with_reducible refine loadCore r hl ?_ ?_ ?_); rfl; rfl) | ((with_reducible refine loadCsr r hl ?_ ?_ ?_); rfl; rfl) | (go_at_call 9; (first | (with_reducible refine (C0.out _).mono ?_)); rintro e w' ⟨rfl, d'⟩; replace r := r.dn d'; replace om := Lib.hid (om.out.dn d'); replace HD := Lib.hid (HD.out.trans d'); clear d') | (go_at_call 10; (first | (with_reducible refine (CF.out _ om.out).mono ?_)); rintro e w' ⟨rfl, d'⟩; replace r := r.dn d'; replace om := Lib.hid (om.out.dn d'); replace HD := Lib.hid (HD.out.trans d'); clear d') | (go_at_call 11; (first | (with_reducible refine (CS.out _).mono ?_)); rintro e w' ⟨rfl, rfl⟩) | (go_at_call 17; (with_reducible refine (C7.out _ om.out).mono ?_); rintro e w' ⟨m1, rfl, o1, u1, d'⟩; replace r := r.dn d'; replace om := Lib.hid (om.out.dn d'); replace HD := Lib.hid (HD.out.trans d'); clear d') | ((with_reducible refine alloc33 (b := w'.heap.size) rfl ?_ ?_); rfl; refine Hid.out ?_))
  refine Lib.hid ?_
  have h1 := o1.out.len
  obtain ⟨x', b_s, hw, hb, s, d', nn⟩ := new_blk w' 30 (mach Mc.zero)
  have n_r_s := Lib.hid (nn _ r.lt)
  have HL_s : Hid (W.heap.size ≤ b_s) := Lib.hid (by have := HD.out.size; omega)
  rw [← hw, ← hb]
  clear hw hb nn
  replace r := r.dn d'
  replace om := Lib.hid (om.out.dn d')
  replace o1 := Lib.hid (o1.out.dn d')
  replace HD := Lib.hid (HD.out.trans d')
  clear d'
  go_wp2_with (first | ((with_reducible refine load33 r hl ?_ ?_ ?_); rfl; rfl) | ((with_reducible refine loadCore r hl ?_ ?_ ?_); rfl; rfl) | ((with_reducible refine loadCsr r hl ?_ ?_ ?_); rfl; rfl) | ((with_reducible refine load33 s zlen ?_ ?_ ?_); rfl; rfl) | ((with_reducible refine loadCore s zlen ?_ ?_ ?_); rfl; rfl) | ((with_reducible refine loadCsr s zlen ?_ ?_ ?_); rfl; rfl) | ((with_reducible refine allocTrap (b := x'.heap.size) rfl ?_ ?_); rfl; refine Hid.out ?_))
  refine Lib.hid ?_
  obtain ⟨x', b_t, hw, hb, t, d', nn⟩ := new_blk x' 35 #[.int .i64 0, .int .u32 0]
  have n_r_t := Lib.hid (nn _ r.lt)
  have n_s_t := Lib.hid (nn _ s.lt)
  have HL_t : Hid (W.heap.size ≤ b_t) := Lib.hid (by have := HD.out.size; omega)
  rw [← hw, ← hb]
  clear hw hb nn
  replace r := r.dn d'
  replace s := s.dn d'
  replace om := Lib.hid (om.out.dn d')
  replace o1 := Lib.hid (o1.out.dn d')
  replace HD := Lib.hid (HD.out.trans d')
  clear d'
  go_wp2_with (first | ((with_reducible refine load33 r hl ?_ ?_ ?_); rfl; rfl) | ((with_reducible refine loadCore r hl ?_ ?_ ?_); rfl; rfl) | ((with_reducible refine loadCsr r hl ?_ ?_ ?_); rfl; rfl) | ((with_reducible refine load33 s zlen ?_ ?_ ?_); rfl; rfl) | ((with_reducible refine loadCore s zlen ?_ ?_ ?_); rfl; rfl) | ((with_reducible refine loadCsr s zlen ?_ ?_ ?_); rfl; rfl) | ((with_reducible refine loadTrap t ?_ ?_ ?_); rfl; rfl) | ((with_reducible refine store33 m1 h1 s zlen ?_ ?_ ?_ ?_); rfl; rfl; rfl; intro w' r' t'; refine Hid.out ?_))
  refine Lib.hid ?_
  replace om := Lib.hid (om.out.trn s (NoU8.mach _) t')
  replace o1 := Lib.hid (o1.out.trn s (NoU8.mach _) t')
  replace r := r.trn t' n_r_s.out
  replace t := t.trn t' n_s_t.out.symm
  replace HD := Lib.hid (HD.out.trn HL_s.out t')
  clear t' s
  have s := r'
  clear r'
  go_wp2_with (first | ((with_reducible refine load33 r hl ?_ ?_ ?_); rfl; rfl) | ((with_reducible refine loadCore r hl ?_ ?_ ?_); rfl; rfl) | ((with_reducible refine loadCsr r hl ?_ ?_ ?_); rfl; rfl) | ((with_reducible refine load33 s h1 ?_ ?_ ?_); rfl; rfl) | ((with_reducible refine loadCore s h1 ?_ ?_ ?_); rfl; rfl) | ((with_reducible refine loadCsr s h1 ?_ ?_ ?_); rfl; rfl) | ((with_reducible refine loadTrap t ?_ ?_ ?_); rfl; rfl) | ((with_reducible refine storeTrap (k := 0) (v := 0) t ?_ ?_ ?_ ?_); rfl; rfl; rfl; intro w' r' t'; refine Hid.out ?_))
  refine Lib.hid ?_
  replace om := Lib.hid (om.out.trn t (NoU8.trap _ _) t')
  replace o1 := Lib.hid (o1.out.trn t (NoU8.trap _ _) t')
  replace r := r.trn t' n_r_t.out
  replace s := s.trn t' n_s_t.out
  replace HD := Lib.hid (HD.out.trn HL_t.out t')
  clear t' t
  have t := r'
  clear r'
  go_wp2_with (first | ((with_reducible refine load33 r hl ?_ ?_ ?_); rfl; rfl) | ((with_reducible refine loadCore r hl ?_ ?_ ?_); rfl; rfl) | ((with_reducible refine loadCsr r hl ?_ ?_ ?_); rfl; rfl) | ((with_reducible refine load33 s h1 ?_ ?_ ?_); rfl; rfl) | ((with_reducible refine loadCore s h1 ?_ ?_ ?_); rfl; rfl) | ((with_reducible refine loadCsr s h1 ?_ ?_ ?_); rfl; rfl) | ((with_reducible refine loadTrap t ?_ ?_ ?_); rfl; rfl) | (go_at_call 14; (first | (with_reducible refine (C3.out _ om.out).mono ?_)); rintro e w' ⟨rfl, d'⟩; replace r := r.dn d'; replace s := s.dn d'; replace t := t.dn d'; replace om := Lib.hid (om.out.dn d'); replace o1 := Lib.hid (o1.out.dn d'); replace HD := Lib.hid (HD.out.trans d'); clear d') | ((with_reducible refine allocTrap (b := w'.heap.size) rfl ?_ ?_); rfl; refine Hid.out ?_))
  refine Lib.hid ?_
  obtain ⟨x', b_u, hw, hb, u, d', nn⟩ := new_blk w' 35 #[.int .i64 0, .int .u32 0]
  have n_r_u := Lib.hid (nn _ r.lt)
  have n_s_u := Lib.hid (nn _ s.lt)
  have n_t_u := Lib.hid (nn _ t.lt)
  have HL_u : Hid (W.heap.size ≤ b_u) := Lib.hid (by have := HD.out.size; omega)
  rw [← hw, ← hb]
  clear hw hb nn
  replace r := r.dn d'
  replace s := s.dn d'
  replace t := t.dn d'
  replace om := Lib.hid (om.out.dn d')
  replace o1 := Lib.hid (o1.out.dn d')
  replace HD := Lib.hid (HD.out.trans d')
  clear d'
  go_wp2_with (first | ((with_reducible refine load33 r hl ?_ ?_ ?_); rfl; rfl) | ((with_reducible refine loadCore r hl ?_ ?_ ?_); rfl; rfl) | ((with_reducible refine loadCsr r hl ?_ ?_ ?_); rfl; rfl) | ((with_reducible refine load33 s h1 ?_ ?_ ?_); rfl; rfl) | ((with_reducible refine loadCore s h1 ?_ ?_ ?_); rfl; rfl) | ((with_reducible refine loadCsr s h1 ?_ ?_ ?_); rfl; rfl) | ((with_reducible refine loadTrap t ?_ ?_ ?_); rfl; rfl) | ((with_reducible refine loadTrap u ?_ ?_ ?_); rfl; rfl) | ((with_reducible refine storeTrap (k := 0) (v := 0) u ?_ ?_ ?_ ?_); rfl; rfl; rfl; intro w' r' t'; refine Hid.out ?_))
  refine Lib.hid ?_
  replace om := Lib.hid (om.out.trn u (NoU8.trap _ _) t')
  replace o1 := Lib.hid (o1.out.trn u (NoU8.trap _ _) t')
  replace r := r.trn t' n_r_u.out
  replace s := s.trn t' n_s_u.out
  replace t := t.trn t' n_t_u.out
  replace HD := Lib.hid (HD.out.trn HL_u.out t')
  clear t' u
  have u := r'
  clear r'
  have C4 := Lib.hid fun w => fun (ow : m1.Ok w) => fload m1 a n w ow (by obtain ⟨A1, K1, g1⟩ := u1.out; rw [g1]; show zs.length ≤ 100000; have := hzl.out; omega) a0 a1 n0 n1 v 0 0 (by obtain ⟨A1, K1, g1⟩ := u1.out; rw [g1]; exact ez.out) (by obtain ⟨A1, K1, g1⟩ := u1.out; rw [g1]; show M.acz m.c zs.length a n = 0; rw [hzl.out]; exact ek.out) (by obtain ⟨A1, K1, g1⟩ := u1.out; rw [g1]; show M.atv m.c zs.length a n = 0; rw [hzl.out]; exact M.atv_yes ek.out)
  have C6 := Lib.hid fun w => fun (ow : m1.Ok w) => fload m1 b 4 w ow (by obtain ⟨A1, K1, g1⟩ := u1.out; rw [g1]; show zs.length ≤ 100000; have := hzl.out; omega) b0 b1 (by decide) (by decide) xb kb yb (by obtain ⟨A1, K1, g1⟩ := u1.out; rw [g1]; exact eb.out) (by obtain ⟨A1, K1, g1⟩ := u1.out; rw [g1]; show M.acz m.c zs.length b 4 = kb; rw [hzl.out]; exact e_kb.out) (by obtain ⟨A1, K1, g1⟩ := u1.out; rw [g1]; show M.atv m.c zs.length b 4 = yb; rw [hzl.out]; exact e_yb.out)
  have C9 := Lib.hid fun w => fun (ow : m1.Ok w) (ox : m.Ok w) => same_yes m1.B m.B m1.q m.q _ _ m1.ys m.ys w ow.out ox.out rfl rfl (by obtain ⟨A1, K1, g1⟩ := u1.out; rw [g1]) (by obtain ⟨A1, K1, g1⟩ := u1.out; rw [g1]; show m.ys.length ≤ 100000; omega)
  have qc := fun w => eq29 h1 hl w
  rw [show (m1.c == m.c) = true by obtain ⟨A1, K1, g1⟩ := u1.out; rw [g1]; simp] at qc
  have b1 : (m1.t != m.t) = false := by obtain ⟨A1, K1, g1⟩ := u1.out; rw [g1]; simp
  have b2 : (m1.h == m.h) = true := by obtain ⟨A1, K1, g1⟩ := u1.out; rw [g1]; simp
  have b3 : ((m1.xs.length : Int) != (m.xs.length : Int)) = false := by obtain ⟨A1, K1, g1⟩ := u1.out; rw [g1]; show ((zs.length : Int) != _) = false; rw [hzl.out]; simp
  clear u1 ez hzl ek eb e_kb e_yb
  go_wp2_with (first | ((with_reducible refine load33 r hl ?_ ?_ ?_); rfl; rfl) | ((with_reducible refine loadCore r hl ?_ ?_ ?_); rfl; rfl) | ((with_reducible refine loadCsr r hl ?_ ?_ ?_); rfl; rfl) | ((with_reducible refine load33 s h1 ?_ ?_ ?_); rfl; rfl) | ((with_reducible refine loadCore s h1 ?_ ?_ ?_); rfl; rfl) | ((with_reducible refine loadCsr s h1 ?_ ?_ ?_); rfl; rfl) | ((with_reducible refine loadTrap t ?_ ?_ ?_); rfl; rfl) | ((with_reducible refine loadTrap u ?_ ?_ ?_); rfl; rfl) | (go_at_call 14; (first | (with_reducible refine (C4.out _ o1.out).mono ?_)); rintro e w' ⟨rfl, d'⟩; replace r := r.dn d'; replace s := s.dn d'; replace t := t.dn d'; replace u := u.dn d'; replace om := Lib.hid (om.out.dn d'); replace o1 := Lib.hid (o1.out.dn d'); replace HD := Lib.hid (HD.out.trans d'); clear d') | ((with_reducible refine allocTrap (b := w'.heap.size) rfl ?_ ?_); rfl; refine Hid.out ?_))
  refine Lib.hid ?_
  obtain ⟨x', b_w, hw, hb, w, d', nn⟩ := new_blk w' 35 #[.int .i64 0, .int .u32 0]
  have n_r_w := Lib.hid (nn _ r.lt)
  have n_s_w := Lib.hid (nn _ s.lt)
  have n_t_w := Lib.hid (nn _ t.lt)
  have n_u_w := Lib.hid (nn _ u.lt)
  have HL_w : Hid (W.heap.size ≤ b_w) := Lib.hid (by have := HD.out.size; omega)
  rw [← hw, ← hb]
  clear hw hb nn
  replace r := r.dn d'
  replace s := s.dn d'
  replace t := t.dn d'
  replace u := u.dn d'
  replace om := Lib.hid (om.out.dn d')
  replace o1 := Lib.hid (o1.out.dn d')
  replace HD := Lib.hid (HD.out.trans d')
  clear d'
  go_wp2_with (first | ((with_reducible refine load33 r hl ?_ ?_ ?_); rfl; rfl) | ((with_reducible refine loadCore r hl ?_ ?_ ?_); rfl; rfl) | ((with_reducible refine loadCsr r hl ?_ ?_ ?_); rfl; rfl) | ((with_reducible refine load33 s h1 ?_ ?_ ?_); rfl; rfl) | ((with_reducible refine loadCore s h1 ?_ ?_ ?_); rfl; rfl) | ((with_reducible refine loadCsr s h1 ?_ ?_ ?_); rfl; rfl) | ((with_reducible refine loadTrap t ?_ ?_ ?_); rfl; rfl) | ((with_reducible refine loadTrap u ?_ ?_ ?_); rfl; rfl) | ((with_reducible refine loadTrap w ?_ ?_ ?_); rfl; rfl) | ((with_reducible refine storeTrap (k := 0) (v := 0) w ?_ ?_ ?_ ?_); rfl; rfl; rfl; intro w' r' t'; refine Hid.out ?_))
  refine Lib.hid ?_
  replace om := Lib.hid (om.out.trn w (NoU8.trap _ _) t')
  replace o1 := Lib.hid (o1.out.trn w (NoU8.trap _ _) t')
  replace r := r.trn t' n_r_w.out
  replace s := s.trn t' n_s_w.out
  replace t := t.trn t' n_t_w.out
  replace u := u.trn t' n_u_w.out
  replace HD := Lib.hid (HD.out.trn HL_w.out t')
  clear t' w
  have w := r'
  clear r'
  have c0 := s.mem h1
  have c1 := r.mem hl
  have c2 := s.time h1
  have c3 := r.time hl
  have c4 := s.halted h1
  have c5 := r.halted hl
  have c6 := s.out h1
  have c7 := r.out hl
  go_wp2_with (first | ((with_reducible refine load33 r hl ?_ ?_ ?_); rfl; rfl) | ((with_reducible refine loadCore r hl ?_ ?_ ?_); rfl; rfl) | ((with_reducible refine loadCsr r hl ?_ ?_ ?_); rfl; rfl) | ((with_reducible refine load33 s h1 ?_ ?_ ?_); rfl; rfl) | ((with_reducible refine loadCore s h1 ?_ ?_ ?_); rfl; rfl) | ((with_reducible refine loadCsr s h1 ?_ ?_ ?_); rfl; rfl) | ((with_reducible refine loadTrap t ?_ ?_ ?_); rfl; rfl) | ((with_reducible refine loadTrap u ?_ ?_ ?_); rfl; rfl) | ((with_reducible refine loadTrap w ?_ ?_ ?_); rfl; rfl) | (go_at_call 22; (first | (with_reducible refine (C9.out _ o1.out om.out).mono ?_)); rintro e w' ⟨rfl, d'⟩; replace r := r.dn d'; replace s := s.dn d'; replace t := t.dn d'; replace u := u.dn d'; replace w := w.dn d'; replace om := Lib.hid (om.out.dn d'); replace o1 := Lib.hid (o1.out.dn d'); replace HD := Lib.hid (HD.out.trans d'); replace c0 := s.mem h1; replace c1 := r.mem hl; replace c2 := s.time h1; replace c3 := r.time hl; replace c4 := s.halted h1; replace c5 := r.halted hl; replace c6 := s.out h1; replace c7 := r.out hl; clear d') | (go_at_call 14; (first | (with_reducible refine (C5.out _ om.out).mono ?_)); rintro e w' ⟨rfl, d'⟩; replace r := r.dn d'; replace s := s.dn d'; replace t := t.dn d'; replace u := u.dn d'; replace w := w.dn d'; replace om := Lib.hid (om.out.dn d'); replace o1 := Lib.hid (o1.out.dn d'); replace HD := Lib.hid (HD.out.trans d'); replace c0 := s.mem h1; replace c1 := r.mem hl; replace c2 := s.time h1; replace c3 := r.time hl; replace c4 := s.halted h1; replace c5 := r.halted hl; replace c6 := s.out h1; replace c7 := r.out hl; clear d') | ((with_reducible refine allocTrap (b := w'.heap.size) rfl ?_ ?_); rfl; refine Hid.out ?_))
  refine Lib.hid ?_
  obtain ⟨x', b_e, hw, hb, e, d', nn⟩ := new_blk w' 35 #[.int .i64 0, .int .u32 0]
  have n_r_e := Lib.hid (nn _ r.lt)
  have n_s_e := Lib.hid (nn _ s.lt)
  have n_t_e := Lib.hid (nn _ t.lt)
  have n_u_e := Lib.hid (nn _ u.lt)
  have n_w_e := Lib.hid (nn _ w.lt)
  have HL_e : Hid (W.heap.size ≤ b_e) := Lib.hid (by have := HD.out.size; omega)
  rw [← hw, ← hb]
  clear hw hb nn
  replace r := r.dn d'
  replace s := s.dn d'
  replace t := t.dn d'
  replace u := u.dn d'
  replace w := w.dn d'
  replace om := Lib.hid (om.out.dn d')
  replace o1 := Lib.hid (o1.out.dn d')
  replace HD := Lib.hid (HD.out.trans d')
  replace c0 := s.mem h1
  replace c1 := r.mem hl
  replace c2 := s.time h1
  replace c3 := r.time hl
  replace c4 := s.halted h1
  replace c5 := r.halted hl
  replace c6 := s.out h1
  replace c7 := r.out hl
  clear d'
  go_wp2_with (first | ((with_reducible refine load33 r hl ?_ ?_ ?_); rfl; rfl) | ((with_reducible refine loadCore r hl ?_ ?_ ?_); rfl; rfl) | ((with_reducible refine loadCsr r hl ?_ ?_ ?_); rfl; rfl) | ((with_reducible refine load33 s h1 ?_ ?_ ?_); rfl; rfl) | ((with_reducible refine loadCore s h1 ?_ ?_ ?_); rfl; rfl) | ((with_reducible refine loadCsr s h1 ?_ ?_ ?_); rfl; rfl) | ((with_reducible refine loadTrap t ?_ ?_ ?_); rfl; rfl) | ((with_reducible refine loadTrap u ?_ ?_ ?_); rfl; rfl) | ((with_reducible refine loadTrap w ?_ ?_ ?_); rfl; rfl) | ((with_reducible refine loadTrap e ?_ ?_ ?_); rfl; rfl) | ((with_reducible refine storeTrap (k := kb) (v := yb) e ?_ ?_ ?_ ?_); rfl; rfl; rfl; intro w' r' t'; refine Hid.out ?_))
  refine Lib.hid ?_
  replace om := Lib.hid (om.out.trn e (NoU8.trap _ _) t')
  replace o1 := Lib.hid (o1.out.trn e (NoU8.trap _ _) t')
  replace r := r.trn t' n_r_e.out
  replace s := s.trn t' n_s_e.out
  replace t := t.trn t' n_t_e.out
  replace u := u.trn t' n_u_e.out
  replace w := w.trn t' n_w_e.out
  replace HD := Lib.hid (HD.out.trn HL_e.out t')
  clear t' e
  have e := r'
  clear r'
  replace c0 := s.mem h1
  replace c1 := r.mem hl
  replace c2 := s.time h1
  replace c3 := r.time hl
  replace c4 := s.halted h1
  replace c5 := r.halted hl
  replace c6 := s.out h1
  replace c7 := r.out hl
  go_wp2_with (first | ((with_reducible refine load33 r hl ?_ ?_ ?_); rfl; rfl) | ((with_reducible refine loadCore r hl ?_ ?_ ?_); rfl; rfl) | ((with_reducible refine loadCsr r hl ?_ ?_ ?_); rfl; rfl) | ((with_reducible refine load33 s h1 ?_ ?_ ?_); rfl; rfl) | ((with_reducible refine loadCore s h1 ?_ ?_ ?_); rfl; rfl) | ((with_reducible refine loadCsr s h1 ?_ ?_ ?_); rfl; rfl) | ((with_reducible refine loadTrap t ?_ ?_ ?_); rfl; rfl) | ((with_reducible refine loadTrap u ?_ ?_ ?_); rfl; rfl) | ((with_reducible refine loadTrap w ?_ ?_ ?_); rfl; rfl) | ((with_reducible refine loadTrap e ?_ ?_ ?_); rfl; rfl) | (go_at_call 14; (first | (with_reducible refine (C6.out _ o1.out).mono ?_)); rintro e w' ⟨rfl, d'⟩; replace r := r.dn d'; replace s := s.dn d'; replace t := t.dn d'; replace u := u.dn d'; replace w := w.dn d'; replace e := e.dn d'; replace om := Lib.hid (om.out.dn d'); replace o1 := Lib.hid (o1.out.dn d'); replace HD := Lib.hid (HD.out.trans d'); replace c0 := s.mem h1; replace c1 := r.mem hl; replace c2 := s.time h1; replace c3 := r.time hl; replace c4 := s.halted h1; replace c5 := r.halted hl; replace c6 := s.out h1; replace c7 := r.out hl; clear d') | ((with_reducible refine allocTrap (b := w'.heap.size) rfl ?_ ?_); rfl; refine Hid.out ?_))
  refine Lib.hid ?_
  obtain ⟨x', b_f, hw, hb, f, d', nn⟩ := new_blk w' 35 #[.int .i64 0, .int .u32 0]
  have n_r_f := Lib.hid (nn _ r.lt)
  have n_s_f := Lib.hid (nn _ s.lt)
  have n_t_f := Lib.hid (nn _ t.lt)
  have n_u_f := Lib.hid (nn _ u.lt)
  have n_w_f := Lib.hid (nn _ w.lt)
  have n_e_f := Lib.hid (nn _ e.lt)
  have HL_f : Hid (W.heap.size ≤ b_f) := Lib.hid (by have := HD.out.size; omega)
  rw [← hw, ← hb]
  clear hw hb nn
  replace r := r.dn d'
  replace s := s.dn d'
  replace t := t.dn d'
  replace u := u.dn d'
  replace w := w.dn d'
  replace e := e.dn d'
  replace om := Lib.hid (om.out.dn d')
  replace o1 := Lib.hid (o1.out.dn d')
  replace HD := Lib.hid (HD.out.trans d')
  replace c0 := s.mem h1
  replace c1 := r.mem hl
  replace c2 := s.time h1
  replace c3 := r.time hl
  replace c4 := s.halted h1
  replace c5 := r.halted hl
  replace c6 := s.out h1
  replace c7 := r.out hl
  clear d'
  go_wp2_with (first | ((with_reducible refine load33 r hl ?_ ?_ ?_); rfl; rfl) | ((with_reducible refine loadCore r hl ?_ ?_ ?_); rfl; rfl) | ((with_reducible refine loadCsr r hl ?_ ?_ ?_); rfl; rfl) | ((with_reducible refine load33 s h1 ?_ ?_ ?_); rfl; rfl) | ((with_reducible refine loadCore s h1 ?_ ?_ ?_); rfl; rfl) | ((with_reducible refine loadCsr s h1 ?_ ?_ ?_); rfl; rfl) | ((with_reducible refine loadTrap t ?_ ?_ ?_); rfl; rfl) | ((with_reducible refine loadTrap u ?_ ?_ ?_); rfl; rfl) | ((with_reducible refine loadTrap w ?_ ?_ ?_); rfl; rfl) | ((with_reducible refine loadTrap e ?_ ?_ ?_); rfl; rfl) | ((with_reducible refine loadTrap f ?_ ?_ ?_); rfl; rfl) | ((with_reducible refine storeTrap (k := kb) (v := yb) f ?_ ?_ ?_ ?_); rfl; rfl; rfl; intro w' r' t'; refine Hid.out ?_))
  refine Lib.hid ?_
  replace om := Lib.hid (om.out.trn f (NoU8.trap _ _) t')
  replace o1 := Lib.hid (o1.out.trn f (NoU8.trap _ _) t')
  replace r := r.trn t' n_r_f.out
  replace s := s.trn t' n_s_f.out
  replace t := t.trn t' n_t_f.out
  replace u := u.trn t' n_u_f.out
  replace w := w.trn t' n_w_f.out
  replace e := e.trn t' n_e_f.out
  replace HD := Lib.hid (HD.out.trn HL_f.out t')
  clear t' f
  have f := r'
  clear r'
  replace c0 := s.mem h1
  replace c1 := r.mem hl
  replace c2 := s.time h1
  replace c3 := r.time hl
  replace c4 := s.halted h1
  replace c5 := r.halted hl
  replace c6 := s.out h1
  replace c7 := r.out hl
  go_wp2_with (first | ((with_reducible refine load33 r hl ?_ ?_ ?_); rfl; rfl) | ((with_reducible refine loadCore r hl ?_ ?_ ?_); rfl; rfl) | ((with_reducible refine loadCsr r hl ?_ ?_ ?_); rfl; rfl) | ((with_reducible refine load33 s h1 ?_ ?_ ?_); rfl; rfl) | ((with_reducible refine loadCore s h1 ?_ ?_ ?_); rfl; rfl) | ((with_reducible refine loadCsr s h1 ?_ ?_ ?_); rfl; rfl) | ((with_reducible refine loadTrap t ?_ ?_ ?_); rfl; rfl) | ((with_reducible refine loadTrap u ?_ ?_ ?_); rfl; rfl) | ((with_reducible refine loadTrap w ?_ ?_ ?_); rfl; rfl) | ((with_reducible refine loadTrap e ?_ ?_ ?_); rfl; rfl) | ((with_reducible refine loadTrap f ?_ ?_ ?_); rfl; rfl))
  go_ret
  exact ⟨rfl, HD.out⟩
set_option maxRecDepth 100000 in
set_option maxHeartbeats 2000000 in
theorem lSl_ok1x (m : Mc) (a : Int) (a0 : 0 ≤ a) (a1 : a < 4294967296) (b : Int) (b0 : 0 ≤ b) (b1 : b < 4294967296) (wd : Bool) (v : Int) (v0 : 0 ≤ v) (v1 : v < 4294967296) (W : World) (hm : m.Ok W) (hx : m.xs.length ≤ 600) (hy : m.ys.length ≤ 600) (n : Int) (hn : (if wd = true then 4 else 1 : Int) = n) (n0 : 1 ≤ n) (n1 : n ≤ 4) (ek : M.acz m.c m.xs.length a n = 0) (hw : wd = false) (hb : b % 4 ≠ 0) :
    Calls Try.prog 4 #[.agg (mach m), .int .u32 a, .int .u32 b, .bool wd, .int .u32 v] W fun e W' => e = .returned (.bool true) ∧ Dn W W' := by
  have hl := hm.len
  have om := Lib.hid hm
  have C0 := Lib.hid fun w => awake w
  have CF := Lib.hid fun w => fun (ow : m.Ok w) => rfew m true w ow (by omega) (by omega) (decide_eq_true ⟨hx, hy⟩)
  have hN : n = 1 := by subst hw; exact hn.symm
  have CS := Lib.hid fun w => size_ wd n w hn
  obtain ⟨zs, e_zs⟩ : ∃ x, M.asv m.c m.xs a n v = x := ⟨_, rfl⟩
  obtain ⟨x, e_x⟩ : ∃ x, M.alv m.c m.xs a n = x := ⟨_, rfl⟩
  have C7 := Lib.hid fun w => fun (ow : m.Ok w) => fstore m a n v w ow (by omega) a0 a1 n0 n1 v0 v1 zs 0 0 e_zs ek (M.atv_yes ek)
  have C3 := Lib.hid fun w => fun (ow : m.Ok w) => fload m a n w ow (by omega) a0 a1 n0 n1 x 0 0 e_x ek (M.atv_yes ek)
  have hzl : zs.length = m.xs.length := by rw [← e_zs, M.asv_len]
  have ez : M.alv m.c zs a n = (v % 256) := by rw [← e_zs, M.alv_asv hm.core ek a0 n0 v0, hN]; rfl
  have f1 : (n == 1) = true := by rw [hN]; rfl
  have q1 : ∀ w, (Op.equalIn 10000 35 (.agg #[.int .i64 0, .int .u32 0]) (.agg #[.int .i64 0, .int .u32 0])).run Try.prog w = .ok true w := fun w => by rw [eqTrap]; exact congrArg (fun b => Result.ok b w) (rfl)
  have g1 : (b % 4 != 0) = true := by simpa using hb
  replace ek := Lib.hid ek
  replace ez := Lib.hid ez
  replace hzl := Lib.hid hzl
  clear hN hn hw e_zs e_x hb
  have HD := Lib.hid (Dn.refl W)
  obtain ⟨x0, b_r, hw0, hb0, r, d', nn⟩ := new_blk W 30 (mach m)
  have HL_r : Hid (W.heap.size ≤ b_r) := Lib.hid (by have := HD.out.size; omega)
  clear nn
  replace om := Lib.hid (om.out.dn d')
  replace HD := Lib.hid (HD.out.trans d')
  clear d'
  go_enter Try.func4, Try.ntmps4
  go_wp2_with fail
  rw [← hw0, ← hb0]
  clear hw0 hb0
  go_wp2_with (first | ((with_reducible refine load33 r hl ?_ ?_ ?_); rfl; rfl) | ((with_reducible refine loadCore r hl ?_ ?_ ?_); rfl; rfl) | ((with_reducible refine loadCsr r hl ?_ ?_ ?_); rfl; rfl) | (go_at_call 9; (first | (with_reducible refine (C0.out _).mono ?_)); rintro e w' ⟨rfl, d'⟩; replace r := r.dn d'; replace om := Lib.hid (om.out.dn d'); replace HD := Lib.hid (HD.out.trans d'); clear d') | (go_at_call 10; (first | (with_reducible refine (CF.out _ om.out).mono ?_)); rintro e w' ⟨rfl, d'⟩; replace r := r.dn d'; replace om := Lib.hid (om.out.dn d'); replace HD := Lib.hid (HD.out.trans d'); clear d') | (go_at_call 11; (first | (with_reducible refine (CS.out _).mono ?_)); rintro e w' ⟨rfl, rfl⟩) | (go_at_call 17; (with_reducible refine (C7.out _ om.out).mono ?_); rintro e w' ⟨m1, rfl, o1, u1, d'⟩; replace r := r.dn d'; replace om := Lib.hid (om.out.dn d'); replace HD := Lib.hid (HD.out.trans d'); clear d') | ((with_reducible refine alloc33 (b := w'.heap.size) rfl ?_ ?_); rfl; refine Hid.out ?_))
  refine Lib.hid ?_
  have h1 := o1.out.len
  obtain ⟨x', b_s, hw, hb, s, d', nn⟩ := new_blk w' 30 (mach Mc.zero)
  have n_r_s := Lib.hid (nn _ r.lt)
  have HL_s : Hid (W.heap.size ≤ b_s) := Lib.hid (by have := HD.out.size; omega)
  rw [← hw, ← hb]
  clear hw hb nn
  replace r := r.dn d'
  replace om := Lib.hid (om.out.dn d')
  replace o1 := Lib.hid (o1.out.dn d')
  replace HD := Lib.hid (HD.out.trans d')
  clear d'
  go_wp2_with (first | ((with_reducible refine load33 r hl ?_ ?_ ?_); rfl; rfl) | ((with_reducible refine loadCore r hl ?_ ?_ ?_); rfl; rfl) | ((with_reducible refine loadCsr r hl ?_ ?_ ?_); rfl; rfl) | ((with_reducible refine load33 s zlen ?_ ?_ ?_); rfl; rfl) | ((with_reducible refine loadCore s zlen ?_ ?_ ?_); rfl; rfl) | ((with_reducible refine loadCsr s zlen ?_ ?_ ?_); rfl; rfl) | ((with_reducible refine allocTrap (b := x'.heap.size) rfl ?_ ?_); rfl; refine Hid.out ?_))
  refine Lib.hid ?_
  obtain ⟨x', b_t, hw, hb, t, d', nn⟩ := new_blk x' 35 #[.int .i64 0, .int .u32 0]
  have n_r_t := Lib.hid (nn _ r.lt)
  have n_s_t := Lib.hid (nn _ s.lt)
  have HL_t : Hid (W.heap.size ≤ b_t) := Lib.hid (by have := HD.out.size; omega)
  rw [← hw, ← hb]
  clear hw hb nn
  replace r := r.dn d'
  replace s := s.dn d'
  replace om := Lib.hid (om.out.dn d')
  replace o1 := Lib.hid (o1.out.dn d')
  replace HD := Lib.hid (HD.out.trans d')
  clear d'
  go_wp2_with (first | ((with_reducible refine load33 r hl ?_ ?_ ?_); rfl; rfl) | ((with_reducible refine loadCore r hl ?_ ?_ ?_); rfl; rfl) | ((with_reducible refine loadCsr r hl ?_ ?_ ?_); rfl; rfl) | ((with_reducible refine load33 s zlen ?_ ?_ ?_); rfl; rfl) | ((with_reducible refine loadCore s zlen ?_ ?_ ?_); rfl; rfl) | ((with_reducible refine loadCsr s zlen ?_ ?_ ?_); rfl; rfl) | ((with_reducible refine loadTrap t ?_ ?_ ?_); rfl; rfl) | ((with_reducible refine store33 m1 h1 s zlen ?_ ?_ ?_ ?_); rfl; rfl; rfl; intro w' r' t'; refine Hid.out ?_))
  refine Lib.hid ?_
  replace om := Lib.hid (om.out.trn s (NoU8.mach _) t')
  replace o1 := Lib.hid (o1.out.trn s (NoU8.mach _) t')
  replace r := r.trn t' n_r_s.out
  replace t := t.trn t' n_s_t.out.symm
  replace HD := Lib.hid (HD.out.trn HL_s.out t')
  clear t' s
  have s := r'
  clear r'
  go_wp2_with (first | ((with_reducible refine load33 r hl ?_ ?_ ?_); rfl; rfl) | ((with_reducible refine loadCore r hl ?_ ?_ ?_); rfl; rfl) | ((with_reducible refine loadCsr r hl ?_ ?_ ?_); rfl; rfl) | ((with_reducible refine load33 s h1 ?_ ?_ ?_); rfl; rfl) | ((with_reducible refine loadCore s h1 ?_ ?_ ?_); rfl; rfl) | ((with_reducible refine loadCsr s h1 ?_ ?_ ?_); rfl; rfl) | ((with_reducible refine loadTrap t ?_ ?_ ?_); rfl; rfl) | ((with_reducible refine storeTrap (k := 0) (v := 0) t ?_ ?_ ?_ ?_); rfl; rfl; rfl; intro w' r' t'; refine Hid.out ?_))
  refine Lib.hid ?_
  replace om := Lib.hid (om.out.trn t (NoU8.trap _ _) t')
  replace o1 := Lib.hid (o1.out.trn t (NoU8.trap _ _) t')
  replace r := r.trn t' n_r_t.out
  replace s := s.trn t' n_s_t.out
  replace HD := Lib.hid (HD.out.trn HL_t.out t')
  clear t' t
  have t := r'
  clear r'
  go_wp2_with (first | ((with_reducible refine load33 r hl ?_ ?_ ?_); rfl; rfl) | ((with_reducible refine loadCore r hl ?_ ?_ ?_); rfl; rfl) | ((with_reducible refine loadCsr r hl ?_ ?_ ?_); rfl; rfl) | ((with_reducible refine load33 s h1 ?_ ?_ ?_); rfl; rfl) | ((with_reducible refine loadCore s h1 ?_ ?_ ?_); rfl; rfl) | ((with_reducible refine loadCsr s h1 ?_ ?_ ?_); rfl; rfl) | ((with_reducible refine loadTrap t ?_ ?_ ?_); rfl; rfl) | (go_at_call 14; (first | (with_reducible refine (C3.out _ om.out).mono ?_)); rintro e w' ⟨rfl, d'⟩; replace r := r.dn d'; replace s := s.dn d'; replace t := t.dn d'; replace om := Lib.hid (om.out.dn d'); replace o1 := Lib.hid (o1.out.dn d'); replace HD := Lib.hid (HD.out.trans d'); clear d') | ((with_reducible refine allocTrap (b := w'.heap.size) rfl ?_ ?_); rfl; refine Hid.out ?_))
  refine Lib.hid ?_
  obtain ⟨x', b_u, hw, hb, u, d', nn⟩ := new_blk w' 35 #[.int .i64 0, .int .u32 0]
  have n_r_u := Lib.hid (nn _ r.lt)
  have n_s_u := Lib.hid (nn _ s.lt)
  have n_t_u := Lib.hid (nn _ t.lt)
  have HL_u : Hid (W.heap.size ≤ b_u) := Lib.hid (by have := HD.out.size; omega)
  rw [← hw, ← hb]
  clear hw hb nn
  replace r := r.dn d'
  replace s := s.dn d'
  replace t := t.dn d'
  replace om := Lib.hid (om.out.dn d')
  replace o1 := Lib.hid (o1.out.dn d')
  replace HD := Lib.hid (HD.out.trans d')
  clear d'
  go_wp2_with (first | ((with_reducible refine load33 r hl ?_ ?_ ?_); rfl; rfl) | ((with_reducible refine loadCore r hl ?_ ?_ ?_); rfl; rfl) | ((with_reducible refine loadCsr r hl ?_ ?_ ?_); rfl; rfl) | ((with_reducible refine load33 s h1 ?_ ?_ ?_); rfl; rfl) | ((with_reducible refine loadCore s h1 ?_ ?_ ?_); rfl; rfl) | ((with_reducible refine loadCsr s h1 ?_ ?_ ?_); rfl; rfl) | ((with_reducible refine loadTrap t ?_ ?_ ?_); rfl; rfl) | ((with_reducible refine loadTrap u ?_ ?_ ?_); rfl; rfl) | ((with_reducible refine storeTrap (k := 0) (v := 0) u ?_ ?_ ?_ ?_); rfl; rfl; rfl; intro w' r' t'; refine Hid.out ?_))
  refine Lib.hid ?_
  replace om := Lib.hid (om.out.trn u (NoU8.trap _ _) t')
  replace o1 := Lib.hid (o1.out.trn u (NoU8.trap _ _) t')
  replace r := r.trn t' n_r_u.out
  replace s := s.trn t' n_s_u.out
  replace t := t.trn t' n_t_u.out
  replace HD := Lib.hid (HD.out.trn HL_u.out t')
  clear t' u
  have u := r'
  clear r'
  have C4 := Lib.hid fun w => fun (ow : m1.Ok w) => fload m1 a n w ow (by obtain ⟨A1, K1, g1⟩ := u1.out; rw [g1]; show zs.length ≤ 100000; have := hzl.out; omega) a0 a1 n0 n1 (v % 256) 0 0 (by obtain ⟨A1, K1, g1⟩ := u1.out; rw [g1]; exact ez.out) (by obtain ⟨A1, K1, g1⟩ := u1.out; rw [g1]; show M.acz m.c zs.length a n = 0; rw [hzl.out]; exact ek.out) (by obtain ⟨A1, K1, g1⟩ := u1.out; rw [g1]; show M.atv m.c zs.length a n = 0; rw [hzl.out]; exact M.atv_yes ek.out)
  have C9 := Lib.hid fun w => fun (ow : m1.Ok w) (ox : m.Ok w) => same_yes m1.B m.B m1.q m.q _ _ m1.ys m.ys w ow.out ox.out rfl rfl (by obtain ⟨A1, K1, g1⟩ := u1.out; rw [g1]) (by obtain ⟨A1, K1, g1⟩ := u1.out; rw [g1]; show m.ys.length ≤ 100000; omega)
  have qc := fun w => eq29 h1 hl w
  rw [show (m1.c == m.c) = true by obtain ⟨A1, K1, g1⟩ := u1.out; rw [g1]; simp] at qc
  have b1 : (m1.t != m.t) = false := by obtain ⟨A1, K1, g1⟩ := u1.out; rw [g1]; simp
  have b2 : (m1.h == m.h) = true := by obtain ⟨A1, K1, g1⟩ := u1.out; rw [g1]; simp
  have b3 : ((m1.xs.length : Int) != (m.xs.length : Int)) = false := by obtain ⟨A1, K1, g1⟩ := u1.out; rw [g1]; show ((zs.length : Int) != _) = false; rw [hzl.out]; simp
  clear u1 ez hzl ek
  go_wp2_with (first | ((with_reducible refine load33 r hl ?_ ?_ ?_); rfl; rfl) | ((with_reducible refine loadCore r hl ?_ ?_ ?_); rfl; rfl) | ((with_reducible refine loadCsr r hl ?_ ?_ ?_); rfl; rfl) | ((with_reducible refine load33 s h1 ?_ ?_ ?_); rfl; rfl) | ((with_reducible refine loadCore s h1 ?_ ?_ ?_); rfl; rfl) | ((with_reducible refine loadCsr s h1 ?_ ?_ ?_); rfl; rfl) | ((with_reducible refine loadTrap t ?_ ?_ ?_); rfl; rfl) | ((with_reducible refine loadTrap u ?_ ?_ ?_); rfl; rfl) | (go_at_call 14; (first | (with_reducible refine (C4.out _ o1.out).mono ?_)); rintro e w' ⟨rfl, d'⟩; replace r := r.dn d'; replace s := s.dn d'; replace t := t.dn d'; replace u := u.dn d'; replace om := Lib.hid (om.out.dn d'); replace o1 := Lib.hid (o1.out.dn d'); replace HD := Lib.hid (HD.out.trans d'); clear d') | ((with_reducible refine allocTrap (b := w'.heap.size) rfl ?_ ?_); rfl; refine Hid.out ?_))
  refine Lib.hid ?_
  obtain ⟨x', b_w, hw, hb, w, d', nn⟩ := new_blk w' 35 #[.int .i64 0, .int .u32 0]
  have n_r_w := Lib.hid (nn _ r.lt)
  have n_s_w := Lib.hid (nn _ s.lt)
  have n_t_w := Lib.hid (nn _ t.lt)
  have n_u_w := Lib.hid (nn _ u.lt)
  have HL_w : Hid (W.heap.size ≤ b_w) := Lib.hid (by have := HD.out.size; omega)
  rw [← hw, ← hb]
  clear hw hb nn
  replace r := r.dn d'
  replace s := s.dn d'
  replace t := t.dn d'
  replace u := u.dn d'
  replace om := Lib.hid (om.out.dn d')
  replace o1 := Lib.hid (o1.out.dn d')
  replace HD := Lib.hid (HD.out.trans d')
  clear d'
  go_wp2_with (first | ((with_reducible refine load33 r hl ?_ ?_ ?_); rfl; rfl) | ((with_reducible refine loadCore r hl ?_ ?_ ?_); rfl; rfl) | ((with_reducible refine loadCsr r hl ?_ ?_ ?_); rfl; rfl) | ((with_reducible refine load33 s h1 ?_ ?_ ?_); rfl; rfl) | ((with_reducible refine loadCore s h1 ?_ ?_ ?_); rfl; rfl) | ((with_reducible refine loadCsr s h1 ?_ ?_ ?_); rfl; rfl) | ((with_reducible refine loadTrap t ?_ ?_ ?_); rfl; rfl) | ((with_reducible refine loadTrap u ?_ ?_ ?_); rfl; rfl) | ((with_reducible refine loadTrap w ?_ ?_ ?_); rfl; rfl) | ((with_reducible refine storeTrap (k := 0) (v := 0) w ?_ ?_ ?_ ?_); rfl; rfl; rfl; intro w' r' t'; refine Hid.out ?_))
  refine Lib.hid ?_
  replace om := Lib.hid (om.out.trn w (NoU8.trap _ _) t')
  replace o1 := Lib.hid (o1.out.trn w (NoU8.trap _ _) t')
  replace r := r.trn t' n_r_w.out
  replace s := s.trn t' n_s_w.out
  replace t := t.trn t' n_t_w.out
  replace u := u.trn t' n_u_w.out
  replace HD := Lib.hid (HD.out.trn HL_w.out t')
  clear t' w
  have w := r'
  clear r'
  have c0 := s.mem h1
  have c1 := r.mem hl
  have c2 := s.time h1
  have c3 := r.time hl
  have c4 := s.halted h1
  have c5 := r.halted hl
  have c6 := s.out h1
  have c7 := r.out hl
  go_wp2_with (first | ((with_reducible refine load33 r hl ?_ ?_ ?_); rfl; rfl) | ((with_reducible refine loadCore r hl ?_ ?_ ?_); rfl; rfl) | ((with_reducible refine loadCsr r hl ?_ ?_ ?_); rfl; rfl) | ((with_reducible refine load33 s h1 ?_ ?_ ?_); rfl; rfl) | ((with_reducible refine loadCore s h1 ?_ ?_ ?_); rfl; rfl) | ((with_reducible refine loadCsr s h1 ?_ ?_ ?_); rfl; rfl) | ((with_reducible refine loadTrap t ?_ ?_ ?_); rfl; rfl) | ((with_reducible refine loadTrap u ?_ ?_ ?_); rfl; rfl) | ((with_reducible refine loadTrap w ?_ ?_ ?_); rfl; rfl) | (go_at_call 22; (first | (with_reducible refine (C9.out _ o1.out om.out).mono ?_)); rintro e w' ⟨rfl, d'⟩; replace r := r.dn d'; replace s := s.dn d'; replace t := t.dn d'; replace u := u.dn d'; replace w := w.dn d'; replace om := Lib.hid (om.out.dn d'); replace o1 := Lib.hid (o1.out.dn d'); replace HD := Lib.hid (HD.out.trans d'); replace c0 := s.mem h1; replace c1 := r.mem hl; replace c2 := s.time h1; replace c3 := r.time hl; replace c4 := s.halted h1; replace c5 := r.halted hl; replace c6 := s.out h1; replace c7 := r.out hl; clear d'))
  go_ret
  exact ⟨rfl, HD.out⟩
set_option maxRecDepth 100000 in
set_option maxHeartbeats 2000000 in
theorem lSl_ok1y (m : Mc) (a : Int) (a0 : 0 ≤ a) (a1 : a < 4294967296) (b : Int) (b0 : 0 ≤ b) (b1 : b < 4294967296) (wd : Bool) (v : Int) (v0 : 0 ≤ v) (v1 : v < 4294967296) (W : World) (hm : m.Ok W) (hx : m.xs.length ≤ 600) (hy : m.ys.length ≤ 600) (n : Int) (hn : (if wd = true then 4 else 1 : Int) = n) (n0 : 1 ≤ n) (n1 : n ≤ 4) (ek : M.acz m.c m.xs.length a n = 0) (hw : wd = false) (hb : b % 4 = 0) (hab : a / 4 = b / 4) :
    Calls Try.prog 4 #[.agg (mach m), .int .u32 a, .int .u32 b, .bool wd, .int .u32 v] W fun e W' => e = .returned (.bool true) ∧ Dn W W' := by
  have hl := hm.len
  have om := Lib.hid hm
  have C0 := Lib.hid fun w => awake w
  have CF := Lib.hid fun w => fun (ow : m.Ok w) => rfew m true w ow (by omega) (by omega) (decide_eq_true ⟨hx, hy⟩)
  have hN : n = 1 := by subst hw; exact hn.symm
  have CS := Lib.hid fun w => size_ wd n w hn
  obtain ⟨zs, e_zs⟩ : ∃ x, M.asv m.c m.xs a n v = x := ⟨_, rfl⟩
  obtain ⟨x, e_x⟩ : ∃ x, M.alv m.c m.xs a n = x := ⟨_, rfl⟩
  have C7 := Lib.hid fun w => fun (ow : m.Ok w) => fstore m a n v w ow (by omega) a0 a1 n0 n1 v0 v1 zs 0 0 e_zs ek (M.atv_yes ek)
  have C3 := Lib.hid fun w => fun (ow : m.Ok w) => fload m a n w ow (by omega) a0 a1 n0 n1 x 0 0 e_x ek (M.atv_yes ek)
  have hzl : zs.length = m.xs.length := by rw [← e_zs, M.asv_len]
  have ez : M.alv m.c zs a n = (v % 256) := by rw [← e_zs, M.alv_asv hm.core ek a0 n0 v0, hN]; rfl
  have f1 : (n == 1) = true := by rw [hN]; rfl
  have q1 : ∀ w, (Op.equalIn 10000 35 (.agg #[.int .i64 0, .int .u32 0]) (.agg #[.int .i64 0, .int .u32 0])).run Try.prog w = .ok true w := fun w => by rw [eqTrap]; exact congrArg (fun b => Result.ok b w) (rfl)
  have g1 : (b % 4 != 0) = false := by simpa using hb
  have g2 : (a / 4 == b / 4) = true := by simpa using hab
  replace ek := Lib.hid ek
  replace ez := Lib.hid ez
  replace hzl := Lib.hid hzl
  clear hN hn hw e_zs e_x hab hb
  have HD := Lib.hid (Dn.refl W)
  obtain ⟨x0, b_r, hw0, hb0, r, d', nn⟩ := new_blk W 30 (mach m)
  have HL_r : Hid (W.heap.size ≤ b_r) := Lib.hid (by have := HD.out.size; omega)
  clear nn
  replace om := Lib.hid (om.out.dn d')
  replace HD := Lib.hid (HD.out.trans d')
  clear d'
  go_enter Try.func4, Try.ntmps4
  go_wp2_with fail
  rw [← hw0, ← hb0]
  clear hw0 hb0
  go_wp2_with (first | ((with_reducible refine load33 r hl ?_ ?_ ?_); rfl; rfl) | ((with_reducible refine loadCore r hl ?_ ?_ ?_); rfl; rfl) | ((with_reducible refine loadCsr r hl ?_ ?_ ?_); rfl; rfl) | (go_at_call 9; (first | (with_reducible refine (C0.out _).mono ?_)); rintro e w' ⟨rfl, d'⟩; replace r := r.dn d'; replace om := Lib.hid (om.out.dn d'); replace HD := Lib.hid (HD.out.trans d'); clear d') | (go_at_call 10; (first | (with_reducible refine (CF.out _ om.out).mono ?_)); rintro e w' ⟨rfl, d'⟩; replace r := r.dn d'; replace om := Lib.hid (om.out.dn d'); replace HD := Lib.hid (HD.out.trans d'); clear d') | (go_at_call 11; (first | (with_reducible refine (CS.out _).mono ?_)); rintro e w' ⟨rfl, rfl⟩) | (go_at_call 17; (with_reducible refine (C7.out _ om.out).mono ?_); rintro e w' ⟨m1, rfl, o1, u1, d'⟩; replace r := r.dn d'; replace om := Lib.hid (om.out.dn d'); replace HD := Lib.hid (HD.out.trans d'); clear d') | ((with_reducible refine alloc33 (b := w'.heap.size) rfl ?_ ?_); rfl; refine Hid.out ?_))
  refine Lib.hid ?_
  have h1 := o1.out.len
  obtain ⟨x', b_s, hw, hb, s, d', nn⟩ := new_blk w' 30 (mach Mc.zero)
  have n_r_s := Lib.hid (nn _ r.lt)
  have HL_s : Hid (W.heap.size ≤ b_s) := Lib.hid (by have := HD.out.size; omega)
  rw [← hw, ← hb]
  clear hw hb nn
  replace r := r.dn d'
  replace om := Lib.hid (om.out.dn d')
  replace o1 := Lib.hid (o1.out.dn d')
  replace HD := Lib.hid (HD.out.trans d')
  clear d'
  go_wp2_with (first | ((with_reducible refine load33 r hl ?_ ?_ ?_); rfl; rfl) | ((with_reducible refine loadCore r hl ?_ ?_ ?_); rfl; rfl) | ((with_reducible refine loadCsr r hl ?_ ?_ ?_); rfl; rfl) | ((with_reducible refine load33 s zlen ?_ ?_ ?_); rfl; rfl) | ((with_reducible refine loadCore s zlen ?_ ?_ ?_); rfl; rfl) | ((with_reducible refine loadCsr s zlen ?_ ?_ ?_); rfl; rfl) | ((with_reducible refine allocTrap (b := x'.heap.size) rfl ?_ ?_); rfl; refine Hid.out ?_))
  refine Lib.hid ?_
  obtain ⟨x', b_t, hw, hb, t, d', nn⟩ := new_blk x' 35 #[.int .i64 0, .int .u32 0]
  have n_r_t := Lib.hid (nn _ r.lt)
  have n_s_t := Lib.hid (nn _ s.lt)
  have HL_t : Hid (W.heap.size ≤ b_t) := Lib.hid (by have := HD.out.size; omega)
  rw [← hw, ← hb]
  clear hw hb nn
  replace r := r.dn d'
  replace s := s.dn d'
  replace om := Lib.hid (om.out.dn d')
  replace o1 := Lib.hid (o1.out.dn d')
  replace HD := Lib.hid (HD.out.trans d')
  clear d'
  go_wp2_with (first | ((with_reducible refine load33 r hl ?_ ?_ ?_); rfl; rfl) | ((with_reducible refine loadCore r hl ?_ ?_ ?_); rfl; rfl) | ((with_reducible refine loadCsr r hl ?_ ?_ ?_); rfl; rfl) | ((with_reducible refine load33 s zlen ?_ ?_ ?_); rfl; rfl) | ((with_reducible refine loadCore s zlen ?_ ?_ ?_); rfl; rfl) | ((with_reducible refine loadCsr s zlen ?_ ?_ ?_); rfl; rfl) | ((with_reducible refine loadTrap t ?_ ?_ ?_); rfl; rfl) | ((with_reducible refine store33 m1 h1 s zlen ?_ ?_ ?_ ?_); rfl; rfl; rfl; intro w' r' t'; refine Hid.out ?_))
  refine Lib.hid ?_
  replace om := Lib.hid (om.out.trn s (NoU8.mach _) t')
  replace o1 := Lib.hid (o1.out.trn s (NoU8.mach _) t')
  replace r := r.trn t' n_r_s.out
  replace t := t.trn t' n_s_t.out.symm
  replace HD := Lib.hid (HD.out.trn HL_s.out t')
  clear t' s
  have s := r'
  clear r'
  go_wp2_with (first | ((with_reducible refine load33 r hl ?_ ?_ ?_); rfl; rfl) | ((with_reducible refine loadCore r hl ?_ ?_ ?_); rfl; rfl) | ((with_reducible refine loadCsr r hl ?_ ?_ ?_); rfl; rfl) | ((with_reducible refine load33 s h1 ?_ ?_ ?_); rfl; rfl) | ((with_reducible refine loadCore s h1 ?_ ?_ ?_); rfl; rfl) | ((with_reducible refine loadCsr s h1 ?_ ?_ ?_); rfl; rfl) | ((with_reducible refine loadTrap t ?_ ?_ ?_); rfl; rfl) | ((with_reducible refine storeTrap (k := 0) (v := 0) t ?_ ?_ ?_ ?_); rfl; rfl; rfl; intro w' r' t'; refine Hid.out ?_))
  refine Lib.hid ?_
  replace om := Lib.hid (om.out.trn t (NoU8.trap _ _) t')
  replace o1 := Lib.hid (o1.out.trn t (NoU8.trap _ _) t')
  replace r := r.trn t' n_r_t.out
  replace s := s.trn t' n_s_t.out
  replace HD := Lib.hid (HD.out.trn HL_t.out t')
  clear t' t
  have t := r'
  clear r'
  go_wp2_with (first | ((with_reducible refine load33 r hl ?_ ?_ ?_); rfl; rfl) | ((with_reducible refine loadCore r hl ?_ ?_ ?_); rfl; rfl) | ((with_reducible refine loadCsr r hl ?_ ?_ ?_); rfl; rfl) | ((with_reducible refine load33 s h1 ?_ ?_ ?_); rfl; rfl) | ((with_reducible refine loadCore s h1 ?_ ?_ ?_); rfl; rfl) | ((with_reducible refine loadCsr s h1 ?_ ?_ ?_); rfl; rfl) | ((with_reducible refine loadTrap t ?_ ?_ ?_); rfl; rfl) | (go_at_call 14; (first | (with_reducible refine (C3.out _ om.out).mono ?_)); rintro e w' ⟨rfl, d'⟩; replace r := r.dn d'; replace s := s.dn d'; replace t := t.dn d'; replace om := Lib.hid (om.out.dn d'); replace o1 := Lib.hid (o1.out.dn d'); replace HD := Lib.hid (HD.out.trans d'); clear d') | ((with_reducible refine allocTrap (b := w'.heap.size) rfl ?_ ?_); rfl; refine Hid.out ?_))
  refine Lib.hid ?_
  obtain ⟨x', b_u, hw, hb, u, d', nn⟩ := new_blk w' 35 #[.int .i64 0, .int .u32 0]
  have n_r_u := Lib.hid (nn _ r.lt)
  have n_s_u := Lib.hid (nn _ s.lt)
  have n_t_u := Lib.hid (nn _ t.lt)
  have HL_u : Hid (W.heap.size ≤ b_u) := Lib.hid (by have := HD.out.size; omega)
  rw [← hw, ← hb]
  clear hw hb nn
  replace r := r.dn d'
  replace s := s.dn d'
  replace t := t.dn d'
  replace om := Lib.hid (om.out.dn d')
  replace o1 := Lib.hid (o1.out.dn d')
  replace HD := Lib.hid (HD.out.trans d')
  clear d'
  go_wp2_with (first | ((with_reducible refine load33 r hl ?_ ?_ ?_); rfl; rfl) | ((with_reducible refine loadCore r hl ?_ ?_ ?_); rfl; rfl) | ((with_reducible refine loadCsr r hl ?_ ?_ ?_); rfl; rfl) | ((with_reducible refine load33 s h1 ?_ ?_ ?_); rfl; rfl) | ((with_reducible refine loadCore s h1 ?_ ?_ ?_); rfl; rfl) | ((with_reducible refine loadCsr s h1 ?_ ?_ ?_); rfl; rfl) | ((with_reducible refine loadTrap t ?_ ?_ ?_); rfl; rfl) | ((with_reducible refine loadTrap u ?_ ?_ ?_); rfl; rfl) | ((with_reducible refine storeTrap (k := 0) (v := 0) u ?_ ?_ ?_ ?_); rfl; rfl; rfl; intro w' r' t'; refine Hid.out ?_))
  refine Lib.hid ?_
  replace om := Lib.hid (om.out.trn u (NoU8.trap _ _) t')
  replace o1 := Lib.hid (o1.out.trn u (NoU8.trap _ _) t')
  replace r := r.trn t' n_r_u.out
  replace s := s.trn t' n_s_u.out
  replace t := t.trn t' n_t_u.out
  replace HD := Lib.hid (HD.out.trn HL_u.out t')
  clear t' u
  have u := r'
  clear r'
  have C4 := Lib.hid fun w => fun (ow : m1.Ok w) => fload m1 a n w ow (by obtain ⟨A1, K1, g1⟩ := u1.out; rw [g1]; show zs.length ≤ 100000; have := hzl.out; omega) a0 a1 n0 n1 (v % 256) 0 0 (by obtain ⟨A1, K1, g1⟩ := u1.out; rw [g1]; exact ez.out) (by obtain ⟨A1, K1, g1⟩ := u1.out; rw [g1]; show M.acz m.c zs.length a n = 0; rw [hzl.out]; exact ek.out) (by obtain ⟨A1, K1, g1⟩ := u1.out; rw [g1]; show M.atv m.c zs.length a n = 0; rw [hzl.out]; exact M.atv_yes ek.out)
  have C9 := Lib.hid fun w => fun (ow : m1.Ok w) (ox : m.Ok w) => same_yes m1.B m.B m1.q m.q _ _ m1.ys m.ys w ow.out ox.out rfl rfl (by obtain ⟨A1, K1, g1⟩ := u1.out; rw [g1]) (by obtain ⟨A1, K1, g1⟩ := u1.out; rw [g1]; show m.ys.length ≤ 100000; omega)
  have qc := fun w => eq29 h1 hl w
  rw [show (m1.c == m.c) = true by obtain ⟨A1, K1, g1⟩ := u1.out; rw [g1]; simp] at qc
  have b1 : (m1.t != m.t) = false := by obtain ⟨A1, K1, g1⟩ := u1.out; rw [g1]; simp
  have b2 : (m1.h == m.h) = true := by obtain ⟨A1, K1, g1⟩ := u1.out; rw [g1]; simp
  have b3 : ((m1.xs.length : Int) != (m.xs.length : Int)) = false := by obtain ⟨A1, K1, g1⟩ := u1.out; rw [g1]; show ((zs.length : Int) != _) = false; rw [hzl.out]; simp
  clear u1 ez hzl ek
  go_wp2_with (first | ((with_reducible refine load33 r hl ?_ ?_ ?_); rfl; rfl) | ((with_reducible refine loadCore r hl ?_ ?_ ?_); rfl; rfl) | ((with_reducible refine loadCsr r hl ?_ ?_ ?_); rfl; rfl) | ((with_reducible refine load33 s h1 ?_ ?_ ?_); rfl; rfl) | ((with_reducible refine loadCore s h1 ?_ ?_ ?_); rfl; rfl) | ((with_reducible refine loadCsr s h1 ?_ ?_ ?_); rfl; rfl) | ((with_reducible refine loadTrap t ?_ ?_ ?_); rfl; rfl) | ((with_reducible refine loadTrap u ?_ ?_ ?_); rfl; rfl) | (go_at_call 14; (first | (with_reducible refine (C4.out _ o1.out).mono ?_)); rintro e w' ⟨rfl, d'⟩; replace r := r.dn d'; replace s := s.dn d'; replace t := t.dn d'; replace u := u.dn d'; replace om := Lib.hid (om.out.dn d'); replace o1 := Lib.hid (o1.out.dn d'); replace HD := Lib.hid (HD.out.trans d'); clear d') | ((with_reducible refine allocTrap (b := w'.heap.size) rfl ?_ ?_); rfl; refine Hid.out ?_))
  refine Lib.hid ?_
  obtain ⟨x', b_w, hw, hb, w, d', nn⟩ := new_blk w' 35 #[.int .i64 0, .int .u32 0]
  have n_r_w := Lib.hid (nn _ r.lt)
  have n_s_w := Lib.hid (nn _ s.lt)
  have n_t_w := Lib.hid (nn _ t.lt)
  have n_u_w := Lib.hid (nn _ u.lt)
  have HL_w : Hid (W.heap.size ≤ b_w) := Lib.hid (by have := HD.out.size; omega)
  rw [← hw, ← hb]
  clear hw hb nn
  replace r := r.dn d'
  replace s := s.dn d'
  replace t := t.dn d'
  replace u := u.dn d'
  replace om := Lib.hid (om.out.dn d')
  replace o1 := Lib.hid (o1.out.dn d')
  replace HD := Lib.hid (HD.out.trans d')
  clear d'
  go_wp2_with (first | ((with_reducible refine load33 r hl ?_ ?_ ?_); rfl; rfl) | ((with_reducible refine loadCore r hl ?_ ?_ ?_); rfl; rfl) | ((with_reducible refine loadCsr r hl ?_ ?_ ?_); rfl; rfl) | ((with_reducible refine load33 s h1 ?_ ?_ ?_); rfl; rfl) | ((with_reducible refine loadCore s h1 ?_ ?_ ?_); rfl; rfl) | ((with_reducible refine loadCsr s h1 ?_ ?_ ?_); rfl; rfl) | ((with_reducible refine loadTrap t ?_ ?_ ?_); rfl; rfl) | ((with_reducible refine loadTrap u ?_ ?_ ?_); rfl; rfl) | ((with_reducible refine loadTrap w ?_ ?_ ?_); rfl; rfl) | ((with_reducible refine storeTrap (k := 0) (v := 0) w ?_ ?_ ?_ ?_); rfl; rfl; rfl; intro w' r' t'; refine Hid.out ?_))
  refine Lib.hid ?_
  replace om := Lib.hid (om.out.trn w (NoU8.trap _ _) t')
  replace o1 := Lib.hid (o1.out.trn w (NoU8.trap _ _) t')
  replace r := r.trn t' n_r_w.out
  replace s := s.trn t' n_s_w.out
  replace t := t.trn t' n_t_w.out
  replace u := u.trn t' n_u_w.out
  replace HD := Lib.hid (HD.out.trn HL_w.out t')
  clear t' w
  have w := r'
  clear r'
  have c0 := s.mem h1
  have c1 := r.mem hl
  have c2 := s.time h1
  have c3 := r.time hl
  have c4 := s.halted h1
  have c5 := r.halted hl
  have c6 := s.out h1
  have c7 := r.out hl
  go_wp2_with (first | ((with_reducible refine load33 r hl ?_ ?_ ?_); rfl; rfl) | ((with_reducible refine loadCore r hl ?_ ?_ ?_); rfl; rfl) | ((with_reducible refine loadCsr r hl ?_ ?_ ?_); rfl; rfl) | ((with_reducible refine load33 s h1 ?_ ?_ ?_); rfl; rfl) | ((with_reducible refine loadCore s h1 ?_ ?_ ?_); rfl; rfl) | ((with_reducible refine loadCsr s h1 ?_ ?_ ?_); rfl; rfl) | ((with_reducible refine loadTrap t ?_ ?_ ?_); rfl; rfl) | ((with_reducible refine loadTrap u ?_ ?_ ?_); rfl; rfl) | ((with_reducible refine loadTrap w ?_ ?_ ?_); rfl; rfl) | (go_at_call 22; (first | (with_reducible refine (C9.out _ o1.out om.out).mono ?_)); rintro e w' ⟨rfl, d'⟩; replace r := r.dn d'; replace s := s.dn d'; replace t := t.dn d'; replace u := u.dn d'; replace w := w.dn d'; replace om := Lib.hid (om.out.dn d'); replace o1 := Lib.hid (o1.out.dn d'); replace HD := Lib.hid (HD.out.trans d'); replace c0 := s.mem h1; replace c1 := r.mem hl; replace c2 := s.time h1; replace c3 := r.time hl; replace c4 := s.halted h1; replace c5 := r.halted hl; replace c6 := s.out h1; replace c7 := r.out hl; clear d'))
  go_ret
  exact ⟨rfl, HD.out⟩
set_option maxRecDepth 100000 in
set_option maxHeartbeats 2000000 in
theorem lSl_ok1z (m : Mc) (a : Int) (a0 : 0 ≤ a) (a1 : a < 4294967296) (b : Int) (b0 : 0 ≤ b) (b1 : b < 4294967296) (wd : Bool) (v : Int) (v0 : 0 ≤ v) (v1 : v < 4294967296) (W : World) (hm : m.Ok W) (hx : m.xs.length ≤ 600) (hy : m.ys.length ≤ 600) (n : Int) (hn : (if wd = true then 4 else 1 : Int) = n) (n0 : 1 ≤ n) (n1 : n ≤ 4) (ek : M.acz m.c m.xs.length a n = 0) (hw : wd = false) (hb : b % 4 = 0) (hab : a / 4 ≠ b / 4) :
    Calls Try.prog 4 #[.agg (mach m), .int .u32 a, .int .u32 b, .bool wd, .int .u32 v] W fun e W' => e = .returned (.bool true) ∧ Dn W W' := by
  have hl := hm.len
  have om := Lib.hid hm
  have C0 := Lib.hid fun w => awake w
  have CF := Lib.hid fun w => fun (ow : m.Ok w) => rfew m true w ow (by omega) (by omega) (decide_eq_true ⟨hx, hy⟩)
  have hN : n = 1 := by subst hw; exact hn.symm
  have CS := Lib.hid fun w => size_ wd n w hn
  obtain ⟨zs, e_zs⟩ : ∃ x, M.asv m.c m.xs a n v = x := ⟨_, rfl⟩
  obtain ⟨x, e_x⟩ : ∃ x, M.alv m.c m.xs a n = x := ⟨_, rfl⟩
  have C7 := Lib.hid fun w => fun (ow : m.Ok w) => fstore m a n v w ow (by omega) a0 a1 n0 n1 v0 v1 zs 0 0 e_zs ek (M.atv_yes ek)
  have C3 := Lib.hid fun w => fun (ow : m.Ok w) => fload m a n w ow (by omega) a0 a1 n0 n1 x 0 0 e_x ek (M.atv_yes ek)
  have hzl : zs.length = m.xs.length := by rw [← e_zs, M.asv_len]
  have ez : M.alv m.c zs a n = (v % 256) := by rw [← e_zs, M.alv_asv hm.core ek a0 n0 v0, hN]; rfl
  have f1 : (n == 1) = true := by rw [hN]; rfl
  have q1 : ∀ w, (Op.equalIn 10000 35 (.agg #[.int .i64 0, .int .u32 0]) (.agg #[.int .i64 0, .int .u32 0])).run Try.prog w = .ok true w := fun w => by rw [eqTrap]; exact congrArg (fun b => Result.ok b w) (rfl)
  have g1 : (b % 4 != 0) = false := by simpa using hb
  have g2 : (a / 4 == b / 4) = false := by simpa using hab
  obtain ⟨xb, e_xb⟩ : ∃ x, M.alv m.c m.xs b 4 = x := ⟨_, rfl⟩
  obtain ⟨kb, e_kb⟩ : ∃ x, M.acz m.c m.xs.length b 4 = x := ⟨_, rfl⟩
  obtain ⟨yb, e_yb⟩ : ∃ x, M.atv m.c m.xs.length b 4 = x := ⟨_, rfl⟩
  have eb : M.alv m.c zs b 4 = xb := by rw [← e_zs, M.alv_other hm.core ek a0 b0 (by omega) hb hab]; exact e_xb
  have C5 := Lib.hid fun w => fun (ow : m.Ok w) => fload m b 4 w ow (by omega) b0 b1 (by decide) (by decide) xb kb yb e_xb e_kb e_yb
  have q3 : ∀ w, (Op.equalIn 10000 35 (.agg #[.int .i64 kb, .int .u32 yb]) (.agg #[.int .i64 kb, .int .u32 yb])).run Try.prog w = .ok true w := fun w => by rw [eqTrap]; exact congrArg (fun b => Result.ok b w) (by simp)
  have f3 : (xb == xb) = true := by simp
  replace ek := Lib.hid ek
  replace ez := Lib.hid ez
  replace hzl := Lib.hid hzl
  replace eb := Lib.hid eb
  replace e_kb := Lib.hid e_kb
  replace e_yb := Lib.hid e_yb
  clear e_xb
  clear hN hn hw e_zs e_x hab hb
  have HD := Lib.hid (Dn.refl W)
  obtain ⟨x0, b_r, hw0, hb0, r, d', nn⟩ := new_blk W 30 (mach m)
  have HL_r : Hid (W.heap.size ≤ b_r) := Lib.hid (by have := HD.out.size; omega)
  clear nn
  replace om := Lib.hid (om.out.dn d')
  replace HD := Lib.hid (HD.out.trans d')
  clear d'
  go_enter Try.func4, Try.ntmps4
  go_wp2_with fail
  rw [← hw0, ← hb0]
  clear hw0 hb0
  go_wp2_with (first | ((with_reducible refine load33 r hl ?_ ?_ ?_); rfl; rfl) | ((with_reducible refine loadCore r hl ?_ ?_ ?_); rfl; rfl) | ((with_reducible refine loadCsr r hl ?_ ?_ ?_); rfl; rfl) | (go_at_call 9; (first | (with_reducible refine (C0.out _).mono ?_)); rintro e w' ⟨rfl, d'⟩; replace r := r.dn d'; replace om := Lib.hid (om.out.dn d'); replace HD := Lib.hid (HD.out.trans d'); clear d') | (go_at_call 10; (first | (with_reducible refine (CF.out _ om.out).mono ?_)); rintro e w' ⟨rfl, d'⟩; replace r := r.dn d'; replace om := Lib.hid (om.out.dn d'); replace HD := Lib.hid (HD.out.trans d'); clear d') | (go_at_call 11; (first | (with_reducible refine (CS.out _).mono ?_)); rintro e w' ⟨rfl, rfl⟩) | (go_at_call 17; (with_reducible refine (C7.out _ om.out).mono ?_); rintro e w' ⟨m1, rfl, o1, u1, d'⟩; replace r := r.dn d'; replace om := Lib.hid (om.out.dn d'); replace HD := Lib.hid (HD.out.trans d'); clear d') | ((with_reducible refine alloc33 (b := w'.heap.size) rfl ?_ ?_); rfl; refine Hid.out ?_))
  refine Lib.hid ?_
  have h1 := o1.out.len
  obtain ⟨x', b_s, hw, hb, s, d', nn⟩ := new_blk w' 30 (mach Mc.zero)
  have n_r_s := Lib.hid (nn _ r.lt)
  have HL_s : Hid (W.heap.size ≤ b_s) := Lib.hid (by have := HD.out.size; omega)
  rw [← hw, ← hb]
  clear hw hb nn
  replace r := r.dn d'
  replace om := Lib.hid (om.out.dn d')
  replace o1 := Lib.hid (o1.out.dn d')
  replace HD := Lib.hid (HD.out.trans d')
  clear d'
  go_wp2_with (first | ((with_reducible refine load33 r hl ?_ ?_ ?_); rfl; rfl) | ((with_reducible refine loadCore r hl ?_ ?_ ?_); rfl; rfl) | ((with_reducible refine loadCsr r hl ?_ ?_ ?_); rfl; rfl) | ((with_reducible refine load33 s zlen ?_ ?_ ?_); rfl; rfl) | ((with_reducible refine loadCore s zlen ?_ ?_ ?_); rfl; rfl) | ((with_reducible refine loadCsr s zlen ?_ ?_ ?_); rfl; rfl) | ((with_reducible refine allocTrap (b := x'.heap.size) rfl ?_ ?_); rfl; refine Hid.out ?_))
  refine Lib.hid ?_
  obtain ⟨x', b_t, hw, hb, t, d', nn⟩ := new_blk x' 35 #[.int .i64 0, .int .u32 0]
  have n_r_t := Lib.hid (nn _ r.lt)
  have n_s_t := Lib.hid (nn _ s.lt)
  have HL_t : Hid (W.heap.size ≤ b_t) := Lib.hid (by have := HD.out.size; omega)
  rw [← hw, ← hb]
  clear hw hb nn
  replace r := r.dn d'
  replace s := s.dn d'
  replace om := Lib.hid (om.out.dn d')
  replace o1 := Lib.hid (o1.out.dn d')
  replace HD := Lib.hid (HD.out.trans d')
  clear d'
  go_wp2_with (first | ((with_reducible refine load33 r hl ?_ ?_ ?_); rfl; rfl) | ((with_reducible refine loadCore r hl ?_ ?_ ?_); rfl; rfl) | ((with_reducible refine loadCsr r hl ?_ ?_ ?_); rfl; rfl) | ((with_reducible refine load33 s zlen ?_ ?_ ?_); rfl; rfl) | ((with_reducible refine loadCore s zlen ?_ ?_ ?_); rfl; rfl) | ((with_reducible refine loadCsr s zlen ?_ ?_ ?_); rfl; rfl) | ((with_reducible refine loadTrap t ?_ ?_ ?_); rfl; rfl) | ((with_reducible refine store33 m1 h1 s zlen ?_ ?_ ?_ ?_); rfl; rfl; rfl; intro w' r' t'; refine Hid.out ?_))
  refine Lib.hid ?_
  replace om := Lib.hid (om.out.trn s (NoU8.mach _) t')
  replace o1 := Lib.hid (o1.out.trn s (NoU8.mach _) t')
  replace r := r.trn t' n_r_s.out
  replace t := t.trn t' n_s_t.out.symm
  replace HD := Lib.hid (HD.out.trn HL_s.out t')
  clear t' s
  have s := r'
  clear r'
  go_wp2_with (first | ((with_reducible refine load33 r hl ?_ ?_ ?_); rfl; rfl) | ((with_reducible refine loadCore r hl ?_ ?_ ?_); rfl; rfl) | ((with_reducible refine loadCsr r hl ?_ ?_ ?_); rfl; rfl) | ((with_reducible refine load33 s h1 ?_ ?_ ?_); rfl; rfl) | ((with_reducible refine loadCore s h1 ?_ ?_ ?_); rfl; rfl) | ((with_reducible refine loadCsr s h1 ?_ ?_ ?_); rfl; rfl) | ((with_reducible refine loadTrap t ?_ ?_ ?_); rfl; rfl) | ((with_reducible refine storeTrap (k := 0) (v := 0) t ?_ ?_ ?_ ?_); rfl; rfl; rfl; intro w' r' t'; refine Hid.out ?_))
  refine Lib.hid ?_
  replace om := Lib.hid (om.out.trn t (NoU8.trap _ _) t')
  replace o1 := Lib.hid (o1.out.trn t (NoU8.trap _ _) t')
  replace r := r.trn t' n_r_t.out
  replace s := s.trn t' n_s_t.out
  replace HD := Lib.hid (HD.out.trn HL_t.out t')
  clear t' t
  have t := r'
  clear r'
  go_wp2_with (first | ((with_reducible refine load33 r hl ?_ ?_ ?_); rfl; rfl) | ((with_reducible refine loadCore r hl ?_ ?_ ?_); rfl; rfl) | ((with_reducible refine loadCsr r hl ?_ ?_ ?_); rfl; rfl) | ((with_reducible refine load33 s h1 ?_ ?_ ?_); rfl; rfl) | ((with_reducible refine loadCore s h1 ?_ ?_ ?_); rfl; rfl) | ((with_reducible refine loadCsr s h1 ?_ ?_ ?_); rfl; rfl) | ((with_reducible refine loadTrap t ?_ ?_ ?_); rfl; rfl) | (go_at_call 14; (first | (with_reducible refine (C3.out _ om.out).mono ?_)); rintro e w' ⟨rfl, d'⟩; replace r := r.dn d'; replace s := s.dn d'; replace t := t.dn d'; replace om := Lib.hid (om.out.dn d'); replace o1 := Lib.hid (o1.out.dn d'); replace HD := Lib.hid (HD.out.trans d'); clear d') | ((with_reducible refine allocTrap (b := w'.heap.size) rfl ?_ ?_); rfl; refine Hid.out ?_))
  refine Lib.hid ?_
  obtain ⟨x', b_u, hw, hb, u, d', nn⟩ := new_blk w' 35 #[.int .i64 0, .int .u32 0]
  have n_r_u := Lib.hid (nn _ r.lt)
  have n_s_u := Lib.hid (nn _ s.lt)
  have n_t_u := Lib.hid (nn _ t.lt)
  have HL_u : Hid (W.heap.size ≤ b_u) := Lib.hid (by have := HD.out.size; omega)
  rw [← hw, ← hb]
  clear hw hb nn
  replace r := r.dn d'
  replace s := s.dn d'
  replace t := t.dn d'
  replace om := Lib.hid (om.out.dn d')
  replace o1 := Lib.hid (o1.out.dn d')
  replace HD := Lib.hid (HD.out.trans d')
  clear d'
  go_wp2_with (first | ((with_reducible refine load33 r hl ?_ ?_ ?_); rfl; rfl) | ((with_reducible refine loadCore r hl ?_ ?_ ?_); rfl; rfl) | ((with_reducible refine loadCsr r hl ?_ ?_ ?_); rfl; rfl) | ((with_reducible refine load33 s h1 ?_ ?_ ?_); rfl; rfl) | ((with_reducible refine loadCore s h1 ?_ ?_ ?_); rfl; rfl) | ((with_reducible refine loadCsr s h1 ?_ ?_ ?_); rfl; rfl) | ((with_reducible refine loadTrap t ?_ ?_ ?_); rfl; rfl) | ((with_reducible refine loadTrap u ?_ ?_ ?_); rfl; rfl) | ((with_reducible refine storeTrap (k := 0) (v := 0) u ?_ ?_ ?_ ?_); rfl; rfl; rfl; intro w' r' t'; refine Hid.out ?_))
  refine Lib.hid ?_
  replace om := Lib.hid (om.out.trn u (NoU8.trap _ _) t')
  replace o1 := Lib.hid (o1.out.trn u (NoU8.trap _ _) t')
  replace r := r.trn t' n_r_u.out
  replace s := s.trn t' n_s_u.out
  replace t := t.trn t' n_t_u.out
  replace HD := Lib.hid (HD.out.trn HL_u.out t')
  clear t' u
  have u := r'
  clear r'
  have C4 := Lib.hid fun w => fun (ow : m1.Ok w) => fload m1 a n w ow (by obtain ⟨A1, K1, g1⟩ := u1.out; rw [g1]; show zs.length ≤ 100000; have := hzl.out; omega) a0 a1 n0 n1 (v % 256) 0 0 (by obtain ⟨A1, K1, g1⟩ := u1.out; rw [g1]; exact ez.out) (by obtain ⟨A1, K1, g1⟩ := u1.out; rw [g1]; show M.acz m.c zs.length a n = 0; rw [hzl.out]; exact ek.out) (by obtain ⟨A1, K1, g1⟩ := u1.out; rw [g1]; show M.atv m.c zs.length a n = 0; rw [hzl.out]; exact M.atv_yes ek.out)
  have C6 := Lib.hid fun w => fun (ow : m1.Ok w) => fload m1 b 4 w ow (by obtain ⟨A1, K1, g1⟩ := u1.out; rw [g1]; show zs.length ≤ 100000; have := hzl.out; omega) b0 b1 (by decide) (by decide) xb kb yb (by obtain ⟨A1, K1, g1⟩ := u1.out; rw [g1]; exact eb.out) (by obtain ⟨A1, K1, g1⟩ := u1.out; rw [g1]; show M.acz m.c zs.length b 4 = kb; rw [hzl.out]; exact e_kb.out) (by obtain ⟨A1, K1, g1⟩ := u1.out; rw [g1]; show M.atv m.c zs.length b 4 = yb; rw [hzl.out]; exact e_yb.out)
  have C9 := Lib.hid fun w => fun (ow : m1.Ok w) (ox : m.Ok w) => same_yes m1.B m.B m1.q m.q _ _ m1.ys m.ys w ow.out ox.out rfl rfl (by obtain ⟨A1, K1, g1⟩ := u1.out; rw [g1]) (by obtain ⟨A1, K1, g1⟩ := u1.out; rw [g1]; show m.ys.length ≤ 100000; omega)
  have qc := fun w => eq29 h1 hl w
  rw [show (m1.c == m.c) = true by obtain ⟨A1, K1, g1⟩ := u1.out; rw [g1]; simp] at qc
  have b1 : (m1.t != m.t) = false := by obtain ⟨A1, K1, g1⟩ := u1.out; rw [g1]; simp
  have b2 : (m1.h == m.h) = true := by obtain ⟨A1, K1, g1⟩ := u1.out; rw [g1]; simp
  have b3 : ((m1.xs.length : Int) != (m.xs.length : Int)) = false := by obtain ⟨A1, K1, g1⟩ := u1.out; rw [g1]; show ((zs.length : Int) != _) = false; rw [hzl.out]; simp
  clear u1 ez hzl ek eb e_kb e_yb
  go_wp2_with (first | ((with_reducible refine load33 r hl ?_ ?_ ?_); rfl; rfl) | ((with_reducible refine loadCore r hl ?_ ?_ ?_); rfl; rfl) | ((with_reducible refine loadCsr r hl ?_ ?_ ?_); rfl; rfl) | ((with_reducible refine load33 s h1 ?_ ?_ ?_); rfl; rfl) | ((with_reducible refine loadCore s h1 ?_ ?_ ?_); rfl; rfl) | ((with_reducible refine loadCsr s h1 ?_ ?_ ?_); rfl; rfl) | ((with_reducible refine loadTrap t ?_ ?_ ?_); rfl; rfl) | ((with_reducible refine loadTrap u ?_ ?_ ?_); rfl; rfl) | (go_at_call 14; (first | (with_reducible refine (C4.out _ o1.out).mono ?_)); rintro e w' ⟨rfl, d'⟩; replace r := r.dn d'; replace s := s.dn d'; replace t := t.dn d'; replace u := u.dn d'; replace om := Lib.hid (om.out.dn d'); replace o1 := Lib.hid (o1.out.dn d'); replace HD := Lib.hid (HD.out.trans d'); clear d') | ((with_reducible refine allocTrap (b := w'.heap.size) rfl ?_ ?_); rfl; refine Hid.out ?_))
  refine Lib.hid ?_
  obtain ⟨x', b_w, hw, hb, w, d', nn⟩ := new_blk w' 35 #[.int .i64 0, .int .u32 0]
  have n_r_w := Lib.hid (nn _ r.lt)
  have n_s_w := Lib.hid (nn _ s.lt)
  have n_t_w := Lib.hid (nn _ t.lt)
  have n_u_w := Lib.hid (nn _ u.lt)
  have HL_w : Hid (W.heap.size ≤ b_w) := Lib.hid (by have := HD.out.size; omega)
  rw [← hw, ← hb]
  clear hw hb nn
  replace r := r.dn d'
  replace s := s.dn d'
  replace t := t.dn d'
  replace u := u.dn d'
  replace om := Lib.hid (om.out.dn d')
  replace o1 := Lib.hid (o1.out.dn d')
  replace HD := Lib.hid (HD.out.trans d')
  clear d'
  go_wp2_with (first | ((with_reducible refine load33 r hl ?_ ?_ ?_); rfl; rfl) | ((with_reducible refine loadCore r hl ?_ ?_ ?_); rfl; rfl) | ((with_reducible refine loadCsr r hl ?_ ?_ ?_); rfl; rfl) | ((with_reducible refine load33 s h1 ?_ ?_ ?_); rfl; rfl) | ((with_reducible refine loadCore s h1 ?_ ?_ ?_); rfl; rfl) | ((with_reducible refine loadCsr s h1 ?_ ?_ ?_); rfl; rfl) | ((with_reducible refine loadTrap t ?_ ?_ ?_); rfl; rfl) | ((with_reducible refine loadTrap u ?_ ?_ ?_); rfl; rfl) | ((with_reducible refine loadTrap w ?_ ?_ ?_); rfl; rfl) | ((with_reducible refine storeTrap (k := 0) (v := 0) w ?_ ?_ ?_ ?_); rfl; rfl; rfl; intro w' r' t'; refine Hid.out ?_))
  refine Lib.hid ?_
  replace om := Lib.hid (om.out.trn w (NoU8.trap _ _) t')
  replace o1 := Lib.hid (o1.out.trn w (NoU8.trap _ _) t')
  replace r := r.trn t' n_r_w.out
  replace s := s.trn t' n_s_w.out
  replace t := t.trn t' n_t_w.out
  replace u := u.trn t' n_u_w.out
  replace HD := Lib.hid (HD.out.trn HL_w.out t')
  clear t' w
  have w := r'
  clear r'
  have c0 := s.mem h1
  have c1 := r.mem hl
  have c2 := s.time h1
  have c3 := r.time hl
  have c4 := s.halted h1
  have c5 := r.halted hl
  have c6 := s.out h1
  have c7 := r.out hl
  go_wp2_with (first | ((with_reducible refine load33 r hl ?_ ?_ ?_); rfl; rfl) | ((with_reducible refine loadCore r hl ?_ ?_ ?_); rfl; rfl) | ((with_reducible refine loadCsr r hl ?_ ?_ ?_); rfl; rfl) | ((with_reducible refine load33 s h1 ?_ ?_ ?_); rfl; rfl) | ((with_reducible refine loadCore s h1 ?_ ?_ ?_); rfl; rfl) | ((with_reducible refine loadCsr s h1 ?_ ?_ ?_); rfl; rfl) | ((with_reducible refine loadTrap t ?_ ?_ ?_); rfl; rfl) | ((with_reducible refine loadTrap u ?_ ?_ ?_); rfl; rfl) | ((with_reducible refine loadTrap w ?_ ?_ ?_); rfl; rfl) | (go_at_call 22; (first | (with_reducible refine (C9.out _ o1.out om.out).mono ?_)); rintro e w' ⟨rfl, d'⟩; replace r := r.dn d'; replace s := s.dn d'; replace t := t.dn d'; replace u := u.dn d'; replace w := w.dn d'; replace om := Lib.hid (om.out.dn d'); replace o1 := Lib.hid (o1.out.dn d'); replace HD := Lib.hid (HD.out.trans d'); replace c0 := s.mem h1; replace c1 := r.mem hl; replace c2 := s.time h1; replace c3 := r.time hl; replace c4 := s.halted h1; replace c5 := r.halted hl; replace c6 := s.out h1; replace c7 := r.out hl; clear d') | (go_at_call 14; (first | (with_reducible refine (C5.out _ om.out).mono ?_)); rintro e w' ⟨rfl, d'⟩; replace r := r.dn d'; replace s := s.dn d'; replace t := t.dn d'; replace u := u.dn d'; replace w := w.dn d'; replace om := Lib.hid (om.out.dn d'); replace o1 := Lib.hid (o1.out.dn d'); replace HD := Lib.hid (HD.out.trans d'); replace c0 := s.mem h1; replace c1 := r.mem hl; replace c2 := s.time h1; replace c3 := r.time hl; replace c4 := s.halted h1; replace c5 := r.halted hl; replace c6 := s.out h1; replace c7 := r.out hl; clear d') | ((with_reducible refine allocTrap (b := w'.heap.size) rfl ?_ ?_); rfl; refine Hid.out ?_))
  refine Lib.hid ?_
  obtain ⟨x', b_e, hw, hb, e, d', nn⟩ := new_blk w' 35 #[.int .i64 0, .int .u32 0]
  have n_r_e := Lib.hid (nn _ r.lt)
  have n_s_e := Lib.hid (nn _ s.lt)
  have n_t_e := Lib.hid (nn _ t.lt)
  have n_u_e := Lib.hid (nn _ u.lt)
  have n_w_e := Lib.hid (nn _ w.lt)
  have HL_e : Hid (W.heap.size ≤ b_e) := Lib.hid (by have := HD.out.size; omega)
  rw [← hw, ← hb]
  clear hw hb nn
  replace r := r.dn d'
  replace s := s.dn d'
  replace t := t.dn d'
  replace u := u.dn d'
  replace w := w.dn d'
  replace om := Lib.hid (om.out.dn d')
  replace o1 := Lib.hid (o1.out.dn d')
  replace HD := Lib.hid (HD.out.trans d')
  replace c0 := s.mem h1
  replace c1 := r.mem hl
  replace c2 := s.time h1
  replace c3 := r.time hl
  replace c4 := s.halted h1
  replace c5 := r.halted hl
  replace c6 := s.out h1
  replace c7 := r.out hl
  clear d'
  go_wp2_with (first | ((with_reducible refine load33 r hl ?_ ?_ ?_); rfl; rfl) | ((with_reducible refine loadCore r hl ?_ ?_ ?_); rfl; rfl) | ((with_reducible refine loadCsr r hl ?_ ?_ ?_); rfl; rfl) | ((with_reducible refine load33 s h1 ?_ ?_ ?_); rfl; rfl) | ((with_reducible refine loadCore s h1 ?_ ?_ ?_); rfl; rfl) | ((with_reducible refine loadCsr s h1 ?_ ?_ ?_); rfl; rfl) | ((with_reducible refine loadTrap t ?_ ?_ ?_); rfl; rfl) | ((with_reducible refine loadTrap u ?_ ?_ ?_); rfl; rfl) | ((with_reducible refine loadTrap w ?_ ?_ ?_); rfl; rfl) | ((with_reducible refine loadTrap e ?_ ?_ ?_); rfl; rfl) | ((with_reducible refine storeTrap (k := kb) (v := yb) e ?_ ?_ ?_ ?_); rfl; rfl; rfl; intro w' r' t'; refine Hid.out ?_))
  refine Lib.hid ?_
  replace om := Lib.hid (om.out.trn e (NoU8.trap _ _) t')
  replace o1 := Lib.hid (o1.out.trn e (NoU8.trap _ _) t')
  replace r := r.trn t' n_r_e.out
  replace s := s.trn t' n_s_e.out
  replace t := t.trn t' n_t_e.out
  replace u := u.trn t' n_u_e.out
  replace w := w.trn t' n_w_e.out
  replace HD := Lib.hid (HD.out.trn HL_e.out t')
  clear t' e
  have e := r'
  clear r'
  replace c0 := s.mem h1
  replace c1 := r.mem hl
  replace c2 := s.time h1
  replace c3 := r.time hl
  replace c4 := s.halted h1
  replace c5 := r.halted hl
  replace c6 := s.out h1
  replace c7 := r.out hl
  go_wp2_with (first | ((with_reducible refine load33 r hl ?_ ?_ ?_); rfl; rfl) | ((with_reducible refine loadCore r hl ?_ ?_ ?_); rfl; rfl) | ((with_reducible refine loadCsr r hl ?_ ?_ ?_); rfl; rfl) | ((with_reducible refine load33 s h1 ?_ ?_ ?_); rfl; rfl) | ((with_reducible refine loadCore s h1 ?_ ?_ ?_); rfl; rfl) | ((with_reducible refine loadCsr s h1 ?_ ?_ ?_); rfl; rfl) | ((with_reducible refine loadTrap t ?_ ?_ ?_); rfl; rfl) | ((with_reducible refine loadTrap u ?_ ?_ ?_); rfl; rfl) | ((with_reducible refine loadTrap w ?_ ?_ ?_); rfl; rfl) | ((with_reducible refine loadTrap e ?_ ?_ ?_); rfl; rfl) | (go_at_call 14; (first | (with_reducible refine (C6.out _ o1.out).mono ?_)); rintro e w' ⟨rfl, d'⟩; replace r := r.dn d'; replace s := s.dn d'; replace t := t.dn d'; replace u := u.dn d'; replace w := w.dn d'; replace e := e.dn d'; replace om := Lib.hid (om.out.dn d'); replace o1 := Lib.hid (o1.out.dn d'); replace HD := Lib.hid (HD.out.trans d'); replace c0 := s.mem h1; replace c1 := r.mem hl; replace c2 := s.time h1; replace c3 := r.time hl; replace c4 := s.halted h1; replace c5 := r.halted hl; replace c6 := s.out h1; replace c7 := r.out hl; clear d') | ((with_reducible refine allocTrap (b := w'.heap.size) rfl ?_ ?_); rfl; refine Hid.out ?_))
  refine Lib.hid ?_
  obtain ⟨x', b_f, hw, hb, f, d', nn⟩ := new_blk w' 35 #[.int .i64 0, .int .u32 0]
  have n_r_f := Lib.hid (nn _ r.lt)
  have n_s_f := Lib.hid (nn _ s.lt)
  have n_t_f := Lib.hid (nn _ t.lt)
  have n_u_f := Lib.hid (nn _ u.lt)
  have n_w_f := Lib.hid (nn _ w.lt)
  have n_e_f := Lib.hid (nn _ e.lt)
  have HL_f : Hid (W.heap.size ≤ b_f) := Lib.hid (by have := HD.out.size; omega)
  rw [← hw, ← hb]
  clear hw hb nn
  replace r := r.dn d'
  replace s := s.dn d'
  replace t := t.dn d'
  replace u := u.dn d'
  replace w := w.dn d'
  replace e := e.dn d'
  replace om := Lib.hid (om.out.dn d')
  replace o1 := Lib.hid (o1.out.dn d')
  replace HD := Lib.hid (HD.out.trans d')
  replace c0 := s.mem h1
  replace c1 := r.mem hl
  replace c2 := s.time h1
  replace c3 := r.time hl
  replace c4 := s.halted h1
  replace c5 := r.halted hl
  replace c6 := s.out h1
  replace c7 := r.out hl
  clear d'
  go_wp2_with (first | ((with_reducible refine load33 r hl ?_ ?_ ?_); rfl; rfl) | ((with_reducible refine loadCore r hl ?_ ?_ ?_); rfl; rfl) | ((with_reducible refine loadCsr r hl ?_ ?_ ?_); rfl; rfl) | ((with_reducible refine load33 s h1 ?_ ?_ ?_); rfl; rfl) | ((with_reducible refine loadCore s h1 ?_ ?_ ?_); rfl; rfl) | ((with_reducible refine loadCsr s h1 ?_ ?_ ?_); rfl; rfl) | ((with_reducible refine loadTrap t ?_ ?_ ?_); rfl; rfl) | ((with_reducible refine loadTrap u ?_ ?_ ?_); rfl; rfl) | ((with_reducible refine loadTrap w ?_ ?_ ?_); rfl; rfl) | ((with_reducible refine loadTrap e ?_ ?_ ?_); rfl; rfl) | ((with_reducible refine loadTrap f ?_ ?_ ?_); rfl; rfl) | ((with_reducible refine storeTrap (k := kb) (v := yb) f ?_ ?_ ?_ ?_); rfl; rfl; rfl; intro w' r' t'; refine Hid.out ?_))
  refine Lib.hid ?_
  replace om := Lib.hid (om.out.trn f (NoU8.trap _ _) t')
  replace o1 := Lib.hid (o1.out.trn f (NoU8.trap _ _) t')
  replace r := r.trn t' n_r_f.out
  replace s := s.trn t' n_s_f.out
  replace t := t.trn t' n_t_f.out
  replace u := u.trn t' n_u_f.out
  replace w := w.trn t' n_w_f.out
  replace e := e.trn t' n_e_f.out
  replace HD := Lib.hid (HD.out.trn HL_f.out t')
  clear t' f
  have f := r'
  clear r'
  replace c0 := s.mem h1
  replace c1 := r.mem hl
  replace c2 := s.time h1
  replace c3 := r.time hl
  replace c4 := s.halted h1
  replace c5 := r.halted hl
  replace c6 := s.out h1
  replace c7 := r.out hl
  go_wp2_with (first | ((with_reducible refine load33 r hl ?_ ?_ ?_); rfl; rfl) | ((with_reducible refine loadCore r hl ?_ ?_ ?_); rfl; rfl) | ((with_reducible refine loadCsr r hl ?_ ?_ ?_); rfl; rfl) | ((with_reducible refine load33 s h1 ?_ ?_ ?_); rfl; rfl) | ((with_reducible refine loadCore s h1 ?_ ?_ ?_); rfl; rfl) | ((with_reducible refine loadCsr s h1 ?_ ?_ ?_); rfl; rfl) | ((with_reducible refine loadTrap t ?_ ?_ ?_); rfl; rfl) | ((with_reducible refine loadTrap u ?_ ?_ ?_); rfl; rfl) | ((with_reducible refine loadTrap w ?_ ?_ ?_); rfl; rfl) | ((with_reducible refine loadTrap e ?_ ?_ ?_); rfl; rfl) | ((with_reducible refine loadTrap f ?_ ?_ ?_); rfl; rfl))
  go_ret
  exact ⟨rfl, HD.out⟩
theorem lSl (m : Mc) (a : Int) (a0 : 0 ≤ a) (a1 : a < 4294967296) (b : Int) (b0 : 0 ≤ b) (b1 : b < 4294967296) (wd : Bool) (v : Int) (v0 : 0 ≤ v) (v1 : v < 4294967296) (W : World) (hm : m.Ok W) (hx : m.xs.length ≤ 9223372036854775807) (hy : m.ys.length ≤ 9223372036854775807) :
    Calls Try.prog 4 #[.agg (mach m), .int .u32 a, .int .u32 b, .bool wd, .int .u32 v] W fun e W' => e = .returned (.bool true) ∧ Dn W W' := by
  by_cases hb : m.xs.length ≤ 600 ∧ m.ys.length ≤ 600
  · obtain ⟨n, hn⟩ : ∃ n, (if wd = true then 4 else 1 : Int) = n := ⟨_, rfl⟩
    have hn2 : 1 ≤ n ∧ n ≤ 4 := by cases wd <;> (rw [← hn]; decide)
    rcases M.acz_three m.c m.xs.length a n with hk | hk | hk
    · rcases (show wd = false ∨ wd = true by cases wd <;> simp) with hw | hw
      · by_cases h4 : b % 4 = 0
        · by_cases hab : a / 4 = b / 4
          · exact lSl_ok1y m a a0 a1 b b0 b1 wd v v0 v1 W hm hb.1 hb.2 n hn hn2.1 hn2.2 hk hw h4 hab
          · exact lSl_ok1z m a a0 a1 b b0 b1 wd v v0 v1 W hm hb.1 hb.2 n hn hn2.1 hn2.2 hk hw h4 hab
        · exact lSl_ok1x m a a0 a1 b b0 b1 wd v v0 v1 W hm hb.1 hb.2 n hn hn2.1 hn2.2 hk hw h4
      · by_cases h4 : b % 4 = 0
        · by_cases hab : a / 4 = b / 4
          · exact lSl_ok4y m a a0 a1 b b0 b1 wd v v0 v1 W hm hb.1 hb.2 n hn hn2.1 hn2.2 hk hw h4 hab
          · exact lSl_ok4z m a a0 a1 b b0 b1 wd v v0 v1 W hm hb.1 hb.2 n hn hn2.1 hn2.2 hk hw h4 hab
        · exact lSl_ok4x m a a0 a1 b b0 b1 wd v v0 v1 W hm hb.1 hb.2 n hn hn2.1 hn2.2 hk hw h4
    · exact lSl_trap3 m a a0 a1 b b0 b1 wd v v0 v1 W hm hb.1 hb.2 n hn hn2.1 hn2.2 hk
    · exact lSl_trap4 m a a0 a1 b b0 b1 wd v v0 v1 W hm hb.1 hb.2 n hn hn2.1 hn2.2 hk
  · exact lSl_no m a a0 a1 b b0 b1 wd v v0 v1 W hm hx hy hb
end Go.Proofs.Ytchekfipdhoejaa
