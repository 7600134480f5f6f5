/-
  'FetchWordIsFourBytes' returns true at every input: the walk. Conditions: the machine is one that can come in.
-/
import Derived.Test.YtchekfipdhoejaaFetchAwake
namespace Go.Proofs.Ytchekfipdhoejaa
open Go.ChangeShapes Go.WideShapes Go.ChangeAt Go.RowKit Go.Sort
set_option linter.unusedVariables false

namespace M
/-- a byte of an accessible word -/
theorem alv_byte {c xs : List Int} {a b : Int} (i : Nat) (h : acz c xs.length b 1 = 0) (hc : Core c) (a0 : 0 ≤ a) (hb : b = a + i) : alv c xs b 1 = xs.getD ((ub c + a).toNat + i) 0 := by
  have hk := acz_hit h
  have hu := ub_rng hc
  unfold alv
  rw [if_pos h, hb]
  have e : (ub c + (a + (i : Int))).toNat = (ub c + a).toNat + i := by omega
  rw [e]
  unfold ld
  have hl : (ub c + a).toNat + i < xs.length := by omega
  rw [show (1 : Int).toNat = 1 from rfl, if_pos (by omega), rd_one hl]
  simp [leval]
theorem alv_word {c xs : List Int} {a : Int} (h : acz c xs.length a 4 = 0) (hc : Core c) (a0 : 0 ≤ a) : alv c xs a 4 = 256 * (256 * (256 * xs.getD ((ub c + a).toNat + 3) 0 + xs.getD ((ub c + a).toNat + 2) 0) + xs.getD ((ub c + a).toNat + 1) 0) + xs.getD ((ub c + a).toNat) 0 := by
  have hk := acz_hit h
  have hu := ub_rng hc
  unfold alv
  rw [if_pos h]
  unfold ld
  generalize hp : (ub c + a).toNat = p
  rw [show (4 : Int).toNat = 4 from rfl, if_pos (by omega), rd_cons (by omega), rd_cons (by omega), rd_cons (by omega), rd_one (by omega)]
  simp only [leval]
  rw [show p + 1 + 1 = p + 2 from rfl, show p + 2 + 1 = p + 3 from rfl]
  omega
end M
set_option maxRecDepth 100000 in
set_option maxHeartbeats 2000000 in
theorem lWb_no (m : Mc) (a : Int) (a0 : 0 ≤ a) (a1 : a < 4294967296) (W : World) (hm : m.Ok W) (hx : m.xs.length ≤ 9223372036854775807) (hy : m.ys.length ≤ 9223372036854775807) (hb : ¬ (m.xs.length ≤ 600 ∧ m.ys.length ≤ 600)) :
    Calls Try.prog 7 #[.agg (mach m), .int .u32 a] W fun e W' => e = .returned (.bool true) ∧ Dn W W' := by
  have hl := hm.len
  have om := Lib.hid hm
  have C0 := Lib.hid fun w => awake w
  have CF := Lib.hid fun w => fun (ow : m.Ok w) => rfew m false w ow hx hy (decide_eq_false hb)
  clear hb
  have HD := Lib.hid (Dn.refl W)
  obtain ⟨x0, b_r, hw0, hb0, r, d', nn⟩ := new_blk W 30 (mach m)
  have HL_r : Hid (W.heap.size ≤ b_r) := Lib.hid (by have := HD.out.size; omega)
  clear nn
  replace om := Lib.hid (om.out.dn d')
  replace HD := Lib.hid (HD.out.trans d')
  clear d'
  go_enter Try.func7, Try.ntmps7
  go_wp2_with fail
  rw [← hw0, ← hb0]
  clear hw0 hb0
  go_wp2_with (first | ((with_reducible refine load33 r hl ?_ ?_ ?_); rfl; rfl) | ((with_reducible refine loadCore r hl ?_ ?_ ?_); rfl; rfl) | ((with_reducible refine loadCsr r hl ?_ ?_ ?_); rfl; rfl) | (go_at_call 9; (first | (with_reducible refine (C0.out _).mono ?_)); rintro e w' ⟨rfl, d'⟩; replace r := r.dn d'; replace om := Lib.hid (om.out.dn d'); replace HD := Lib.hid (HD.out.trans d'); clear d') | (go_at_call 10; (first | (with_reducible refine (CF.out _ om.out).mono ?_)); rintro e w' ⟨rfl, d'⟩; replace r := r.dn d'; replace om := Lib.hid (om.out.dn d'); replace HD := Lib.hid (HD.out.trans d'); clear d'))
  go_ret
  exact ⟨rfl, HD.out⟩
set_option maxRecDepth 100000 in
set_option maxHeartbeats 2000000 in
theorem lWb_mis (m : Mc) (a : Int) (a0 : 0 ≤ a) (a1 : a < 4294967296) (W : World) (hm : m.Ok W) (hx : m.xs.length ≤ 600) (hy : m.ys.length ≤ 600) (h : a % 4 ≠ 0) :
    Calls Try.prog 7 #[.agg (mach m), .int .u32 a] W fun e W' => e = .returned (.bool true) ∧ Dn W W' := by
  have hl := hm.len
  have om := Lib.hid hm
  have C0 := Lib.hid fun w => awake w
  have CF := Lib.hid fun w => fun (ow : m.Ok w) => rfew m true w ow (by omega) (by omega) (decide_eq_true ⟨hx, hy⟩)
  have hk4 : M.acz m.c m.xs.length a 4 = 4 := M.acz_mis rfl h
  have hne : M.acz m.c m.xs.length a 4 ≠ 0 := by rw [hk4]; decide
  have C1 := Lib.hid fun w => fun (ow : m.Ok w) => fload m a 4 w ow (by omega) a0 a1 (by decide) (by decide) 0 4 a (M.alv_no hne) hk4 (M.atv_no hne)
  have h3 : (a % 4 != 0) = true := by simpa using h
  have q1 : ∀ w, (Op.equalIn 10000 35 (.agg #[.int .i64 4, .int .u32 a]) (.agg #[.int .i64 4, .int .u32 a])).run Try.prog w = .ok true w := fun w => by rw [eqTrap]; exact congrArg (fun b => Result.ok b w) (by simp)
  clear h hk4 hne
  have HD := Lib.hid (Dn.refl W)
  obtain ⟨x0, b_r, hw0, hb0, r, d', nn⟩ := new_blk W 30 (mach m)
  have HL_r : Hid (W.heap.size ≤ b_r) := Lib.hid (by have := HD.out.size; omega)
  clear nn
  replace om := Lib.hid (om.out.dn d')
  replace HD := Lib.hid (HD.out.trans d')
  clear d'
  go_enter Try.func7, Try.ntmps7
  go_wp2_with fail
  rw [← hw0, ← hb0]
  clear hw0 hb0
  go_wp2_with (first | ((with_reducible refine load33 r hl ?_ ?_ ?_); rfl; rfl) | ((with_reducible refine loadCore r hl ?_ ?_ ?_); rfl; rfl) | ((with_reducible refine loadCsr r hl ?_ ?_ ?_); rfl; rfl) | (go_at_call 9; (first | (with_reducible refine (C0.out _).mono ?_)); rintro e w' ⟨rfl, d'⟩; replace r := r.dn d'; replace om := Lib.hid (om.out.dn d'); replace HD := Lib.hid (HD.out.trans d'); clear d') | (go_at_call 10; (first | (with_reducible refine (CF.out _ om.out).mono ?_)); rintro e w' ⟨rfl, d'⟩; replace r := r.dn d'; replace om := Lib.hid (om.out.dn d'); replace HD := Lib.hid (HD.out.trans d'); clear d') | (go_at_call 14; (first | (with_reducible refine (C1.out _ om.out).mono ?_)); rintro e w' ⟨rfl, d'⟩; replace r := r.dn d'; replace om := Lib.hid (om.out.dn d'); replace HD := Lib.hid (HD.out.trans d'); clear d') | ((with_reducible refine allocTrap (b := w'.heap.size) rfl ?_ ?_); rfl; refine Hid.out ?_))
  refine Lib.hid ?_
  obtain ⟨x', b_t, hw, hb, t, d', nn⟩ := new_blk w' 35 #[.int .i64 0, .int .u32 0]
  have n_r_t := Lib.hid (nn _ r.lt)
  have HL_t : Hid (W.heap.size ≤ b_t) := Lib.hid (by have := HD.out.size; omega)
  rw [← hw, ← hb]
  clear hw hb nn
  replace r := r.dn d'
  replace om := Lib.hid (om.out.dn d')
  replace HD := Lib.hid (HD.out.trans d')
  clear d'
  go_wp2_with (first | ((with_reducible refine load33 r hl ?_ ?_ ?_); rfl; rfl) | ((with_reducible refine loadCore r hl ?_ ?_ ?_); rfl; rfl) | ((with_reducible refine loadCsr r hl ?_ ?_ ?_); rfl; rfl) | ((with_reducible refine loadTrap t ?_ ?_ ?_); rfl; rfl) | ((with_reducible refine storeTrap (k := 4) (v := a) t ?_ ?_ ?_ ?_); rfl; rfl; rfl; intro w' r' t'; refine Hid.out ?_))
  refine Lib.hid ?_
  replace om := Lib.hid (om.out.trn t (NoU8.trap _ _) t')
  replace r := r.trn t' n_r_t.out
  replace HD := Lib.hid (HD.out.trn HL_t.out t')
  clear t' t
  have t := r'
  clear r'
  go_wp2_with (first | ((with_reducible refine load33 r hl ?_ ?_ ?_); rfl; rfl) | ((with_reducible refine loadCore r hl ?_ ?_ ?_); rfl; rfl) | ((with_reducible refine loadCsr r hl ?_ ?_ ?_); rfl; rfl) | ((with_reducible refine loadTrap t ?_ ?_ ?_); rfl; rfl))
  go_ret
  exact ⟨rfl, HD.out⟩
def wbs (x3 x2 x1 x0 : Int) : Nat → Int
  | 0 => 0
  | 1 => x3
  | 2 => 256 * x3 + x2
  | 3 => 256 * (256 * x3 + x2) + x1
  | _ => 256 * (256 * (256 * x3 + x2) + x1) + x0
def WbOk (W : World) (m : Mc) (br bt : Nat) (x3 x2 x1 x0 : Int) (A Y K : Value) (w : World) : Prop := ∃ i : Nat, i ≤ 4 ∧ A = .bool true ∧ Y = .int .u32 (wbs x3 x2 x1 x0 i) ∧ K = .int .u32 i ∧ Hid (Blk w br 30 (mach m)) ∧ Hid (Blk w bt 35 #[.int .i64 0, .int .u32 0]) ∧ Hid (m.Ok w) ∧ Hid (Dn W w)
def WbNo (W : World) (m : Mc) (br bt : Nat) (a : Int) (A Y K : Value) (w : World) : Prop := ∃ (i : Nat) (s : Int), i ≤ 4 ∧ 0 ≤ s ∧ s < 4294967296 ∧ A = .bool (decide (i = 0)) ∧ Y = .int .u32 s ∧ K = .int .u32 i ∧ Hid (Blk w br 30 (mach m)) ∧ Hid (Blk w bt 35 #[.int .i64 3, .int .u32 a]) ∧ Hid (m.Ok w) ∧ Hid (Dn W w)
set_option maxRecDepth 100000 in
set_option maxHeartbeats 2000000 in
theorem lWb_ok (m : Mc) (a : Int) (a0 : 0 ≤ a) (a1 : a < 4294967296) (W : World) (hm : m.Ok W) (hx : m.xs.length ≤ 600) (hy : m.ys.length ≤ 600) (h : a % 4 = 0) (ek : M.acz m.c m.xs.length a 4 = 0) :
    Calls Try.prog 7 #[.agg (mach m), .int .u32 a] W fun e W' => e = .returned (.bool true) ∧ Dn W W' := by
  have hl := hm.len
  have om := Lib.hid hm
  have C0 := Lib.hid fun w => awake w
  have CF := Lib.hid fun w => fun (ow : m.Ok w) => rfew m true w ow (by omega) (by omega) (decide_eq_true ⟨hx, hy⟩)
  have h3 : (a % 4 != 0) = false := by simpa using h
  have hk := M.acz_hit ek
  have hz := fun x => M.acz_iff m.c m.xs.length x 1
  have hby := hm.mem.2.1
  have e0 : M.acz m.c m.xs.length (a + 0) 1 = 0 := (hz _).2 ⟨by omega, by omega, by omega⟩
  obtain ⟨bb0, ex0⟩ : ∃ x, m.xs.getD ((M.ub m.c + a).toNat + 0) 0 = x := ⟨_, rfl⟩
  have g0 := hby.getD ((M.ub m.c + a).toNat + 0)
  rw [ex0] at g0
  have y0 : M.alv m.c m.xs (a + 0) 1 = bb0 := by rw [← ex0]; exact M.alv_byte (xs := m.xs) 0 e0 hm.core a0 rfl
  have D0 := Lib.hid fun w => fun (ow : m.Ok w) (z : Int) (hz : z = a + 0) => fload m z 1 w ow (by omega) (by omega) (by omega) (by decide) (by decide) bb0 0 0 (by rw [hz]; exact y0) (by rw [hz]; exact e0) (by rw [hz]; exact M.atv_yes e0)
  have e1 : M.acz m.c m.xs.length (a + 1) 1 = 0 := (hz _).2 ⟨by omega, by omega, by omega⟩
  obtain ⟨bb1, ex1⟩ : ∃ x, m.xs.getD ((M.ub m.c + a).toNat + 1) 0 = x := ⟨_, rfl⟩
  have g1 := hby.getD ((M.ub m.c + a).toNat + 1)
  rw [ex1] at g1
  have y1 : M.alv m.c m.xs (a + 1) 1 = bb1 := by rw [← ex1]; exact M.alv_byte (xs := m.xs) 1 e1 hm.core a0 rfl
  have D1 := Lib.hid fun w => fun (ow : m.Ok w) (z : Int) (hz : z = a + 1) => fload m z 1 w ow (by omega) (by omega) (by omega) (by decide) (by decide) bb1 0 0 (by rw [hz]; exact y1) (by rw [hz]; exact e1) (by rw [hz]; exact M.atv_yes e1)
  have e2 : M.acz m.c m.xs.length (a + 2) 1 = 0 := (hz _).2 ⟨by omega, by omega, by omega⟩
  obtain ⟨bb2, ex2⟩ : ∃ x, m.xs.getD ((M.ub m.c + a).toNat + 2) 0 = x := ⟨_, rfl⟩
  have g2 := hby.getD ((M.ub m.c + a).toNat + 2)
  rw [ex2] at g2
  have y2 : M.alv m.c m.xs (a + 2) 1 = bb2 := by rw [← ex2]; exact M.alv_byte (xs := m.xs) 2 e2 hm.core a0 rfl
  have D2 := Lib.hid fun w => fun (ow : m.Ok w) (z : Int) (hz : z = a + 2) => fload m z 1 w ow (by omega) (by omega) (by omega) (by decide) (by decide) bb2 0 0 (by rw [hz]; exact y2) (by rw [hz]; exact e2) (by rw [hz]; exact M.atv_yes e2)
  have e3 : M.acz m.c m.xs.length (a + 3) 1 = 0 := (hz _).2 ⟨by omega, by omega, by omega⟩
  obtain ⟨bb3, ex3⟩ : ∃ x, m.xs.getD ((M.ub m.c + a).toNat + 3) 0 = x := ⟨_, rfl⟩
  have g3 := hby.getD ((M.ub m.c + a).toNat + 3)
  rw [ex3] at g3
  have y3 : M.alv m.c m.xs (a + 3) 1 = bb3 := by rw [← ex3]; exact M.alv_byte (xs := m.xs) 3 e3 hm.core a0 rfl
  have D3 := Lib.hid fun w => fun (ow : m.Ok w) (z : Int) (hz : z = a + 3) => fload m z 1 w ow (by omega) (by omega) (by omega) (by decide) (by decide) bb3 0 0 (by rw [hz]; exact y3) (by rw [hz]; exact e3) (by rw [hz]; exact M.atv_yes e3)
  obtain ⟨x, ex⟩ : ∃ x, M.alv m.c m.xs a 4 = x := ⟨_, rfl⟩
  have y := M.alv_word (xs := m.xs) ek hm.core a0
  rw [ex1, ex2, ex3, show m.xs.getD ((M.ub m.c + a).toNat) 0 = bb0 from ex0, ex] at y
  have C1 := Lib.hid fun w => fun (ow : m.Ok w) => fload m a 4 w ow (by omega) a0 a1 (by decide) (by decide) x 0 0 ex ek (M.atv_yes ek)
  have hq : (256 * (256 * (256 * bb3 + bb2) + bb1) + bb0 == x) = true := by simp [y]
  have q1 : ∀ w, (Op.equalIn 10000 35 (.agg #[.int .i64 0, .int .u32 0]) (.agg #[.int .i64 0, .int .u32 0])).run Try.prog w = .ok true w := fun w => by rw [eqTrap]; exact congrArg (fun b => Result.ok b w) (rfl)
  have a3 : a + 3 < 4294967296 := by omega
  clear h hk hz hby ex y ek e0 ex0 y0 e1 ex1 y1 e2 ex2 y2 e3 ex3 y3
  have HD := Lib.hid (Dn.refl W)
  obtain ⟨x0, b_r, hw0, hb0, r, d', nn⟩ := new_blk W 30 (mach m)
  have HL_r : Hid (W.heap.size ≤ b_r) := Lib.hid (by have := HD.out.size; omega)
  clear nn
  replace om := Lib.hid (om.out.dn d')
  replace HD := Lib.hid (HD.out.trans d')
  clear d'
  go_enter Try.func7, Try.ntmps7
  go_wp2_with fail
  rw [← hw0, ← hb0]
  clear hw0 hb0
  go_wp2_with (first | ((with_reducible refine load33 r hl ?_ ?_ ?_); rfl; rfl) | ((with_reducible refine loadCore r hl ?_ ?_ ?_); rfl; rfl) | ((with_reducible refine loadCsr r hl ?_ ?_ ?_); rfl; rfl) | (go_at_call 9; (first | (with_reducible refine (C0.out _).mono ?_)); rintro e w' ⟨rfl, d'⟩; replace r := r.dn d'; replace om := Lib.hid (om.out.dn d'); replace HD := Lib.hid (HD.out.trans d'); clear d') | (go_at_call 10; (first | (with_reducible refine (CF.out _ om.out).mono ?_)); rintro e w' ⟨rfl, d'⟩; replace r := r.dn d'; replace om := Lib.hid (om.out.dn d'); replace HD := Lib.hid (HD.out.trans d'); clear d') | (go_at_call 14; (first | (with_reducible refine (C1.out _ om.out).mono ?_)); rintro e w' ⟨rfl, d'⟩; replace r := r.dn d'; replace om := Lib.hid (om.out.dn d'); replace HD := Lib.hid (HD.out.trans d'); clear d') | ((with_reducible refine allocTrap (b := w'.heap.size) rfl ?_ ?_); rfl; refine Hid.out ?_))
  refine Lib.hid ?_
  obtain ⟨x', b_t, hw, hb, t, d', nn⟩ := new_blk w' 35 #[.int .i64 0, .int .u32 0]
  have n_r_t := Lib.hid (nn _ r.lt)
  have HL_t : Hid (W.heap.size ≤ b_t) := Lib.hid (by have := HD.out.size; omega)
  rw [← hw, ← hb]
  clear hw hb nn
  replace r := r.dn d'
  replace om := Lib.hid (om.out.dn d')
  replace HD := Lib.hid (HD.out.trans d')
  clear d'
  go_wp2_with (first | ((with_reducible refine load33 r hl ?_ ?_ ?_); rfl; rfl) | ((with_reducible refine loadCore r hl ?_ ?_ ?_); rfl; rfl) | ((with_reducible refine loadCsr r hl ?_ ?_ ?_); rfl; rfl) | ((with_reducible refine loadTrap t ?_ ?_ ?_); rfl; rfl) | ((with_reducible refine storeTrap (k := 0) (v := 0) t ?_ ?_ ?_ ?_); rfl; rfl; rfl; intro w' r' t'; refine Hid.out ?_))
  refine Lib.hid ?_
  replace om := Lib.hid (om.out.trn t (NoU8.trap _ _) t')
  replace r := r.trn t' n_r_t.out
  replace HD := Lib.hid (HD.out.trn HL_t.out t')
  clear t' t
  have t := r'
  clear r'
  go_wp2_with (first | ((with_reducible refine load33 r hl ?_ ?_ ?_); rfl; rfl) | ((with_reducible refine loadCore r hl ?_ ?_ ?_); rfl; rfl) | ((with_reducible refine loadCsr r hl ?_ ?_ ?_); rfl; rfl) | ((with_reducible refine loadTrap t ?_ ?_ ?_); rfl; rfl))
  go_loopw [7, 8, 9, 10, 11] (fun A Y K _ _ w => WbOk W m b_r b_t bb3 bb2 bb1 bb0 A Y K w) (fun _ _ k _ _ _ => 4 - (intOf k).toNat)
  case atStart => exact ⟨0, by decide, rfl, rfl, rfl, Lib.hid r, Lib.hid t, om, HD⟩
  case round =>
    clear HD om r t
    obtain ⟨i, hi, rfl, rfl, rfl, R, T, om, HD⟩ := hrel
    have r := R.out
    have t := T.out
    clear R T
    obtain rfl | rfl | rfl | rfl | rfl : i = 0 ∨ i = 1 ∨ i = 2 ∨ i = 3 ∨ i = 4 := by omega
    · have eS : wbs bb3 bb2 bb1 bb0 0 = 0 := rfl
      rw [eS]
      clear eS
      go_wp2_with (first | ((with_reducible refine load33 r hl ?_ ?_ ?_); rfl; rfl) | ((with_reducible refine loadCore r hl ?_ ?_ ?_); rfl; rfl) | ((with_reducible refine loadCsr r hl ?_ ?_ ?_); rfl; rfl) | ((with_reducible refine loadTrap t ?_ ?_ ?_); rfl; rfl) | (go_at_call 14; (with_reducible refine (D3.out _ om.out _ (by omega)).mono ?_); rintro e w' ⟨rfl, d'⟩; replace r := r.dn d'; replace t := t.dn d'; replace om := Lib.hid (om.out.dn d'); replace HD := Lib.hid (HD.out.trans d'); clear d') | ((with_reducible refine allocTrap (b := w'.heap.size) rfl ?_ ?_); rfl; refine Hid.out ?_))
      refine Lib.hid ?_
      obtain ⟨x', b_u, hw, hb, u, d', nn⟩ := new_blk w' 35 #[.int .i64 0, .int .u32 0]
      have n_r_u := Lib.hid (nn _ r.lt)
      have n_t_u := Lib.hid (nn _ t.lt)
      have HL_u : Hid (W.heap.size ≤ b_u) := Lib.hid (by have := HD.out.size; omega)
      rw [← hw, ← hb]
      clear hw hb nn
      replace r := r.dn d'
      replace t := t.dn d'
      replace om := Lib.hid (om.out.dn d')
      replace HD := Lib.hid (HD.out.trans d')
      clear d'
      go_wp2_with (first | ((with_reducible refine load33 r hl ?_ ?_ ?_); rfl; rfl) | ((with_reducible refine loadCore r hl ?_ ?_ ?_); rfl; rfl) | ((with_reducible refine loadCsr r hl ?_ ?_ ?_); rfl; rfl) | ((with_reducible refine loadTrap t ?_ ?_ ?_); rfl; rfl) | ((with_reducible refine loadTrap u ?_ ?_ ?_); rfl; rfl) | ((with_reducible refine storeTrap (k := 0) (v := 0) u ?_ ?_ ?_ ?_); rfl; rfl; rfl; intro w' r' t'; refine Hid.out ?_))
      refine Lib.hid ?_
      replace om := Lib.hid (om.out.trn u (NoU8.trap _ _) t')
      replace r := r.trn t' n_r_u.out
      replace t := t.trn t' n_t_u.out
      replace HD := Lib.hid (HD.out.trn HL_u.out t')
      clear t' u
      have u := r'
      clear r'
      go_wp2_with (first | ((with_reducible refine load33 r hl ?_ ?_ ?_); rfl; rfl) | ((with_reducible refine loadCore r hl ?_ ?_ ?_); rfl; rfl) | ((with_reducible refine loadCsr r hl ?_ ?_ ?_); rfl; rfl) | ((with_reducible refine loadTrap t ?_ ?_ ?_); rfl; rfl) | ((with_reducible refine loadTrap u ?_ ?_ ?_); rfl; rfl))
      go_roundw
      case rel => exact ⟨1, by decide, rfl, by first | rfl | (simp [wbs]; done) | (simp [wbs]; omega), by first | rfl | go_num, Lib.hid r, Lib.hid t, om, HD⟩
      case measure => simp [intOf]
    · have eS : wbs bb3 bb2 bb1 bb0 1 = bb3 := rfl
      rw [eS]
      clear eS
      go_wp2_with (first | ((with_reducible refine load33 r hl ?_ ?_ ?_); rfl; rfl) | ((with_reducible refine loadCore r hl ?_ ?_ ?_); rfl; rfl) | ((with_reducible refine loadCsr r hl ?_ ?_ ?_); rfl; rfl) | ((with_reducible refine loadTrap t ?_ ?_ ?_); rfl; rfl) | (go_at_call 14; (with_reducible refine (D2.out _ om.out _ (by omega)).mono ?_); rintro e w' ⟨rfl, d'⟩; replace r := r.dn d'; replace t := t.dn d'; replace om := Lib.hid (om.out.dn d'); replace HD := Lib.hid (HD.out.trans d'); clear d') | ((with_reducible refine allocTrap (b := w'.heap.size) rfl ?_ ?_); rfl; refine Hid.out ?_))
      refine Lib.hid ?_
      obtain ⟨x', b_u, hw, hb, u, d', nn⟩ := new_blk w' 35 #[.int .i64 0, .int .u32 0]
      have n_r_u := Lib.hid (nn _ r.lt)
      have n_t_u := Lib.hid (nn _ t.lt)
      have HL_u : Hid (W.heap.size ≤ b_u) := Lib.hid (by have := HD.out.size; omega)
      rw [← hw, ← hb]
      clear hw hb nn
      replace r := r.dn d'
      replace t := t.dn d'
      replace om := Lib.hid (om.out.dn d')
      replace HD := Lib.hid (HD.out.trans d')
      clear d'
      go_wp2_with (first | ((with_reducible refine load33 r hl ?_ ?_ ?_); rfl; rfl) | ((with_reducible refine loadCore r hl ?_ ?_ ?_); rfl; rfl) | ((with_reducible refine loadCsr r hl ?_ ?_ ?_); rfl; rfl) | ((with_reducible refine loadTrap t ?_ ?_ ?_); rfl; rfl) | ((with_reducible refine loadTrap u ?_ ?_ ?_); rfl; rfl) | ((with_reducible refine storeTrap (k := 0) (v := 0) u ?_ ?_ ?_ ?_); rfl; rfl; rfl; intro w' r' t'; refine Hid.out ?_))
      refine Lib.hid ?_
      replace om := Lib.hid (om.out.trn u (NoU8.trap _ _) t')
      replace r := r.trn t' n_r_u.out
      replace t := t.trn t' n_t_u.out
      replace HD := Lib.hid (HD.out.trn HL_u.out t')
      clear t' u
      have u := r'
      clear r'
      go_wp2_with (first | ((with_reducible refine load33 r hl ?_ ?_ ?_); rfl; rfl) | ((with_reducible refine loadCore r hl ?_ ?_ ?_); rfl; rfl) | ((with_reducible refine loadCsr r hl ?_ ?_ ?_); rfl; rfl) | ((with_reducible refine loadTrap t ?_ ?_ ?_); rfl; rfl) | ((with_reducible refine loadTrap u ?_ ?_ ?_); rfl; rfl))
      go_roundw
      case rel => exact ⟨2, by decide, rfl, by first | rfl | (simp [wbs]; done) | (simp [wbs]; omega), by first | rfl | go_num, Lib.hid r, Lib.hid t, om, HD⟩
      case measure => simp [intOf]
    · have eS : wbs bb3 bb2 bb1 bb0 2 = 256 * bb3 + bb2 := rfl
      rw [eS]
      clear eS
      go_wp2_with (first | ((with_reducible refine load33 r hl ?_ ?_ ?_); rfl; rfl) | ((with_reducible refine loadCore r hl ?_ ?_ ?_); rfl; rfl) | ((with_reducible refine loadCsr r hl ?_ ?_ ?_); rfl; rfl) | ((with_reducible refine loadTrap t ?_ ?_ ?_); rfl; rfl) | (go_at_call 14; (with_reducible refine (D1.out _ om.out _ (by omega)).mono ?_); rintro e w' ⟨rfl, d'⟩; replace r := r.dn d'; replace t := t.dn d'; replace om := Lib.hid (om.out.dn d'); replace HD := Lib.hid (HD.out.trans d'); clear d') | ((with_reducible refine allocTrap (b := w'.heap.size) rfl ?_ ?_); rfl; refine Hid.out ?_))
      refine Lib.hid ?_
      obtain ⟨x', b_u, hw, hb, u, d', nn⟩ := new_blk w' 35 #[.int .i64 0, .int .u32 0]
      have n_r_u := Lib.hid (nn _ r.lt)
      have n_t_u := Lib.hid (nn _ t.lt)
      have HL_u : Hid (W.heap.size ≤ b_u) := Lib.hid (by have := HD.out.size; omega)
      rw [← hw, ← hb]
      clear hw hb nn
      replace r := r.dn d'
      replace t := t.dn d'
      replace om := Lib.hid (om.out.dn d')
      replace HD := Lib.hid (HD.out.trans d')
      clear d'
      go_wp2_with (first | ((with_reducible refine load33 r hl ?_ ?_ ?_); rfl; rfl) | ((with_reducible refine loadCore r hl ?_ ?_ ?_); rfl; rfl) | ((with_reducible refine loadCsr r hl ?_ ?_ ?_); rfl; rfl) | ((with_reducible refine loadTrap t ?_ ?_ ?_); rfl; rfl) | ((with_reducible refine loadTrap u ?_ ?_ ?_); rfl; rfl) | ((with_reducible refine storeTrap (k := 0) (v := 0) u ?_ ?_ ?_ ?_); rfl; rfl; rfl; intro w' r' t'; refine Hid.out ?_))
      refine Lib.hid ?_
      replace om := Lib.hid (om.out.trn u (NoU8.trap _ _) t')
      replace r := r.trn t' n_r_u.out
      replace t := t.trn t' n_t_u.out
      replace HD := Lib.hid (HD.out.trn HL_u.out t')
      clear t' u
      have u := r'
      clear r'
      go_wp2_with (first | ((with_reducible refine load33 r hl ?_ ?_ ?_); rfl; rfl) | ((with_reducible refine loadCore r hl ?_ ?_ ?_); rfl; rfl) | ((with_reducible refine loadCsr r hl ?_ ?_ ?_); rfl; rfl) | ((with_reducible refine loadTrap t ?_ ?_ ?_); rfl; rfl) | ((with_reducible refine loadTrap u ?_ ?_ ?_); rfl; rfl))
      go_roundw
      case rel => exact ⟨3, by decide, rfl, by first | rfl | (simp [wbs]; done) | (simp [wbs]; omega), by first | rfl | go_num, Lib.hid r, Lib.hid t, om, HD⟩
      case measure => simp [intOf]
    · have eS : wbs bb3 bb2 bb1 bb0 3 = 256 * (256 * bb3 + bb2) + bb1 := rfl
      rw [eS]
      clear eS
      go_wp2_with (first | ((with_reducible refine load33 r hl ?_ ?_ ?_); rfl; rfl) | ((with_reducible refine loadCore r hl ?_ ?_ ?_); rfl; rfl) | ((with_reducible refine loadCsr r hl ?_ ?_ ?_); rfl; rfl) | ((with_reducible refine loadTrap t ?_ ?_ ?_); rfl; rfl) | (go_at_call 14; (with_reducible refine (D0.out _ om.out _ (by omega)).mono ?_); rintro e w' ⟨rfl, d'⟩; replace r := r.dn d'; replace t := t.dn d'; replace om := Lib.hid (om.out.dn d'); replace HD := Lib.hid (HD.out.trans d'); clear d') | ((with_reducible refine allocTrap (b := w'.heap.size) rfl ?_ ?_); rfl; refine Hid.out ?_))
      refine Lib.hid ?_
      obtain ⟨x', b_u, hw, hb, u, d', nn⟩ := new_blk w' 35 #[.int .i64 0, .int .u32 0]
      have n_r_u := Lib.hid (nn _ r.lt)
      have n_t_u := Lib.hid (nn _ t.lt)
      have HL_u : Hid (W.heap.size ≤ b_u) := Lib.hid (by have := HD.out.size; omega)
      rw [← hw, ← hb]
      clear hw hb nn
      replace r := r.dn d'
      replace t := t.dn d'
      replace om := Lib.hid (om.out.dn d')
      replace HD := Lib.hid (HD.out.trans d')
      clear d'
      go_wp2_with (first | ((with_reducible refine load33 r hl ?_ ?_ ?_); rfl; rfl) | ((with_reducible refine loadCore r hl ?_ ?_ ?_); rfl; rfl) | ((with_reducible refine loadCsr r hl ?_ ?_ ?_); rfl; rfl) | ((with_reducible refine loadTrap t ?_ ?_ ?_); rfl; rfl) | ((with_reducible refine loadTrap u ?_ ?_ ?_); rfl; rfl) | ((with_reducible refine storeTrap (k := 0) (v := 0) u ?_ ?_ ?_ ?_); rfl; rfl; rfl; intro w' r' t'; refine Hid.out ?_))
      refine Lib.hid ?_
      replace om := Lib.hid (om.out.trn u (NoU8.trap _ _) t')
      replace r := r.trn t' n_r_u.out
      replace t := t.trn t' n_t_u.out
      replace HD := Lib.hid (HD.out.trn HL_u.out t')
      clear t' u
      have u := r'
      clear r'
      go_wp2_with (first | ((with_reducible refine load33 r hl ?_ ?_ ?_); rfl; rfl) | ((with_reducible refine loadCore r hl ?_ ?_ ?_); rfl; rfl) | ((with_reducible refine loadCsr r hl ?_ ?_ ?_); rfl; rfl) | ((with_reducible refine loadTrap t ?_ ?_ ?_); rfl; rfl) | ((with_reducible refine loadTrap u ?_ ?_ ?_); rfl; rfl))
      go_roundw
      case rel => exact ⟨4, by decide, rfl, by first | rfl | (simp [wbs]; done) | (simp [wbs]; omega), by first | rfl | go_num, Lib.hid r, Lib.hid t, om, HD⟩
      case measure => simp [intOf]
    · have eS : wbs bb3 bb2 bb1 bb0 4 = 256 * (256 * (256 * bb3 + bb2) + bb1) + bb0 := rfl
      rw [eS]
      clear eS
      go_wp2_with (first | ((with_reducible refine load33 r hl ?_ ?_ ?_); rfl; rfl) | ((with_reducible refine loadCore r hl ?_ ?_ ?_); rfl; rfl) | ((with_reducible refine loadCsr r hl ?_ ?_ ?_); rfl; rfl) | ((with_reducible refine loadTrap t ?_ ?_ ?_); rfl; rfl))
      go_ret
      exact ⟨rfl, HD.out⟩
set_option maxRecDepth 100000 in
set_option maxHeartbeats 2000000 in
theorem lWb_trap (m : Mc) (a : Int) (a0 : 0 ≤ a) (a1 : a < 4294967296) (W : World) (hm : m.Ok W) (hx : m.xs.length ≤ 600) (hy : m.ys.length ≤ 600) (h : a % 4 = 0) (hk : M.acz m.c m.xs.length a 4 ≠ 0) :
    Calls Try.prog 7 #[.agg (mach m), .int .u32 a] W fun e W' => e = .returned (.bool true) ∧ Dn W W' := by
  have hl := hm.len
  have om := Lib.hid hm
  have C0 := Lib.hid fun w => awake w
  have CF := Lib.hid fun w => fun (ow : m.Ok w) => rfew m true w ow (by omega) (by omega) (decide_eq_true ⟨hx, hy⟩)
  have h3 : (a % 4 != 0) = false := by simpa using h
  have ek : M.acz m.c m.xs.length a 4 = 3 := (M.acz_three m.c m.xs.length a 4).elim (fun e => absurd e hk) (fun e => e.elim id (fun e => by unfold M.acz at e; rw [if_neg (fun q => q.2 h)] at e; split at e <;> simp at e))
  have e3 : M.acz m.c m.xs.length (a + 3) 1 ≠ 0 := fun q => hk ((M.acz_iff _ _ _ _).2 ⟨fun q2 => q2.2 h, by have := M.acz_hit q; omega, by have := M.acz_hit q; omega⟩)
  obtain ⟨k3, ek3⟩ : ∃ x, M.acz m.c m.xs.length (a + 3) 1 = x := ⟨_, rfl⟩
  obtain ⟨v3, ev3⟩ : ∃ x, M.atv m.c m.xs.length (a + 3) 1 = x := ⟨_, rfl⟩
  obtain ⟨bb3, ex3⟩ : ∃ x, M.alv m.c m.xs (a + 3) 1 = x := ⟨_, rfl⟩
  have D3 := Lib.hid fun w => fun (ow : m.Ok w) (z : Int) (hz : z = a + 3) => fload m z 1 w ow (by omega) (by omega) (by omega) (by decide) (by decide) bb3 k3 v3 (by rw [hz]; exact ex3) (by rw [hz]; exact ek3) (by rw [hz]; exact ev3)
  obtain ⟨k2, ek2⟩ : ∃ x, M.acz m.c m.xs.length (a + 2) 1 = x := ⟨_, rfl⟩
  obtain ⟨v2, ev2⟩ : ∃ x, M.atv m.c m.xs.length (a + 2) 1 = x := ⟨_, rfl⟩
  obtain ⟨bb2, ex2⟩ : ∃ x, M.alv m.c m.xs (a + 2) 1 = x := ⟨_, rfl⟩
  have D2 := Lib.hid fun w => fun (ow : m.Ok w) (z : Int) (hz : z = a + 2) => fload m z 1 w ow (by omega) (by omega) (by omega) (by decide) (by decide) bb2 k2 v2 (by rw [hz]; exact ex2) (by rw [hz]; exact ek2) (by rw [hz]; exact ev2)
  obtain ⟨k1, ek1⟩ : ∃ x, M.acz m.c m.xs.length (a + 1) 1 = x := ⟨_, rfl⟩
  obtain ⟨v1, ev1⟩ : ∃ x, M.atv m.c m.xs.length (a + 1) 1 = x := ⟨_, rfl⟩
  obtain ⟨bb1, ex1⟩ : ∃ x, M.alv m.c m.xs (a + 1) 1 = x := ⟨_, rfl⟩
  have D1 := Lib.hid fun w => fun (ow : m.Ok w) (z : Int) (hz : z = a + 1) => fload m z 1 w ow (by omega) (by omega) (by omega) (by decide) (by decide) bb1 k1 v1 (by rw [hz]; exact ex1) (by rw [hz]; exact ek1) (by rw [hz]; exact ev1)
  obtain ⟨k0, ek0⟩ : ∃ x, M.acz m.c m.xs.length (a + 0) 1 = x := ⟨_, rfl⟩
  obtain ⟨v0, ev0⟩ : ∃ x, M.atv m.c m.xs.length (a + 0) 1 = x := ⟨_, rfl⟩
  obtain ⟨bb0, ex0⟩ : ∃ x, M.alv m.c m.xs (a + 0) 1 = x := ⟨_, rfl⟩
  have D0 := Lib.hid fun w => fun (ow : m.Ok w) (z : Int) (hz : z = a + 0) => fload m z 1 w ow (by omega) (by omega) (by omega) (by decide) (by decide) bb0 k0 v0 (by rw [hz]; exact ex0) (by rw [hz]; exact ek0) (by rw [hz]; exact ev0)
  rw [ek3] at e3
  have hkb : (k3 == 0) = false := by simpa using e3
  have C1 := Lib.hid fun w => fun (ow : m.Ok w) => fload m a 4 w ow (by omega) a0 a1 (by decide) (by decide) 0 3 a (M.alv_no hk) ek (M.atv_no hk)
  have q1 : ∀ w, (Op.equalIn 10000 35 (.agg #[.int .i64 k3, .int .u32 v3]) (.agg #[.int .i64 0, .int .u32 0])).run Try.prog w = .ok false w := fun w => by rw [eqTrap]; exact congrArg (fun b => Result.ok b w) (by rw [hkb]; rfl)
  have q2 : ∀ w, (Op.equalIn 10000 35 (.agg #[.int .i64 3, .int .u32 a]) (.agg #[.int .i64 3, .int .u32 a])).run Try.prog w = .ok true w := fun w => by rw [eqTrap]; exact congrArg (fun b => Result.ok b w) (by simp)
  have a3 : a + 3 < 4294967296 := by omega
  clear h e3 hkb ek hk ek0 ev0 ex0 ek1 ev1 ex1 ek2 ev2 ex2 ek3 ev3 ex3
  have HD := Lib.hid (Dn.refl W)
  obtain ⟨x0, b_r, hw0, hb0, r, d', nn⟩ := new_blk W 30 (mach m)
  have HL_r : Hid (W.heap.size ≤ b_r) := Lib.hid (by have := HD.out.size; omega)
  clear nn
  replace om := Lib.hid (om.out.dn d')
  replace HD := Lib.hid (HD.out.trans d')
  clear d'
  go_enter Try.func7, Try.ntmps7
  go_wp2_with fail
  rw [← hw0, ← hb0]
  clear hw0 hb0
  go_wp2_with (first | ((with_reducible refine load33 r hl ?_ ?_ ?_); rfl; rfl) | ((with_reducible refine loadCore r hl ?_ ?_ ?_); rfl; rfl) | ((with_reducible refine loadCsr r hl ?_ ?_ ?_); rfl; rfl) | (go_at_call 9; (first | (with_reducible refine (C0.out _).mono ?_)); rintro e w' ⟨rfl, d'⟩; replace r := r.dn d'; replace om := Lib.hid (om.out.dn d'); replace HD := Lib.hid (HD.out.trans d'); clear d') | (go_at_call 10; (first | (with_reducible refine (CF.out _ om.out).mono ?_)); rintro e w' ⟨rfl, d'⟩; replace r := r.dn d'; replace om := Lib.hid (om.out.dn d'); replace HD := Lib.hid (HD.out.trans d'); clear d') | (go_at_call 14; (first | (with_reducible refine (C1.out _ om.out).mono ?_)); rintro e w' ⟨rfl, d'⟩; replace r := r.dn d'; replace om := Lib.hid (om.out.dn d'); replace HD := Lib.hid (HD.out.trans d'); clear d') | ((with_reducible refine allocTrap (b := w'.heap.size) rfl ?_ ?_); rfl; refine Hid.out ?_))
  refine Lib.hid ?_
  obtain ⟨x', b_t, hw, hb, t, d', nn⟩ := new_blk w' 35 #[.int .i64 0, .int .u32 0]
  have n_r_t := Lib.hid (nn _ r.lt)
  have HL_t : Hid (W.heap.size ≤ b_t) := Lib.hid (by have := HD.out.size; omega)
  rw [← hw, ← hb]
  clear hw hb nn
  replace r := r.dn d'
  replace om := Lib.hid (om.out.dn d')
  replace HD := Lib.hid (HD.out.trans d')
  clear d'
  go_wp2_with (first | ((with_reducible refine load33 r hl ?_ ?_ ?_); rfl; rfl) | ((with_reducible refine loadCore r hl ?_ ?_ ?_); rfl; rfl) | ((with_reducible refine loadCsr r hl ?_ ?_ ?_); rfl; rfl) | ((with_reducible refine loadTrap t ?_ ?_ ?_); rfl; rfl) | ((with_reducible refine storeTrap (k := 3) (v := a) t ?_ ?_ ?_ ?_); rfl; rfl; rfl; intro w' r' t'; refine Hid.out ?_))
  refine Lib.hid ?_
  replace om := Lib.hid (om.out.trn t (NoU8.trap _ _) t')
  replace r := r.trn t' n_r_t.out
  replace HD := Lib.hid (HD.out.trn HL_t.out t')
  clear t' t
  have t := r'
  clear r'
  go_wp2_with (first | ((with_reducible refine load33 r hl ?_ ?_ ?_); rfl; rfl) | ((with_reducible refine loadCore r hl ?_ ?_ ?_); rfl; rfl) | ((with_reducible refine loadCsr r hl ?_ ?_ ?_); rfl; rfl) | ((with_reducible refine loadTrap t ?_ ?_ ?_); rfl; rfl))
  go_loopw [7, 8, 9, 10, 11] (fun A Y K _ _ w => WbNo W m b_r b_t a A Y K w) (fun _ _ k _ _ _ => 4 - (intOf k).toNat)
  case atStart => exact ⟨0, 0, by decide, by decide, by decide, rfl, rfl, rfl, Lib.hid r, Lib.hid t, om, HD⟩
  case round =>
    clear HD om r t
    obtain ⟨i, s, hi, s0, s1, rfl, rfl, rfl, R, T, om, HD⟩ := hrel
    have r := R.out
    have t := T.out
    clear R T
    obtain rfl | rfl | rfl | rfl | rfl : i = 0 ∨ i = 1 ∨ i = 2 ∨ i = 3 ∨ i = 4 := by omega
    · have eS : decide (0 = 0) = true := rfl
      rw [eS]
      clear eS
      go_wp2_with (first | ((with_reducible refine load33 r hl ?_ ?_ ?_); rfl; rfl) | ((with_reducible refine loadCore r hl ?_ ?_ ?_); rfl; rfl) | ((with_reducible refine loadCsr r hl ?_ ?_ ?_); rfl; rfl) | ((with_reducible refine loadTrap t ?_ ?_ ?_); rfl; rfl) | (go_at_call 14; (with_reducible refine (D3.out _ om.out _ (by omega)).mono ?_); rintro e w' ⟨rfl, d'⟩; replace r := r.dn d'; replace t := t.dn d'; replace om := Lib.hid (om.out.dn d'); replace HD := Lib.hid (HD.out.trans d'); clear d') | ((with_reducible refine allocTrap (b := w'.heap.size) rfl ?_ ?_); rfl; refine Hid.out ?_))
      refine Lib.hid ?_
      obtain ⟨x', b_u, hw, hb, u, d', nn⟩ := new_blk w' 35 #[.int .i64 0, .int .u32 0]
      have n_r_u := Lib.hid (nn _ r.lt)
      have n_t_u := Lib.hid (nn _ t.lt)
      have HL_u : Hid (W.heap.size ≤ b_u) := Lib.hid (by have := HD.out.size; omega)
      rw [← hw, ← hb]
      clear hw hb nn
      replace r := r.dn d'
      replace t := t.dn d'
      replace om := Lib.hid (om.out.dn d')
      replace HD := Lib.hid (HD.out.trans d')
      clear d'
      go_wp2_with (first | ((with_reducible refine load33 r hl ?_ ?_ ?_); rfl; rfl) | ((with_reducible refine loadCore r hl ?_ ?_ ?_); rfl; rfl) | ((with_reducible refine loadCsr r hl ?_ ?_ ?_); rfl; rfl) | ((with_reducible refine loadTrap t ?_ ?_ ?_); rfl; rfl) | ((with_reducible refine loadTrap u ?_ ?_ ?_); rfl; rfl) | ((with_reducible refine storeTrap (k := k3) (v := v3) u ?_ ?_ ?_ ?_); rfl; rfl; rfl; intro w' r' t'; refine Hid.out ?_))
      refine Lib.hid ?_
      replace om := Lib.hid (om.out.trn u (NoU8.trap _ _) t')
      replace r := r.trn t' n_r_u.out
      replace t := t.trn t' n_t_u.out
      replace HD := Lib.hid (HD.out.trn HL_u.out t')
      clear t' u
      have u := r'
      clear r'
      go_wp2_with (first | ((with_reducible refine load33 r hl ?_ ?_ ?_); rfl; rfl) | ((with_reducible refine loadCore r hl ?_ ?_ ?_); rfl; rfl) | ((with_reducible refine loadCsr r hl ?_ ?_ ?_); rfl; rfl) | ((with_reducible refine loadTrap t ?_ ?_ ?_); rfl; rfl) | ((with_reducible refine loadTrap u ?_ ?_ ?_); rfl; rfl))
      go_roundw
      case rel => refine ⟨1, _, by decide, ?_, ?_, rfl, rfl, by first | rfl | go_num, Lib.hid r, Lib.hid t, om, HD⟩ <;> first | omega | (rw [IntKind.wrap_u32]; omega)
      case measure => simp [intOf]
    · have eS : decide (1 = 0) = false := rfl
      rw [eS]
      clear eS
      go_wp2_with (first | ((with_reducible refine load33 r hl ?_ ?_ ?_); rfl; rfl) | ((with_reducible refine loadCore r hl ?_ ?_ ?_); rfl; rfl) | ((with_reducible refine loadCsr r hl ?_ ?_ ?_); rfl; rfl) | ((with_reducible refine loadTrap t ?_ ?_ ?_); rfl; rfl) | (go_at_call 14; (with_reducible refine (D2.out _ om.out _ (by omega)).mono ?_); rintro e w' ⟨rfl, d'⟩; replace r := r.dn d'; replace t := t.dn d'; replace om := Lib.hid (om.out.dn d'); replace HD := Lib.hid (HD.out.trans d'); clear d') | ((with_reducible refine allocTrap (b := w'.heap.size) rfl ?_ ?_); rfl; refine Hid.out ?_))
      refine Lib.hid ?_
      obtain ⟨x', b_u, hw, hb, u, d', nn⟩ := new_blk w' 35 #[.int .i64 0, .int .u32 0]
      have n_r_u := Lib.hid (nn _ r.lt)
      have n_t_u := Lib.hid (nn _ t.lt)
      have HL_u : Hid (W.heap.size ≤ b_u) := Lib.hid (by have := HD.out.size; omega)
      rw [← hw, ← hb]
      clear hw hb nn
      replace r := r.dn d'
      replace t := t.dn d'
      replace om := Lib.hid (om.out.dn d')
      replace HD := Lib.hid (HD.out.trans d')
      clear d'
      go_wp2_with (first | ((with_reducible refine load33 r hl ?_ ?_ ?_); rfl; rfl) | ((with_reducible refine loadCore r hl ?_ ?_ ?_); rfl; rfl) | ((with_reducible refine loadCsr r hl ?_ ?_ ?_); rfl; rfl) | ((with_reducible refine loadTrap t ?_ ?_ ?_); rfl; rfl) | ((with_reducible refine loadTrap u ?_ ?_ ?_); rfl; rfl) | ((with_reducible refine storeTrap (k := k2) (v := v2) u ?_ ?_ ?_ ?_); rfl; rfl; rfl; intro w' r' t'; refine Hid.out ?_))
      refine Lib.hid ?_
      replace om := Lib.hid (om.out.trn u (NoU8.trap _ _) t')
      replace r := r.trn t' n_r_u.out
      replace t := t.trn t' n_t_u.out
      replace HD := Lib.hid (HD.out.trn HL_u.out t')
      clear t' u
      have u := r'
      clear r'
      go_wp2_with (first | ((with_reducible refine load33 r hl ?_ ?_ ?_); rfl; rfl) | ((with_reducible refine loadCore r hl ?_ ?_ ?_); rfl; rfl) | ((with_reducible refine loadCsr r hl ?_ ?_ ?_); rfl; rfl) | ((with_reducible refine loadTrap t ?_ ?_ ?_); rfl; rfl) | ((with_reducible refine loadTrap u ?_ ?_ ?_); rfl; rfl))
      go_roundw
      case rel => refine ⟨2, _, by decide, ?_, ?_, rfl, rfl, by first | rfl | go_num, Lib.hid r, Lib.hid t, om, HD⟩ <;> first | omega | (rw [IntKind.wrap_u32]; omega)
      case measure => simp [intOf]
    · have eS : decide (2 = 0) = false := rfl
      rw [eS]
      clear eS
      go_wp2_with (first | ((with_reducible refine load33 r hl ?_ ?_ ?_); rfl; rfl) | ((with_reducible refine loadCore r hl ?_ ?_ ?_); rfl; rfl) | ((with_reducible refine loadCsr r hl ?_ ?_ ?_); rfl; rfl) | ((with_reducible refine loadTrap t ?_ ?_ ?_); rfl; rfl) | (go_at_call 14; (with_reducible refine (D1.out _ om.out _ (by omega)).mono ?_); rintro e w' ⟨rfl, d'⟩; replace r := r.dn d'; replace t := t.dn d'; replace om := Lib.hid (om.out.dn d'); replace HD := Lib.hid (HD.out.trans d'); clear d') | ((with_reducible refine allocTrap (b := w'.heap.size) rfl ?_ ?_); rfl; refine Hid.out ?_))
      refine Lib.hid ?_
      obtain ⟨x', b_u, hw, hb, u, d', nn⟩ := new_blk w' 35 #[.int .i64 0, .int .u32 0]
      have n_r_u := Lib.hid (nn _ r.lt)
      have n_t_u := Lib.hid (nn _ t.lt)
      have HL_u : Hid (W.heap.size ≤ b_u) := Lib.hid (by have := HD.out.size; omega)
      rw [← hw, ← hb]
      clear hw hb nn
      replace r := r.dn d'
      replace t := t.dn d'
      replace om := Lib.hid (om.out.dn d')
      replace HD := Lib.hid (HD.out.trans d')
      clear d'
      go_wp2_with (first | ((with_reducible refine load33 r hl ?_ ?_ ?_); rfl; rfl) | ((with_reducible refine loadCore r hl ?_ ?_ ?_); rfl; rfl) | ((with_reducible refine loadCsr r hl ?_ ?_ ?_); rfl; rfl) | ((with_reducible refine loadTrap t ?_ ?_ ?_); rfl; rfl) | ((with_reducible refine loadTrap u ?_ ?_ ?_); rfl; rfl) | ((with_reducible refine storeTrap (k := k1) (v := v1) u ?_ ?_ ?_ ?_); rfl; rfl; rfl; intro w' r' t'; refine Hid.out ?_))
      refine Lib.hid ?_
      replace om := Lib.hid (om.out.trn u (NoU8.trap _ _) t')
      replace r := r.trn t' n_r_u.out
      replace t := t.trn t' n_t_u.out
      replace HD := Lib.hid (HD.out.trn HL_u.out t')
      clear t' u
      have u := r'
      clear r'
      go_wp2_with (first | ((with_reducible refine load33 r hl ?_ ?_ ?_); rfl; rfl) | ((with_reducible refine loadCore r hl ?_ ?_ ?_); rfl; rfl) | ((with_reducible refine loadCsr r hl ?_ ?_ ?_); rfl; rfl) | ((with_reducible refine loadTrap t ?_ ?_ ?_); rfl; rfl) | ((with_reducible refine loadTrap u ?_ ?_ ?_); rfl; rfl))
      go_roundw
      case rel => refine ⟨3, _, by decide, ?_, ?_, rfl, rfl, by first | rfl | go_num, Lib.hid r, Lib.hid t, om, HD⟩ <;> first | omega | (rw [IntKind.wrap_u32]; omega)
      case measure => simp [intOf]
    · have eS : decide (3 = 0) = false := rfl
      rw [eS]
      clear eS
      go_wp2_with (first | ((with_reducible refine load33 r hl ?_ ?_ ?_); rfl; rfl) | ((with_reducible refine loadCore r hl ?_ ?_ ?_); rfl; rfl) | ((with_reducible refine loadCsr r hl ?_ ?_ ?_); rfl; rfl) | ((with_reducible refine loadTrap t ?_ ?_ ?_); rfl; rfl) | (go_at_call 14; (with_reducible refine (D0.out _ om.out _ (by omega)).mono ?_); rintro e w' ⟨rfl, d'⟩; replace r := r.dn d'; replace t := t.dn d'; replace om := Lib.hid (om.out.dn d'); replace HD := Lib.hid (HD.out.trans d'); clear d') | ((with_reducible refine allocTrap (b := w'.heap.size) rfl ?_ ?_); rfl; refine Hid.out ?_))
      refine Lib.hid ?_
      obtain ⟨x', b_u, hw, hb, u, d', nn⟩ := new_blk w' 35 #[.int .i64 0, .int .u32 0]
      have n_r_u := Lib.hid (nn _ r.lt)
      have n_t_u := Lib.hid (nn _ t.lt)
      have HL_u : Hid (W.heap.size ≤ b_u) := Lib.hid (by have := HD.out.size; omega)
      rw [← hw, ← hb]
      clear hw hb nn
      replace r := r.dn d'
      replace t := t.dn d'
      replace om := Lib.hid (om.out.dn d')
      replace HD := Lib.hid (HD.out.trans d')
      clear d'
      go_wp2_with (first | ((with_reducible refine load33 r hl ?_ ?_ ?_); rfl; rfl) | ((with_reducible refine loadCore r hl ?_ ?_ ?_); rfl; rfl) | ((with_reducible refine loadCsr r hl ?_ ?_ ?_); rfl; rfl) | ((with_reducible refine loadTrap t ?_ ?_ ?_); rfl; rfl) | ((with_reducible refine loadTrap u ?_ ?_ ?_); rfl; rfl) | ((with_reducible refine storeTrap (k := k0) (v := v0) u ?_ ?_ ?_ ?_); rfl; rfl; rfl; intro w' r' t'; refine Hid.out ?_))
      refine Lib.hid ?_
      replace om := Lib.hid (om.out.trn u (NoU8.trap _ _) t')
      replace r := r.trn t' n_r_u.out
      replace t := t.trn t' n_t_u.out
      replace HD := Lib.hid (HD.out.trn HL_u.out t')
      clear t' u
      have u := r'
      clear r'
      go_wp2_with (first | ((with_reducible refine load33 r hl ?_ ?_ ?_); rfl; rfl) | ((with_reducible refine loadCore r hl ?_ ?_ ?_); rfl; rfl) | ((with_reducible refine loadCsr r hl ?_ ?_ ?_); rfl; rfl) | ((with_reducible refine loadTrap t ?_ ?_ ?_); rfl; rfl) | ((with_reducible refine loadTrap u ?_ ?_ ?_); rfl; rfl))
      go_roundw
      case rel => refine ⟨4, _, by decide, ?_, ?_, rfl, rfl, by first | rfl | go_num, Lib.hid r, Lib.hid t, om, HD⟩ <;> first | omega | (rw [IntKind.wrap_u32]; omega)
      case measure => simp [intOf]
    · have eS : decide (4 = 0) = false := rfl
      rw [eS]
      clear eS
      go_wp2_with (first | ((with_reducible refine load33 r hl ?_ ?_ ?_); rfl; rfl) | ((with_reducible refine loadCore r hl ?_ ?_ ?_); rfl; rfl) | ((with_reducible refine loadCsr r hl ?_ ?_ ?_); rfl; rfl) | ((with_reducible refine loadTrap t ?_ ?_ ?_); rfl; rfl))
      go_ret
      exact ⟨rfl, HD.out⟩
theorem lWb (m : Mc) (a : Int) (a0 : 0 ≤ a) (a1 : a < 4294967296) (W : World) (hm : m.Ok W) (hx : m.xs.length ≤ 9223372036854775807) (hy : m.ys.length ≤ 9223372036854775807) :
    Calls Try.prog 7 #[.agg (mach m), .int .u32 a] W fun e W' => e = .returned (.bool true) ∧ Dn W W' := by
  by_cases hb : m.xs.length ≤ 600 ∧ m.ys.length ≤ 600
  · by_cases h : a % 4 = 0
    · by_cases hk : M.acz m.c m.xs.length a 4 = 0
      · exact lWb_ok m a a0 a1 W hm hb.1 hb.2 h hk
      · exact lWb_trap m a a0 a1 W hm hb.1 hb.2 h hk
    · exact lWb_mis m a a0 a1 W hm hb.1 hb.2 h
  · exact lWb_no m a a0 a1 W hm hx hy hb
end Go.Proofs.Ytchekfipdhoejaa
