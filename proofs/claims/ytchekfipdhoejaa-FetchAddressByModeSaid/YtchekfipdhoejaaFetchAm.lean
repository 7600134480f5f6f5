/-
  'FetchAddressByMode' returns true at every input: the walk. Conditions: the machine is one that can come in.
-/
import Derived.Test.YtchekfipdhoejaaFetchAwake
namespace Go.Proofs.Ytchekfipdhoejaa
open Go.ChangeShapes Go.WideShapes Go.ChangeAt Go.RowKit Go.Sort
set_option linter.unusedVariables false

theorem Blk.cs5 {w : World} {b : Nat} {m : Mc} {t : TypeId} {S : Int} (g : Blk w b t (mach m)) (h : m.c.length = 29) (e : M.csr m.c 5 = S) : w.cell? ⟨b, 22, none⟩ = some (.int .u32 S) := by rw [← e]; exact g.word h 22 rfl
theorem Blk.cs6 {w : World} {b : Nat} {m : Mc} {t : TypeId} {S : Int} (g : Blk w b t (mach m)) (h : m.c.length = 29) (e : M.csr m.c 6 = S) : w.cell? ⟨b, 23, none⟩ = some (.int .u32 S) := by rw [← e]; exact g.word h 23 rfl
namespace M
theorem csr_low (c : List Int) (i j : Nat) (x : Int) (hi : i < 17) : csr (c.set i x) j = csr c j := by
  unfold csr
  rw [List.getD_eq_getElem?_getD, List.getElem?_set_ne (by omega), ← List.getD_eq_getElem?_getD]
theorem acz_same {c e : List Int} (h : ∀ j, csr e j = csr c j) (s a n : Int) : acz e s a n = acz c s a n ∧ apa e s a n = apa c s a n ∧ atv e s a n = atv c s a n := by
  have h1 : sup e = sup c := by unfold sup; rw [h]
  have h2 : ub e = ub c := by unfold ub; rw [h1, h]
  have h3 : un e s = un c s := by unfold un; rw [h1, h]
  have h4 : acz e s a n = acz c s a n := by unfold acz; rw [h2, h3]
  exact ⟨h4, by unfold apa; rw [h4, h2], by unfold atv; rw [h4]⟩
theorem acz_bad {c : List Int} {s a n : Int} (h : acz c s a n ≠ 0) (h4 : n ≠ 4) : acz c s a n = 3 := by
  rcases acz_three c s a n with e | e | e
  · exact absurd e h
  · exact e
  · unfold acz at e
    rw [if_neg (fun q => h4 q.1)] at e
    split at e <;> simp at e
end M
set_option maxRecDepth 100000 in
set_option maxHeartbeats 2000000 in
theorem lAm_no (m : Mc) (a : Int) (a0 : 0 ≤ a) (a1 : a < 4294967296) (d : Int) (d0 : 0 ≤ d) (d1 : d < 18446744073709551616) (g : Int) (g0 : 0 ≤ g) (g1 : g < 4294967296) (W : World) (hm : m.Ok W) (hx : m.xs.length ≤ 9223372036854775807) (hy : m.ys.length ≤ 9223372036854775807) (hb : ¬ (m.xs.length ≤ 600 ∧ m.ys.length ≤ 600)) :
    Calls Try.prog 5 #[.agg (mach m), .int .u32 a, .int .u64 d, .int .u32 g] W fun e W' => e = .returned (.bool true) ∧ Dn W W' := by
  have hl := hm.len
  have om := Lib.hid hm
  have C0 := Lib.hid fun w => awake w
  have CF := Lib.hid fun w => fun (ow : m.Ok w) => rfew m false w ow hx hy (decide_eq_false hb)
  clear hb
  have HD := Lib.hid (Dn.refl W)
  obtain ⟨x0, b_r, hw0, hb0, r, d', nn⟩ := new_blk W 30 (mach m)
  have HL_r : Hid (W.heap.size ≤ b_r) := Lib.hid (by have := HD.out.size; omega)
  clear nn
  replace om := Lib.hid (om.out.dn d')
  replace HD := Lib.hid (HD.out.trans d')
  clear d'
  go_enter Try.func5, Try.ntmps5
  go_wp2_with fail
  rw [← hw0, ← hb0]
  clear hw0 hb0
  go_wp2_with (first | ((with_reducible refine load33 r hl ?_ ?_ ?_); rfl; rfl) | ((with_reducible refine loadCore r hl ?_ ?_ ?_); rfl; rfl) | ((with_reducible refine loadCsr r hl ?_ ?_ ?_); rfl; rfl) | (go_at_call 9; (first | (with_reducible refine (C0.out _).mono ?_)); rintro e w' ⟨rfl, d'⟩; replace r := r.dn d'; replace om := Lib.hid (om.out.dn d'); replace HD := Lib.hid (HD.out.trans d'); clear d') | (go_at_call 10; (first | (with_reducible refine (CF.out _ om.out).mono ?_)); rintro e w' ⟨rfl, d'⟩; replace r := r.dn d'; replace om := Lib.hid (om.out.dn d'); replace HD := Lib.hid (HD.out.trans d'); clear d'))
  go_ret
  exact ⟨rfl, HD.out⟩
set_option maxRecDepth 100000 in
set_option maxHeartbeats 2000000 in
theorem lAm_s1 (m : Mc) (a : Int) (a0 : 0 ≤ a) (a1 : a < 4294967296) (d : Int) (d0 : 0 ≤ d) (d1 : d < 18446744073709551616) (g : Int) (g0 : 0 ≤ g) (g1 : g < 4294967296) (W : World) (hm : m.Ok W) (hx : m.xs.length ≤ 600) (hy : m.ys.length ≤ 600) (hs : M.sup m.c = true) (ha : a < m.xs.length) :
    Calls Try.prog 5 #[.agg (mach m), .int .u32 a, .int .u64 d, .int .u32 g] W fun e W' => e = .returned (.bool true) ∧ Dn W W' := by
  have hl := hm.len
  have om := Lib.hid hm
  have C0 := Lib.hid fun w => awake w
  have CF := Lib.hid fun w => fun (ow : m.Ok w) => rfew m true w ow (by omega) (by omega) (decide_eq_true ⟨hx, hy⟩)
  obtain ⟨B, eB⟩ : ∃ S, M.csr m.c 5 = S := ⟨_, rfl⟩
  obtain ⟨N, eN⟩ : ∃ S, M.csr m.c 6 = S := ⟨_, rfl⟩
  have hB := hm.core.csr 5
  have hN := hm.core.csr 6
  rw [eB] at hB
  rw [eN] at hN
  have B0 := hB.1
  have B1 := hB.2
  have N0 := hN.1
  have N1 := hN.2
  have hu : M.ub m.c = 0 := by unfold M.ub; rw [hs]; exact rfl
  have hun : M.un m.c m.xs.length = m.xs.length := by unfold M.un; rw [hs]; exact rfl
  have hz := M.acz_iff m.c m.xs.length a 1
  rw [hu, hun] at hz
  have ek : M.acz m.c m.xs.length a 1 = 0 := hz.2 ⟨by omega, by omega, by omega⟩
  have ev : M.atv m.c m.xs.length a 1 = 0 := M.atv_yes ek
  have ep : M.apa m.c m.xs.length a 1 = a := by rw [M.apa_yes ek, hu]; omega
  obtain ⟨mo, eo⟩ : ∃ x : Mc, x = { m with t := d, c := (m.c.set 3 g).set 16 g } := ⟨_, rfl⟩
  have oo : Hid (mo.Ok W) := Lib.hid (by rw [eo]; exact ⟨(hm.core.set 3 g g0 g1).set 16 g g0 g1, hm.mem, hm.out, d0, d1⟩)
  have lo := oo.out.len
  have hc : ∀ j, M.csr mo.c j = M.csr m.c j := fun j => by rw [eo]; show M.csr ((m.c.set 3 g).set 16 g) j = _; rw [M.csr_low _ 16 j g (by decide), M.csr_low _ 3 j g (by decide)]
  have hox : mo.xs = m.xs := by rw [eo]
  have ho := M.acz_same hc m.xs.length a 1
  have C1 := Lib.hid fun w => fun (ow : m.Ok w) => resolve m a 1 a 0 0 w ow (by omega) a0 a1 (by decide) (by decide) ep ek ev
  have C2 := Lib.hid fun w => fun (ow : mo.Ok w) => resolve mo a 1 a 0 0 w ow (by rw [hox]; omega) a0 a1 (by decide) (by decide) (by rw [hox, ho.2.1]; exact ep) (by rw [hox, ho.1]; exact ek) (by rw [hox, ho.2.2]; exact ev)
  have C3 := Lib.hid fun w => super_ m.c w hm.core
  rw [hs] at C3
  have f1 : decide (a < (m.xs.length : Int)) = true := decide_eq_true ha
  have q1 : ∀ w, (Op.equalIn 10000 35 (.agg #[.int .i64 0, .int .u32 0]) (.agg #[.int .i64 0, .int .u32 0])).run Try.prog w = .ok true w := fun w => by rw [eqTrap]; exact congrArg (fun b => Result.ok b w) (by simp)
  have q2 : ∀ w, (Op.equalIn 10000 35 (.agg #[.int .i64 0, .int .u32 0]) (.agg #[.int .i64 0, .int .u32 0])).run Try.prog w = .ok true w := fun w => by rw [eqTrap]; exact congrArg (fun b => Result.ok b w) (rfl)
  replace eo := Lib.hid eo
  replace eB := Lib.hid eB
  replace eN := Lib.hid eN
  clear hB hN hu hun hz ek ev ep hc hox ho hs
  have HD := Lib.hid (Dn.refl W)
  obtain ⟨x0, b_r, hw0, hb0, r, d', nn⟩ := new_blk W 30 (mach m)
  have HL_r : Hid (W.heap.size ≤ b_r) := Lib.hid (by have := HD.out.size; omega)
  clear nn
  replace om := Lib.hid (om.out.dn d')
  replace oo := Lib.hid (oo.out.dn d')
  replace HD := Lib.hid (HD.out.trans d')
  clear d'
  go_enter Try.func5, Try.ntmps5
  go_wp2_with fail
  rw [← hw0, ← hb0]
  clear hw0 hb0
  have c0 := r.mem hl
  have c5 := r.cs5 hl eB.out
  have c6 := r.cs6 hl eN.out
  go_wp2_with (first | ((with_reducible refine load33 r hl ?_ ?_ ?_); rfl; rfl) | ((with_reducible refine loadCore r hl ?_ ?_ ?_); rfl; rfl) | ((with_reducible refine loadCsr r hl ?_ ?_ ?_); rfl; rfl) | (go_at_call 9; (first | (with_reducible refine (C0.out _).mono ?_)); rintro e w' ⟨rfl, d'⟩; replace r := r.dn d'; replace om := Lib.hid (om.out.dn d'); replace oo := Lib.hid (oo.out.dn d'); replace HD := Lib.hid (HD.out.trans d'); replace c0 := r.mem hl; replace c5 := r.cs5 hl eB.out; replace c6 := r.cs6 hl eN.out; clear d') | (go_at_call 10; (first | (with_reducible refine (CF.out _ om.out).mono ?_)); rintro e w' ⟨rfl, d'⟩; replace r := r.dn d'; replace om := Lib.hid (om.out.dn d'); replace oo := Lib.hid (oo.out.dn d'); replace HD := Lib.hid (HD.out.trans d'); replace c0 := r.mem hl; replace c5 := r.cs5 hl eB.out; replace c6 := r.cs6 hl eN.out; clear d') | (go_at_call 12; (first | (with_reducible refine (C1.out _ om.out).mono ?_)); rintro e w' ⟨rfl, d'⟩; replace r := r.dn d'; replace om := Lib.hid (om.out.dn d'); replace oo := Lib.hid (oo.out.dn d'); replace HD := Lib.hid (HD.out.trans d'); replace c0 := r.mem hl; replace c5 := r.cs5 hl eB.out; replace c6 := r.cs6 hl eN.out; clear d') | ((with_reducible refine allocTrap (b := w'.heap.size) rfl ?_ ?_); rfl; refine Hid.out ?_))
  refine Lib.hid ?_
  obtain ⟨x', b_t, hw, hb, t, d', nn⟩ := new_blk w' 35 #[.int .i64 0, .int .u32 0]
  have n_r_t := Lib.hid (nn _ r.lt)
  have HL_t : Hid (W.heap.size ≤ b_t) := Lib.hid (by have := HD.out.size; omega)
  rw [← hw, ← hb]
  clear hw hb nn
  replace r := r.dn d'
  replace om := Lib.hid (om.out.dn d')
  replace oo := Lib.hid (oo.out.dn d')
  replace HD := Lib.hid (HD.out.trans d')
  replace c0 := r.mem hl
  replace c5 := r.cs5 hl eB.out
  replace c6 := r.cs6 hl eN.out
  clear d'
  go_wp2_with (first | ((with_reducible refine load33 r hl ?_ ?_ ?_); rfl; rfl) | ((with_reducible refine loadCore r hl ?_ ?_ ?_); rfl; rfl) | ((with_reducible refine loadCsr r hl ?_ ?_ ?_); rfl; rfl) | ((with_reducible refine loadTrap t ?_ ?_ ?_); rfl; rfl) | ((with_reducible refine storeTrap (k := 0) (v := 0) t ?_ ?_ ?_ ?_); rfl; rfl; rfl; intro w' r' t'; refine Hid.out ?_))
  refine Lib.hid ?_
  replace om := Lib.hid (om.out.trn t (NoU8.trap _ _) t')
  replace oo := Lib.hid (oo.out.trn t (NoU8.trap _ _) t')
  replace r := r.trn t' n_r_t.out
  replace HD := Lib.hid (HD.out.trn HL_t.out t')
  clear t' t
  have t := r'
  clear r'
  replace c0 := r.mem hl
  replace c5 := r.cs5 hl eB.out
  replace c6 := r.cs6 hl eN.out
  go_wp2_with (first | ((with_reducible refine load33 r hl ?_ ?_ ?_); rfl; rfl) | ((with_reducible refine loadCore r hl ?_ ?_ ?_); rfl; rfl) | ((with_reducible refine loadCsr r hl ?_ ?_ ?_); rfl; rfl) | ((with_reducible refine loadTrap t ?_ ?_ ?_); rfl; rfl) | ((with_reducible refine alloc33 (b := w'.heap.size) rfl ?_ ?_); rfl; refine Hid.out ?_))
  refine Lib.hid ?_
  obtain ⟨x', b_o, hw, hb, o, d', nn⟩ := new_blk w' 30 (mach Mc.zero)
  have n_r_o := Lib.hid (nn _ r.lt)
  have n_t_o := Lib.hid (nn _ t.lt)
  have HL_o : Hid (W.heap.size ≤ b_o) := Lib.hid (by have := HD.out.size; omega)
  rw [← hw, ← hb]
  clear hw hb nn
  replace r := r.dn d'
  replace t := t.dn d'
  replace om := Lib.hid (om.out.dn d')
  replace oo := Lib.hid (oo.out.dn d')
  replace HD := Lib.hid (HD.out.trans d')
  replace c0 := r.mem hl
  replace c5 := r.cs5 hl eB.out
  replace c6 := r.cs6 hl eN.out
  clear d'
  go_wp2_with (first | ((with_reducible refine load33 r hl ?_ ?_ ?_); rfl; rfl) | ((with_reducible refine loadCore r hl ?_ ?_ ?_); rfl; rfl) | ((with_reducible refine loadCsr r hl ?_ ?_ ?_); rfl; rfl) | ((with_reducible refine loadTrap t ?_ ?_ ?_); rfl; rfl) | ((with_reducible refine load33 o zlen ?_ ?_ ?_); rfl; rfl) | ((with_reducible refine loadCore o zlen ?_ ?_ ?_); rfl; rfl) | ((with_reducible refine loadCsr o zlen ?_ ?_ ?_); rfl; rfl) | ((with_reducible refine store33 m hl o zlen ?_ ?_ ?_ ?_); rfl; rfl; rfl; intro w' r' t'; refine Hid.out ?_))
  refine Lib.hid ?_
  replace om := Lib.hid (om.out.trn o (NoU8.mach _) t')
  replace oo := Lib.hid (oo.out.trn o (NoU8.mach _) t')
  replace r := r.trn t' n_r_o.out
  replace t := t.trn t' n_t_o.out
  replace HD := Lib.hid (HD.out.trn HL_o.out t')
  clear t' o
  have o := r'
  clear r'
  replace c0 := r.mem hl
  replace c5 := r.cs5 hl eB.out
  replace c6 := r.cs6 hl eN.out
  go_wp2_with (first | ((with_reducible refine load33 r hl ?_ ?_ ?_); rfl; rfl) | ((with_reducible refine loadCore r hl ?_ ?_ ?_); rfl; rfl) | ((with_reducible refine loadCsr r hl ?_ ?_ ?_); rfl; rfl) | ((with_reducible refine loadTrap t ?_ ?_ ?_); rfl; rfl) | ((with_reducible refine load33 o hl ?_ ?_ ?_); rfl; rfl) | ((with_reducible refine loadCore o hl ?_ ?_ ?_); rfl; rfl) | ((with_reducible refine loadCsr o hl ?_ ?_ ?_); rfl; rfl) | ((with_reducible refine storeTime (u := d) o hl ?_ ?_ ?_ ?_); rfl; rfl; rfl; intro w' r' t'; refine Hid.out ?_))
  refine Lib.hid ?_
  replace om := Lib.hid (om.out.trn o (NoU8.mach _) t')
  replace oo := Lib.hid (oo.out.trn o (NoU8.mach _) t')
  replace r := r.trn t' n_r_o.out
  replace t := t.trn t' n_t_o.out
  replace HD := Lib.hid (HD.out.trn HL_o.out t')
  clear t' o
  have o := r'
  clear r'
  replace c0 := r.mem hl
  replace c5 := r.cs5 hl eB.out
  replace c6 := r.cs6 hl eN.out
  go_wp2_with (first | ((with_reducible refine load33 r hl ?_ ?_ ?_); rfl; rfl) | ((with_reducible refine loadCore r hl ?_ ?_ ?_); rfl; rfl) | ((with_reducible refine loadCsr r hl ?_ ?_ ?_); rfl; rfl) | ((with_reducible refine loadTrap t ?_ ?_ ?_); rfl; rfl) | ((with_reducible refine load33 o (show ({ m with t := d } : Mc).c.length = 29 from hl) ?_ ?_ ?_); rfl; rfl) | ((with_reducible refine loadCore o (show ({ m with t := d } : Mc).c.length = 29 from hl) ?_ ?_ ?_); rfl; rfl) | ((with_reducible refine loadCsr o (show ({ m with t := d } : Mc).c.length = 29 from hl) ?_ ?_ ?_); rfl; rfl) | ((with_reducible refine storeWord (i := 3) (u := g) o (show ({ m with t := d } : Mc).c.length = 29 from hl) ?_ ?_ ?_ rfl ?_); rfl; rfl; rfl; intro w' r' t'; refine Hid.out ?_))
  refine Lib.hid ?_
  replace om := Lib.hid (om.out.trn o (NoU8.mach _) t')
  replace oo := Lib.hid (oo.out.trn o (NoU8.mach _) t')
  replace r := r.trn t' n_r_o.out
  replace t := t.trn t' n_t_o.out
  replace HD := Lib.hid (HD.out.trn HL_o.out t')
  clear t' o
  have o := r'
  clear r'
  replace c0 := r.mem hl
  replace c5 := r.cs5 hl eB.out
  replace c6 := r.cs6 hl eN.out
  replace o : Blk w' b_o 30 (mach { m with t := d, c := m.c.set 3 g }) := o
  go_wp2_with (first | ((with_reducible refine load33 r hl ?_ ?_ ?_); rfl; rfl) | ((with_reducible refine loadCore r hl ?_ ?_ ?_); rfl; rfl) | ((with_reducible refine loadCsr r hl ?_ ?_ ?_); rfl; rfl) | ((with_reducible refine loadTrap t ?_ ?_ ?_); rfl; rfl) | ((with_reducible refine load33 o (show ({ m with t := d, c := m.c.set 3 g } : Mc).c.length = 29 by simp [hl]) ?_ ?_ ?_); rfl; rfl) | ((with_reducible refine loadCore o (show ({ m with t := d, c := m.c.set 3 g } : Mc).c.length = 29 by simp [hl]) ?_ ?_ ?_); rfl; rfl) | ((with_reducible refine loadCsr o (show ({ m with t := d, c := m.c.set 3 g } : Mc).c.length = 29 by simp [hl]) ?_ ?_ ?_); rfl; rfl) | ((with_reducible refine storeWord (i := 16) (u := g) o (show ({ m with t := d, c := m.c.set 3 g } : Mc).c.length = 29 by simp [hl]) ?_ ?_ ?_ rfl ?_); rfl; rfl; rfl; intro w' r' t'; refine Hid.out ?_))
  refine Lib.hid ?_
  replace om := Lib.hid (om.out.trn o (NoU8.mach _) t')
  replace oo := Lib.hid (oo.out.trn o (NoU8.mach _) t')
  replace r := r.trn t' n_r_o.out
  replace t := t.trn t' n_t_o.out
  replace HD := Lib.hid (HD.out.trn HL_o.out t')
  clear t' o
  have o := r'
  clear r'
  replace c0 := r.mem hl
  replace c5 := r.cs5 hl eB.out
  replace c6 := r.cs6 hl eN.out
  replace o : Blk w' b_o 30 (mach mo) := by rw [eo.out]; exact o
  go_wp2_with (first | ((with_reducible refine load33 r hl ?_ ?_ ?_); rfl; rfl) | ((with_reducible refine loadCore r hl ?_ ?_ ?_); rfl; rfl) | ((with_reducible refine loadCsr r hl ?_ ?_ ?_); rfl; rfl) | ((with_reducible refine loadTrap t ?_ ?_ ?_); rfl; rfl) | ((with_reducible refine load33 o lo ?_ ?_ ?_); rfl; rfl) | ((with_reducible refine loadCore o lo ?_ ?_ ?_); rfl; rfl) | ((with_reducible refine loadCsr o lo ?_ ?_ ?_); rfl; rfl) | (go_at_call 12; (first | (with_reducible refine (C2.out _ oo.out).mono ?_)); rintro e w' ⟨rfl, d'⟩; replace r := r.dn d'; replace t := t.dn d'; replace o := o.dn d'; replace om := Lib.hid (om.out.dn d'); replace oo := Lib.hid (oo.out.dn d'); replace HD := Lib.hid (HD.out.trans d'); replace c0 := r.mem hl; replace c5 := r.cs5 hl eB.out; replace c6 := r.cs6 hl eN.out; clear d') | ((with_reducible refine allocTrap (b := w'.heap.size) rfl ?_ ?_); rfl; refine Hid.out ?_))
  refine Lib.hid ?_
  obtain ⟨x', b_u, hw, hb, u, d', nn⟩ := new_blk w' 35 #[.int .i64 0, .int .u32 0]
  have n_r_u := Lib.hid (nn _ r.lt)
  have n_t_u := Lib.hid (nn _ t.lt)
  have n_o_u := Lib.hid (nn _ o.lt)
  have HL_u : Hid (W.heap.size ≤ b_u) := Lib.hid (by have := HD.out.size; omega)
  rw [← hw, ← hb]
  clear hw hb nn
  replace r := r.dn d'
  replace t := t.dn d'
  replace o := o.dn d'
  replace om := Lib.hid (om.out.dn d')
  replace oo := Lib.hid (oo.out.dn d')
  replace HD := Lib.hid (HD.out.trans d')
  replace c0 := r.mem hl
  replace c5 := r.cs5 hl eB.out
  replace c6 := r.cs6 hl eN.out
  clear d'
  go_wp2_with (first | ((with_reducible refine load33 r hl ?_ ?_ ?_); rfl; rfl) | ((with_reducible refine loadCore r hl ?_ ?_ ?_); rfl; rfl) | ((with_reducible refine loadCsr r hl ?_ ?_ ?_); rfl; rfl) | ((with_reducible refine loadTrap t ?_ ?_ ?_); rfl; rfl) | ((with_reducible refine load33 o lo ?_ ?_ ?_); rfl; rfl) | ((with_reducible refine loadCore o lo ?_ ?_ ?_); rfl; rfl) | ((with_reducible refine loadCsr o lo ?_ ?_ ?_); rfl; rfl) | ((with_reducible refine loadTrap u ?_ ?_ ?_); rfl; rfl) | ((with_reducible refine storeTrap (k := 0) (v := 0) u ?_ ?_ ?_ ?_); rfl; rfl; rfl; intro w' r' t'; refine Hid.out ?_))
  refine Lib.hid ?_
  replace om := Lib.hid (om.out.trn u (NoU8.trap _ _) t')
  replace oo := Lib.hid (oo.out.trn u (NoU8.trap _ _) t')
  replace r := r.trn t' n_r_u.out
  replace t := t.trn t' n_t_u.out
  replace o := o.trn t' n_o_u.out
  replace HD := Lib.hid (HD.out.trn HL_u.out t')
  clear t' u
  have u := r'
  clear r'
  replace c0 := r.mem hl
  replace c5 := r.cs5 hl eB.out
  replace c6 := r.cs6 hl eN.out
  go_wp2_with (first | ((with_reducible refine load33 r hl ?_ ?_ ?_); rfl; rfl) | ((with_reducible refine loadCore r hl ?_ ?_ ?_); rfl; rfl) | ((with_reducible refine loadCsr r hl ?_ ?_ ?_); rfl; rfl) | ((with_reducible refine loadTrap t ?_ ?_ ?_); rfl; rfl) | ((with_reducible refine load33 o lo ?_ ?_ ?_); rfl; rfl) | ((with_reducible refine loadCore o lo ?_ ?_ ?_); rfl; rfl) | ((with_reducible refine loadCsr o lo ?_ ?_ ?_); rfl; rfl) | ((with_reducible refine loadTrap u ?_ ?_ ?_); rfl; rfl) | (go_at_call 23; (first | (with_reducible refine (C3.out _).mono ?_)); rintro e w' ⟨rfl, d'⟩; replace r := r.dn d'; replace t := t.dn d'; replace o := o.dn d'; replace u := u.dn d'; replace om := Lib.hid (om.out.dn d'); replace oo := Lib.hid (oo.out.dn d'); replace HD := Lib.hid (HD.out.trans d'); replace c0 := r.mem hl; replace c5 := r.cs5 hl eB.out; replace c6 := r.cs6 hl eN.out; clear d'))
  go_ret
  exact ⟨rfl, HD.out⟩
set_option maxRecDepth 100000 in
set_option maxHeartbeats 2000000 in
theorem lAm_s0 (m : Mc) (a : Int) (a0 : 0 ≤ a) (a1 : a < 4294967296) (d : Int) (d0 : 0 ≤ d) (d1 : d < 18446744073709551616) (g : Int) (g0 : 0 ≤ g) (g1 : g < 4294967296) (W : World) (hm : m.Ok W) (hx : m.xs.length ≤ 600) (hy : m.ys.length ≤ 600) (hs : M.sup m.c = true) (ha : ¬ a < m.xs.length) :
    Calls Try.prog 5 #[.agg (mach m), .int .u32 a, .int .u64 d, .int .u32 g] W fun e W' => e = .returned (.bool true) ∧ Dn W W' := by
  have hl := hm.len
  have om := Lib.hid hm
  have C0 := Lib.hid fun w => awake w
  have CF := Lib.hid fun w => fun (ow : m.Ok w) => rfew m true w ow (by omega) (by omega) (decide_eq_true ⟨hx, hy⟩)
  obtain ⟨B, eB⟩ : ∃ S, M.csr m.c 5 = S := ⟨_, rfl⟩
  obtain ⟨N, eN⟩ : ∃ S, M.csr m.c 6 = S := ⟨_, rfl⟩
  have hB := hm.core.csr 5
  have hN := hm.core.csr 6
  rw [eB] at hB
  rw [eN] at hN
  have B0 := hB.1
  have B1 := hB.2
  have N0 := hN.1
  have N1 := hN.2
  have hu : M.ub m.c = 0 := by unfold M.ub; rw [hs]; exact rfl
  have hun : M.un m.c m.xs.length = m.xs.length := by unfold M.un; rw [hs]; exact rfl
  have hz := M.acz_iff m.c m.xs.length a 1
  rw [hu, hun] at hz
  have ek : M.acz m.c m.xs.length a 1 = 3 := M.acz_bad (fun q => by have := hz.1 q; omega) (by decide)
  have ev : M.atv m.c m.xs.length a 1 = a := M.atv_no (by rw [ek]; decide)
  have ep : M.apa m.c m.xs.length a 1 = 0 := M.apa_no (by rw [ek]; decide)
  obtain ⟨mo, eo⟩ : ∃ x : Mc, x = { m with t := d, c := (m.c.set 3 g).set 16 g } := ⟨_, rfl⟩
  have oo : Hid (mo.Ok W) := Lib.hid (by rw [eo]; exact ⟨(hm.core.set 3 g g0 g1).set 16 g g0 g1, hm.mem, hm.out, d0, d1⟩)
  have lo := oo.out.len
  have hc : ∀ j, M.csr mo.c j = M.csr m.c j := fun j => by rw [eo]; show M.csr ((m.c.set 3 g).set 16 g) j = _; rw [M.csr_low _ 16 j g (by decide), M.csr_low _ 3 j g (by decide)]
  have hox : mo.xs = m.xs := by rw [eo]
  have ho := M.acz_same hc m.xs.length a 1
  have C1 := Lib.hid fun w => fun (ow : m.Ok w) => resolve m a 1 0 3 a w ow (by omega) a0 a1 (by decide) (by decide) ep ek ev
  have C2 := Lib.hid fun w => fun (ow : mo.Ok w) => resolve mo a 1 0 3 a w ow (by rw [hox]; omega) a0 a1 (by decide) (by decide) (by rw [hox, ho.2.1]; exact ep) (by rw [hox, ho.1]; exact ek) (by rw [hox, ho.2.2]; exact ev)
  have C3 := Lib.hid fun w => super_ m.c w hm.core
  rw [hs] at C3
  have f1 : decide (a < (m.xs.length : Int)) = false := decide_eq_false ha
  have q1 : ∀ w, (Op.equalIn 10000 35 (.agg #[.int .i64 3, .int .u32 a]) (.agg #[.int .i64 3, .int .u32 a])).run Try.prog w = .ok true w := fun w => by rw [eqTrap]; exact congrArg (fun b => Result.ok b w) (by simp)
  have q2 : ∀ w, (Op.equalIn 10000 35 (.agg #[.int .i64 3, .int .u32 a]) (.agg #[.int .i64 0, .int .u32 0])).run Try.prog w = .ok false w := fun w => by rw [eqTrap]; exact congrArg (fun b => Result.ok b w) (rfl)
  replace eo := Lib.hid eo
  replace eB := Lib.hid eB
  replace eN := Lib.hid eN
  clear hB hN hu hun hz ek ev ep hc hox ho hs
  have HD := Lib.hid (Dn.refl W)
  obtain ⟨x0, b_r, hw0, hb0, r, d', nn⟩ := new_blk W 30 (mach m)
  have HL_r : Hid (W.heap.size ≤ b_r) := Lib.hid (by have := HD.out.size; omega)
  clear nn
  replace om := Lib.hid (om.out.dn d')
  replace oo := Lib.hid (oo.out.dn d')
  replace HD := Lib.hid (HD.out.trans d')
  clear d'
  go_enter Try.func5, Try.ntmps5
  go_wp2_with fail
  rw [← hw0, ← hb0]
  clear hw0 hb0
  have c0 := r.mem hl
  have c5 := r.cs5 hl eB.out
  have c6 := r.cs6 hl eN.out
  go_wp2_with (first | ((with_reducible refine load33 r hl ?_ ?_ ?_); rfl; rfl) | ((with_reducible refine loadCore r hl ?_ ?_ ?_); rfl; rfl) | ((with_reducible refine loadCsr r hl ?_ ?_ ?_); rfl; rfl) | (go_at_call 9; (first | (with_reducible refine (C0.out _).mono ?_)); rintro e w' ⟨rfl, d'⟩; replace r := r.dn d'; replace om := Lib.hid (om.out.dn d'); replace oo := Lib.hid (oo.out.dn d'); replace HD := Lib.hid (HD.out.trans d'); replace c0 := r.mem hl; replace c5 := r.cs5 hl eB.out; replace c6 := r.cs6 hl eN.out; clear d') | (go_at_call 10; (first | (with_reducible refine (CF.out _ om.out).mono ?_)); rintro e w' ⟨rfl, d'⟩; replace r := r.dn d'; replace om := Lib.hid (om.out.dn d'); replace oo := Lib.hid (oo.out.dn d'); replace HD := Lib.hid (HD.out.trans d'); replace c0 := r.mem hl; replace c5 := r.cs5 hl eB.out; replace c6 := r.cs6 hl eN.out; clear d') | (go_at_call 12; (first | (with_reducible refine (C1.out _ om.out).mono ?_)); rintro e w' ⟨rfl, d'⟩; replace r := r.dn d'; replace om := Lib.hid (om.out.dn d'); replace oo := Lib.hid (oo.out.dn d'); replace HD := Lib.hid (HD.out.trans d'); replace c0 := r.mem hl; replace c5 := r.cs5 hl eB.out; replace c6 := r.cs6 hl eN.out; clear d') | ((with_reducible refine allocTrap (b := w'.heap.size) rfl ?_ ?_); rfl; refine Hid.out ?_))
  refine Lib.hid ?_
  obtain ⟨x', b_t, hw, hb, t, d', nn⟩ := new_blk w' 35 #[.int .i64 0, .int .u32 0]
  have n_r_t := Lib.hid (nn _ r.lt)
  have HL_t : Hid (W.heap.size ≤ b_t) := Lib.hid (by have := HD.out.size; omega)
  rw [← hw, ← hb]
  clear hw hb nn
  replace r := r.dn d'
  replace om := Lib.hid (om.out.dn d')
  replace oo := Lib.hid (oo.out.dn d')
  replace HD := Lib.hid (HD.out.trans d')
  replace c0 := r.mem hl
  replace c5 := r.cs5 hl eB.out
  replace c6 := r.cs6 hl eN.out
  clear d'
  go_wp2_with (first | ((with_reducible refine load33 r hl ?_ ?_ ?_); rfl; rfl) | ((with_reducible refine loadCore r hl ?_ ?_ ?_); rfl; rfl) | ((with_reducible refine loadCsr r hl ?_ ?_ ?_); rfl; rfl) | ((with_reducible refine loadTrap t ?_ ?_ ?_); rfl; rfl) | ((with_reducible refine storeTrap (k := 3) (v := a) t ?_ ?_ ?_ ?_); rfl; rfl; rfl; intro w' r' t'; refine Hid.out ?_))
  refine Lib.hid ?_
  replace om := Lib.hid (om.out.trn t (NoU8.trap _ _) t')
  replace oo := Lib.hid (oo.out.trn t (NoU8.trap _ _) t')
  replace r := r.trn t' n_r_t.out
  replace HD := Lib.hid (HD.out.trn HL_t.out t')
  clear t' t
  have t := r'
  clear r'
  replace c0 := r.mem hl
  replace c5 := r.cs5 hl eB.out
  replace c6 := r.cs6 hl eN.out
  go_wp2_with (first | ((with_reducible refine load33 r hl ?_ ?_ ?_); rfl; rfl) | ((with_reducible refine loadCore r hl ?_ ?_ ?_); rfl; rfl) | ((with_reducible refine loadCsr r hl ?_ ?_ ?_); rfl; rfl) | ((with_reducible refine loadTrap t ?_ ?_ ?_); rfl; rfl) | ((with_reducible refine alloc33 (b := w'.heap.size) rfl ?_ ?_); rfl; refine Hid.out ?_))
  refine Lib.hid ?_
  obtain ⟨x', b_o, hw, hb, o, d', nn⟩ := new_blk w' 30 (mach Mc.zero)
  have n_r_o := Lib.hid (nn _ r.lt)
  have n_t_o := Lib.hid (nn _ t.lt)
  have HL_o : Hid (W.heap.size ≤ b_o) := Lib.hid (by have := HD.out.size; omega)
  rw [← hw, ← hb]
  clear hw hb nn
  replace r := r.dn d'
  replace t := t.dn d'
  replace om := Lib.hid (om.out.dn d')
  replace oo := Lib.hid (oo.out.dn d')
  replace HD := Lib.hid (HD.out.trans d')
  replace c0 := r.mem hl
  replace c5 := r.cs5 hl eB.out
  replace c6 := r.cs6 hl eN.out
  clear d'
  go_wp2_with (first | ((with_reducible refine load33 r hl ?_ ?_ ?_); rfl; rfl) | ((with_reducible refine loadCore r hl ?_ ?_ ?_); rfl; rfl) | ((with_reducible refine loadCsr r hl ?_ ?_ ?_); rfl; rfl) | ((with_reducible refine loadTrap t ?_ ?_ ?_); rfl; rfl) | ((with_reducible refine load33 o zlen ?_ ?_ ?_); rfl; rfl) | ((with_reducible refine loadCore o zlen ?_ ?_ ?_); rfl; rfl) | ((with_reducible refine loadCsr o zlen ?_ ?_ ?_); rfl; rfl) | ((with_reducible refine store33 m hl o zlen ?_ ?_ ?_ ?_); rfl; rfl; rfl; intro w' r' t'; refine Hid.out ?_))
  refine Lib.hid ?_
  replace om := Lib.hid (om.out.trn o (NoU8.mach _) t')
  replace oo := Lib.hid (oo.out.trn o (NoU8.mach _) t')
  replace r := r.trn t' n_r_o.out
  replace t := t.trn t' n_t_o.out
  replace HD := Lib.hid (HD.out.trn HL_o.out t')
  clear t' o
  have o := r'
  clear r'
  replace c0 := r.mem hl
  replace c5 := r.cs5 hl eB.out
  replace c6 := r.cs6 hl eN.out
  go_wp2_with (first | ((with_reducible refine load33 r hl ?_ ?_ ?_); rfl; rfl) | ((with_reducible refine loadCore r hl ?_ ?_ ?_); rfl; rfl) | ((with_reducible refine loadCsr r hl ?_ ?_ ?_); rfl; rfl) | ((with_reducible refine loadTrap t ?_ ?_ ?_); rfl; rfl) | ((with_reducible refine load33 o hl ?_ ?_ ?_); rfl; rfl) | ((with_reducible refine loadCore o hl ?_ ?_ ?_); rfl; rfl) | ((with_reducible refine loadCsr o hl ?_ ?_ ?_); rfl; rfl) | ((with_reducible refine storeTime (u := d) o hl ?_ ?_ ?_ ?_); rfl; rfl; rfl; intro w' r' t'; refine Hid.out ?_))
  refine Lib.hid ?_
  replace om := Lib.hid (om.out.trn o (NoU8.mach _) t')
  replace oo := Lib.hid (oo.out.trn o (NoU8.mach _) t')
  replace r := r.trn t' n_r_o.out
  replace t := t.trn t' n_t_o.out
  replace HD := Lib.hid (HD.out.trn HL_o.out t')
  clear t' o
  have o := r'
  clear r'
  replace c0 := r.mem hl
  replace c5 := r.cs5 hl eB.out
  replace c6 := r.cs6 hl eN.out
  go_wp2_with (first | ((with_reducible refine load33 r hl ?_ ?_ ?_); rfl; rfl) | ((with_reducible refine loadCore r hl ?_ ?_ ?_); rfl; rfl) | ((with_reducible refine loadCsr r hl ?_ ?_ ?_); rfl; rfl) | ((with_reducible refine loadTrap t ?_ ?_ ?_); rfl; rfl) | ((with_reducible refine load33 o (show ({ m with t := d } : Mc).c.length = 29 from hl) ?_ ?_ ?_); rfl; rfl) | ((with_reducible refine loadCore o (show ({ m with t := d } : Mc).c.length = 29 from hl) ?_ ?_ ?_); rfl; rfl) | ((with_reducible refine loadCsr o (show ({ m with t := d } : Mc).c.length = 29 from hl) ?_ ?_ ?_); rfl; rfl) | ((with_reducible refine storeWord (i := 3) (u := g) o (show ({ m with t := d } : Mc).c.length = 29 from hl) ?_ ?_ ?_ rfl ?_); rfl; rfl; rfl; intro w' r' t'; refine Hid.out ?_))
  refine Lib.hid ?_
  replace om := Lib.hid (om.out.trn o (NoU8.mach _) t')
  replace oo := Lib.hid (oo.out.trn o (NoU8.mach _) t')
  replace r := r.trn t' n_r_o.out
  replace t := t.trn t' n_t_o.out
  replace HD := Lib.hid (HD.out.trn HL_o.out t')
  clear t' o
  have o := r'
  clear r'
  replace c0 := r.mem hl
  replace c5 := r.cs5 hl eB.out
  replace c6 := r.cs6 hl eN.out
  replace o : Blk w' b_o 30 (mach { m with t := d, c := m.c.set 3 g }) := o
  go_wp2_with (first | ((with_reducible refine load33 r hl ?_ ?_ ?_); rfl; rfl) | ((with_reducible refine loadCore r hl ?_ ?_ ?_); rfl; rfl) | ((with_reducible refine loadCsr r hl ?_ ?_ ?_); rfl; rfl) | ((with_reducible refine loadTrap t ?_ ?_ ?_); rfl; rfl) | ((with_reducible refine load33 o (show ({ m with t := d, c := m.c.set 3 g } : Mc).c.length = 29 by simp [hl]) ?_ ?_ ?_); rfl; rfl) | ((with_reducible refine loadCore o (show ({ m with t := d, c := m.c.set 3 g } : Mc).c.length = 29 by simp [hl]) ?_ ?_ ?_); rfl; rfl) | ((with_reducible refine loadCsr o (show ({ m with t := d, c := m.c.set 3 g } : Mc).c.length = 29 by simp [hl]) ?_ ?_ ?_); rfl; rfl) | ((with_reducible refine storeWord (i := 16) (u := g) o (show ({ m with t := d, c := m.c.set 3 g } : Mc).c.length = 29 by simp [hl]) ?_ ?_ ?_ rfl ?_); rfl; rfl; rfl; intro w' r' t'; refine Hid.out ?_))
  refine Lib.hid ?_
  replace om := Lib.hid (om.out.trn o (NoU8.mach _) t')
  replace oo := Lib.hid (oo.out.trn o (NoU8.mach _) t')
  replace r := r.trn t' n_r_o.out
  replace t := t.trn t' n_t_o.out
  replace HD := Lib.hid (HD.out.trn HL_o.out t')
  clear t' o
  have o := r'
  clear r'
  replace c0 := r.mem hl
  replace c5 := r.cs5 hl eB.out
  replace c6 := r.cs6 hl eN.out
  replace o : Blk w' b_o 30 (mach mo) := by rw [eo.out]; exact o
  go_wp2_with (first | ((with_reducible refine load33 r hl ?_ ?_ ?_); rfl; rfl) | ((with_reducible refine loadCore r hl ?_ ?_ ?_); rfl; rfl) | ((with_reducible refine loadCsr r hl ?_ ?_ ?_); rfl; rfl) | ((with_reducible refine loadTrap t ?_ ?_ ?_); rfl; rfl) | ((with_reducible refine load33 o lo ?_ ?_ ?_); rfl; rfl) | ((with_reducible refine loadCore o lo ?_ ?_ ?_); rfl; rfl) | ((with_reducible refine loadCsr o lo ?_ ?_ ?_); rfl; rfl) | (go_at_call 12; (first | (with_reducible refine (C2.out _ oo.out).mono ?_)); rintro e w' ⟨rfl, d'⟩; replace r := r.dn d'; replace t := t.dn d'; replace o := o.dn d'; replace om := Lib.hid (om.out.dn d'); replace oo := Lib.hid (oo.out.dn d'); replace HD := Lib.hid (HD.out.trans d'); replace c0 := r.mem hl; replace c5 := r.cs5 hl eB.out; replace c6 := r.cs6 hl eN.out; clear d') | ((with_reducible refine allocTrap (b := w'.heap.size) rfl ?_ ?_); rfl; refine Hid.out ?_))
  refine Lib.hid ?_
  obtain ⟨x', b_u, hw, hb, u, d', nn⟩ := new_blk w' 35 #[.int .i64 0, .int .u32 0]
  have n_r_u := Lib.hid (nn _ r.lt)
  have n_t_u := Lib.hid (nn _ t.lt)
  have n_o_u := Lib.hid (nn _ o.lt)
  have HL_u : Hid (W.heap.size ≤ b_u) := Lib.hid (by have := HD.out.size; omega)
  rw [← hw, ← hb]
  clear hw hb nn
  replace r := r.dn d'
  replace t := t.dn d'
  replace o := o.dn d'
  replace om := Lib.hid (om.out.dn d')
  replace oo := Lib.hid (oo.out.dn d')
  replace HD := Lib.hid (HD.out.trans d')
  replace c0 := r.mem hl
  replace c5 := r.cs5 hl eB.out
  replace c6 := r.cs6 hl eN.out
  clear d'
  go_wp2_with (first | ((with_reducible refine load33 r hl ?_ ?_ ?_); rfl; rfl) | ((with_reducible refine loadCore r hl ?_ ?_ ?_); rfl; rfl) | ((with_reducible refine loadCsr r hl ?_ ?_ ?_); rfl; rfl) | ((with_reducible refine loadTrap t ?_ ?_ ?_); rfl; rfl) | ((with_reducible refine load33 o lo ?_ ?_ ?_); rfl; rfl) | ((with_reducible refine loadCore o lo ?_ ?_ ?_); rfl; rfl) | ((with_reducible refine loadCsr o lo ?_ ?_ ?_); rfl; rfl) | ((with_reducible refine loadTrap u ?_ ?_ ?_); rfl; rfl) | ((with_reducible refine storeTrap (k := 3) (v := a) u ?_ ?_ ?_ ?_); rfl; rfl; rfl; intro w' r' t'; refine Hid.out ?_))
  refine Lib.hid ?_
  replace om := Lib.hid (om.out.trn u (NoU8.trap _ _) t')
  replace oo := Lib.hid (oo.out.trn u (NoU8.trap _ _) t')
  replace r := r.trn t' n_r_u.out
  replace t := t.trn t' n_t_u.out
  replace o := o.trn t' n_o_u.out
  replace HD := Lib.hid (HD.out.trn HL_u.out t')
  clear t' u
  have u := r'
  clear r'
  replace c0 := r.mem hl
  replace c5 := r.cs5 hl eB.out
  replace c6 := r.cs6 hl eN.out
  go_wp2_with (first | ((with_reducible refine load33 r hl ?_ ?_ ?_); rfl; rfl) | ((with_reducible refine loadCore r hl ?_ ?_ ?_); rfl; rfl) | ((with_reducible refine loadCsr r hl ?_ ?_ ?_); rfl; rfl) | ((with_reducible refine loadTrap t ?_ ?_ ?_); rfl; rfl) | ((with_reducible refine load33 o lo ?_ ?_ ?_); rfl; rfl) | ((with_reducible refine loadCore o lo ?_ ?_ ?_); rfl; rfl) | ((with_reducible refine loadCsr o lo ?_ ?_ ?_); rfl; rfl) | ((with_reducible refine loadTrap u ?_ ?_ ?_); rfl; rfl) | (go_at_call 23; (first | (with_reducible refine (C3.out _).mono ?_)); rintro e w' ⟨rfl, d'⟩; replace r := r.dn d'; replace t := t.dn d'; replace o := o.dn d'; replace u := u.dn d'; replace om := Lib.hid (om.out.dn d'); replace oo := Lib.hid (oo.out.dn d'); replace HD := Lib.hid (HD.out.trans d'); replace c0 := r.mem hl; replace c5 := r.cs5 hl eB.out; replace c6 := r.cs6 hl eN.out; clear d'))
  go_ret
  exact ⟨rfl, HD.out⟩
set_option maxRecDepth 100000 in
set_option maxHeartbeats 2000000 in
theorem lAm_u1 (m : Mc) (a : Int) (a0 : 0 ≤ a) (a1 : a < 4294967296) (d : Int) (d0 : 0 ≤ d) (d1 : d < 18446744073709551616) (g : Int) (g0 : 0 ≤ g) (g1 : g < 4294967296) (W : World) (hm : m.Ok W) (hx : m.xs.length ≤ 600) (hy : m.ys.length ≤ 600) (hs : M.sup m.c = false) (ha : a < M.csr m.c 6) (hb : M.csr m.c 5 + a < m.xs.length) :
    Calls Try.prog 5 #[.agg (mach m), .int .u32 a, .int .u64 d, .int .u32 g] W fun e W' => e = .returned (.bool true) ∧ Dn W W' := by
  have hl := hm.len
  have om := Lib.hid hm
  have C0 := Lib.hid fun w => awake w
  have CF := Lib.hid fun w => fun (ow : m.Ok w) => rfew m true w ow (by omega) (by omega) (decide_eq_true ⟨hx, hy⟩)
  obtain ⟨B, eB⟩ : ∃ S, M.csr m.c 5 = S := ⟨_, rfl⟩
  obtain ⟨N, eN⟩ : ∃ S, M.csr m.c 6 = S := ⟨_, rfl⟩
  have hB := hm.core.csr 5
  have hN := hm.core.csr 6
  rw [eB] at hB
  rw [eN] at hN
  have B0 := hB.1
  have B1 := hB.2
  have N0 := hN.1
  have N1 := hN.2
  have hu : M.ub m.c = B := by unfold M.ub; rw [hs]; exact eB
  have hun : M.un m.c m.xs.length = N := by unfold M.un; rw [hs]; exact eN
  have hz := M.acz_iff m.c m.xs.length a 1
  rw [hu, hun] at hz
  have ek : M.acz m.c m.xs.length a 1 = 0 := hz.2 ⟨by omega, by omega, by omega⟩
  have ev : M.atv m.c m.xs.length a 1 = 0 := M.atv_yes ek
  have ep : M.apa m.c m.xs.length a 1 = (B + a) := by rw [M.apa_yes ek, hu]
  obtain ⟨mo, eo⟩ : ∃ x : Mc, x = { m with t := d, c := (m.c.set 3 g).set 16 g } := ⟨_, rfl⟩
  have oo : Hid (mo.Ok W) := Lib.hid (by rw [eo]; exact ⟨(hm.core.set 3 g g0 g1).set 16 g g0 g1, hm.mem, hm.out, d0, d1⟩)
  have lo := oo.out.len
  have hc : ∀ j, M.csr mo.c j = M.csr m.c j := fun j => by rw [eo]; show M.csr ((m.c.set 3 g).set 16 g) j = _; rw [M.csr_low _ 16 j g (by decide), M.csr_low _ 3 j g (by decide)]
  have hox : mo.xs = m.xs := by rw [eo]
  have ho := M.acz_same hc m.xs.length a 1
  have C1 := Lib.hid fun w => fun (ow : m.Ok w) => resolve m a 1 (B + a) 0 0 w ow (by omega) a0 a1 (by decide) (by decide) ep ek ev
  have C2 := Lib.hid fun w => fun (ow : mo.Ok w) => resolve mo a 1 (B + a) 0 0 w ow (by rw [hox]; omega) a0 a1 (by decide) (by decide) (by rw [hox, ho.2.1]; exact ep) (by rw [hox, ho.1]; exact ek) (by rw [hox, ho.2.2]; exact ev)
  have C3 := Lib.hid fun w => super_ m.c w hm.core
  rw [hs] at C3
  rw [eN] at ha
  rw [eB] at hb
  have f1 : decide (a < N) = true := decide_eq_true ha
  have f2 : decide (B + a < (m.xs.length : Int)) = true := decide_eq_true hb
  have q1 : ∀ w, (Op.equalIn 10000 35 (.agg #[.int .i64 0, .int .u32 0]) (.agg #[.int .i64 0, .int .u32 0])).run Try.prog w = .ok true w := fun w => by rw [eqTrap]; exact congrArg (fun b => Result.ok b w) (by simp)
  have q2 : ∀ w, (Op.equalIn 10000 35 (.agg #[.int .i64 0, .int .u32 0]) (.agg #[.int .i64 0, .int .u32 0])).run Try.prog w = .ok true w := fun w => by rw [eqTrap]; exact congrArg (fun b => Result.ok b w) (rfl)
  replace eo := Lib.hid eo
  replace eB := Lib.hid eB
  replace eN := Lib.hid eN
  clear hB hN hu hun hz ek ev ep hc hox ho hs
  have HD := Lib.hid (Dn.refl W)
  obtain ⟨x0, b_r, hw0, hb0, r, d', nn⟩ := new_blk W 30 (mach m)
  have HL_r : Hid (W.heap.size ≤ b_r) := Lib.hid (by have := HD.out.size; omega)
  clear nn
  replace om := Lib.hid (om.out.dn d')
  replace oo := Lib.hid (oo.out.dn d')
  replace HD := Lib.hid (HD.out.trans d')
  clear d'
  go_enter Try.func5, Try.ntmps5
  go_wp2_with fail
  rw [← hw0, ← hb0]
  clear hw0 hb0
  have c0 := r.mem hl
  have c5 := r.cs5 hl eB.out
  have c6 := r.cs6 hl eN.out
  go_wp2_with (first | ((with_reducible refine load33 r hl ?_ ?_ ?_); rfl; rfl) | ((with_reducible refine loadCore r hl ?_ ?_ ?_); rfl; rfl) | ((with_reducible refine loadCsr r hl ?_ ?_ ?_); rfl; rfl) | (go_at_call 9; (first | (with_reducible refine (C0.out _).mono ?_)); rintro e w' ⟨rfl, d'⟩; replace r := r.dn d'; replace om := Lib.hid (om.out.dn d'); replace oo := Lib.hid (oo.out.dn d'); replace HD := Lib.hid (HD.out.trans d'); replace c0 := r.mem hl; replace c5 := r.cs5 hl eB.out; replace c6 := r.cs6 hl eN.out; clear d') | (go_at_call 10; (first | (with_reducible refine (CF.out _ om.out).mono ?_)); rintro e w' ⟨rfl, d'⟩; replace r := r.dn d'; replace om := Lib.hid (om.out.dn d'); replace oo := Lib.hid (oo.out.dn d'); replace HD := Lib.hid (HD.out.trans d'); replace c0 := r.mem hl; replace c5 := r.cs5 hl eB.out; replace c6 := r.cs6 hl eN.out; clear d') | (go_at_call 12; (first | (with_reducible refine (C1.out _ om.out).mono ?_)); rintro e w' ⟨rfl, d'⟩; replace r := r.dn d'; replace om := Lib.hid (om.out.dn d'); replace oo := Lib.hid (oo.out.dn d'); replace HD := Lib.hid (HD.out.trans d'); replace c0 := r.mem hl; replace c5 := r.cs5 hl eB.out; replace c6 := r.cs6 hl eN.out; clear d') | ((with_reducible refine allocTrap (b := w'.heap.size) rfl ?_ ?_); rfl; refine Hid.out ?_))
  refine Lib.hid ?_
  obtain ⟨x', b_t, hw, hb, t, d', nn⟩ := new_blk w' 35 #[.int .i64 0, .int .u32 0]
  have n_r_t := Lib.hid (nn _ r.lt)
  have HL_t : Hid (W.heap.size ≤ b_t) := Lib.hid (by have := HD.out.size; omega)
  rw [← hw, ← hb]
  clear hw hb nn
  replace r := r.dn d'
  replace om := Lib.hid (om.out.dn d')
  replace oo := Lib.hid (oo.out.dn d')
  replace HD := Lib.hid (HD.out.trans d')
  replace c0 := r.mem hl
  replace c5 := r.cs5 hl eB.out
  replace c6 := r.cs6 hl eN.out
  clear d'
  go_wp2_with (first | ((with_reducible refine load33 r hl ?_ ?_ ?_); rfl; rfl) | ((with_reducible refine loadCore r hl ?_ ?_ ?_); rfl; rfl) | ((with_reducible refine loadCsr r hl ?_ ?_ ?_); rfl; rfl) | ((with_reducible refine loadTrap t ?_ ?_ ?_); rfl; rfl) | ((with_reducible refine storeTrap (k := 0) (v := 0) t ?_ ?_ ?_ ?_); rfl; rfl; rfl; intro w' r' t'; refine Hid.out ?_))
  refine Lib.hid ?_
  replace om := Lib.hid (om.out.trn t (NoU8.trap _ _) t')
  replace oo := Lib.hid (oo.out.trn t (NoU8.trap _ _) t')
  replace r := r.trn t' n_r_t.out
  replace HD := Lib.hid (HD.out.trn HL_t.out t')
  clear t' t
  have t := r'
  clear r'
  replace c0 := r.mem hl
  replace c5 := r.cs5 hl eB.out
  replace c6 := r.cs6 hl eN.out
  go_wp2_with (first | ((with_reducible refine load33 r hl ?_ ?_ ?_); rfl; rfl) | ((with_reducible refine loadCore r hl ?_ ?_ ?_); rfl; rfl) | ((with_reducible refine loadCsr r hl ?_ ?_ ?_); rfl; rfl) | ((with_reducible refine loadTrap t ?_ ?_ ?_); rfl; rfl) | ((with_reducible refine alloc33 (b := w'.heap.size) rfl ?_ ?_); rfl; refine Hid.out ?_))
  refine Lib.hid ?_
  obtain ⟨x', b_o, hw, hb, o, d', nn⟩ := new_blk w' 30 (mach Mc.zero)
  have n_r_o := Lib.hid (nn _ r.lt)
  have n_t_o := Lib.hid (nn _ t.lt)
  have HL_o : Hid (W.heap.size ≤ b_o) := Lib.hid (by have := HD.out.size; omega)
  rw [← hw, ← hb]
  clear hw hb nn
  replace r := r.dn d'
  replace t := t.dn d'
  replace om := Lib.hid (om.out.dn d')
  replace oo := Lib.hid (oo.out.dn d')
  replace HD := Lib.hid (HD.out.trans d')
  replace c0 := r.mem hl
  replace c5 := r.cs5 hl eB.out
  replace c6 := r.cs6 hl eN.out
  clear d'
  go_wp2_with (first | ((with_reducible refine load33 r hl ?_ ?_ ?_); rfl; rfl) | ((with_reducible refine loadCore r hl ?_ ?_ ?_); rfl; rfl) | ((with_reducible refine loadCsr r hl ?_ ?_ ?_); rfl; rfl) | ((with_reducible refine loadTrap t ?_ ?_ ?_); rfl; rfl) | ((with_reducible refine load33 o zlen ?_ ?_ ?_); rfl; rfl) | ((with_reducible refine loadCore o zlen ?_ ?_ ?_); rfl; rfl) | ((with_reducible refine loadCsr o zlen ?_ ?_ ?_); rfl; rfl) | ((with_reducible refine store33 m hl o zlen ?_ ?_ ?_ ?_); rfl; rfl; rfl; intro w' r' t'; refine Hid.out ?_))
  refine Lib.hid ?_
  replace om := Lib.hid (om.out.trn o (NoU8.mach _) t')
  replace oo := Lib.hid (oo.out.trn o (NoU8.mach _) t')
  replace r := r.trn t' n_r_o.out
  replace t := t.trn t' n_t_o.out
  replace HD := Lib.hid (HD.out.trn HL_o.out t')
  clear t' o
  have o := r'
  clear r'
  replace c0 := r.mem hl
  replace c5 := r.cs5 hl eB.out
  replace c6 := r.cs6 hl eN.out
  go_wp2_with (first | ((with_reducible refine load33 r hl ?_ ?_ ?_); rfl; rfl) | ((with_reducible refine loadCore r hl ?_ ?_ ?_); rfl; rfl) | ((with_reducible refine loadCsr r hl ?_ ?_ ?_); rfl; rfl) | ((with_reducible refine loadTrap t ?_ ?_ ?_); rfl; rfl) | ((with_reducible refine load33 o hl ?_ ?_ ?_); rfl; rfl) | ((with_reducible refine loadCore o hl ?_ ?_ ?_); rfl; rfl) | ((with_reducible refine loadCsr o hl ?_ ?_ ?_); rfl; rfl) | ((with_reducible refine storeTime (u := d) o hl ?_ ?_ ?_ ?_); rfl; rfl; rfl; intro w' r' t'; refine Hid.out ?_))
  refine Lib.hid ?_
  replace om := Lib.hid (om.out.trn o (NoU8.mach _) t')
  replace oo := Lib.hid (oo.out.trn o (NoU8.mach _) t')
  replace r := r.trn t' n_r_o.out
  replace t := t.trn t' n_t_o.out
  replace HD := Lib.hid (HD.out.trn HL_o.out t')
  clear t' o
  have o := r'
  clear r'
  replace c0 := r.mem hl
  replace c5 := r.cs5 hl eB.out
  replace c6 := r.cs6 hl eN.out
  go_wp2_with (first | ((with_reducible refine load33 r hl ?_ ?_ ?_); rfl; rfl) | ((with_reducible refine loadCore r hl ?_ ?_ ?_); rfl; rfl) | ((with_reducible refine loadCsr r hl ?_ ?_ ?_); rfl; rfl) | ((with_reducible refine loadTrap t ?_ ?_ ?_); rfl; rfl) | ((with_reducible refine load33 o (show ({ m with t := d } : Mc).c.length = 29 from hl) ?_ ?_ ?_); rfl; rfl) | ((with_reducible refine loadCore o (show ({ m with t := d } : Mc).c.length = 29 from hl) ?_ ?_ ?_); rfl; rfl) | ((with_reducible refine loadCsr o (show ({ m with t := d } : Mc).c.length = 29 from hl) ?_ ?_ ?_); rfl; rfl) | ((with_reducible refine storeWord (i := 3) (u := g) o (show ({ m with t := d } : Mc).c.length = 29 from hl) ?_ ?_ ?_ rfl ?_); rfl; rfl; rfl; intro w' r' t'; refine Hid.out ?_))
  refine Lib.hid ?_
  replace om := Lib.hid (om.out.trn o (NoU8.mach _) t')
  replace oo := Lib.hid (oo.out.trn o (NoU8.mach _) t')
  replace r := r.trn t' n_r_o.out
  replace t := t.trn t' n_t_o.out
  replace HD := Lib.hid (HD.out.trn HL_o.out t')
  clear t' o
  have o := r'
  clear r'
  replace c0 := r.mem hl
  replace c5 := r.cs5 hl eB.out
  replace c6 := r.cs6 hl eN.out
  replace o : Blk w' b_o 30 (mach { m with t := d, c := m.c.set 3 g }) := o
  go_wp2_with (first | ((with_reducible refine load33 r hl ?_ ?_ ?_); rfl; rfl) | ((with_reducible refine loadCore r hl ?_ ?_ ?_); rfl; rfl) | ((with_reducible refine loadCsr r hl ?_ ?_ ?_); rfl; rfl) | ((with_reducible refine loadTrap t ?_ ?_ ?_); rfl; rfl) | ((with_reducible refine load33 o (show ({ m with t := d, c := m.c.set 3 g } : Mc).c.length = 29 by simp [hl]) ?_ ?_ ?_); rfl; rfl) | ((with_reducible refine loadCore o (show ({ m with t := d, c := m.c.set 3 g } : Mc).c.length = 29 by simp [hl]) ?_ ?_ ?_); rfl; rfl) | ((with_reducible refine loadCsr o (show ({ m with t := d, c := m.c.set 3 g } : Mc).c.length = 29 by simp [hl]) ?_ ?_ ?_); rfl; rfl) | ((with_reducible refine storeWord (i := 16) (u := g) o (show ({ m with t := d, c := m.c.set 3 g } : Mc).c.length = 29 by simp [hl]) ?_ ?_ ?_ rfl ?_); rfl; rfl; rfl; intro w' r' t'; refine Hid.out ?_))
  refine Lib.hid ?_
  replace om := Lib.hid (om.out.trn o (NoU8.mach _) t')
  replace oo := Lib.hid (oo.out.trn o (NoU8.mach _) t')
  replace r := r.trn t' n_r_o.out
  replace t := t.trn t' n_t_o.out
  replace HD := Lib.hid (HD.out.trn HL_o.out t')
  clear t' o
  have o := r'
  clear r'
  replace c0 := r.mem hl
  replace c5 := r.cs5 hl eB.out
  replace c6 := r.cs6 hl eN.out
  replace o : Blk w' b_o 30 (mach mo) := by rw [eo.out]; exact o
  go_wp2_with (first | ((with_reducible refine load33 r hl ?_ ?_ ?_); rfl; rfl) | ((with_reducible refine loadCore r hl ?_ ?_ ?_); rfl; rfl) | ((with_reducible refine loadCsr r hl ?_ ?_ ?_); rfl; rfl) | ((with_reducible refine loadTrap t ?_ ?_ ?_); rfl; rfl) | ((with_reducible refine load33 o lo ?_ ?_ ?_); rfl; rfl) | ((with_reducible refine loadCore o lo ?_ ?_ ?_); rfl; rfl) | ((with_reducible refine loadCsr o lo ?_ ?_ ?_); rfl; rfl) | (go_at_call 12; (first | (with_reducible refine (C2.out _ oo.out).mono ?_)); rintro e w' ⟨rfl, d'⟩; replace r := r.dn d'; replace t := t.dn d'; replace o := o.dn d'; replace om := Lib.hid (om.out.dn d'); replace oo := Lib.hid (oo.out.dn d'); replace HD := Lib.hid (HD.out.trans d'); replace c0 := r.mem hl; replace c5 := r.cs5 hl eB.out; replace c6 := r.cs6 hl eN.out; clear d') | ((with_reducible refine allocTrap (b := w'.heap.size) rfl ?_ ?_); rfl; refine Hid.out ?_))
  refine Lib.hid ?_
  obtain ⟨x', b_u, hw, hb, u, d', nn⟩ := new_blk w' 35 #[.int .i64 0, .int .u32 0]
  have n_r_u := Lib.hid (nn _ r.lt)
  have n_t_u := Lib.hid (nn _ t.lt)
  have n_o_u := Lib.hid (nn _ o.lt)
  have HL_u : Hid (W.heap.size ≤ b_u) := Lib.hid (by have := HD.out.size; omega)
  rw [← hw, ← hb]
  clear hw hb nn
  replace r := r.dn d'
  replace t := t.dn d'
  replace o := o.dn d'
  replace om := Lib.hid (om.out.dn d')
  replace oo := Lib.hid (oo.out.dn d')
  replace HD := Lib.hid (HD.out.trans d')
  replace c0 := r.mem hl
  replace c5 := r.cs5 hl eB.out
  replace c6 := r.cs6 hl eN.out
  clear d'
  go_wp2_with (first | ((with_reducible refine load33 r hl ?_ ?_ ?_); rfl; rfl) | ((with_reducible refine loadCore r hl ?_ ?_ ?_); rfl; rfl) | ((with_reducible refine loadCsr r hl ?_ ?_ ?_); rfl; rfl) | ((with_reducible refine loadTrap t ?_ ?_ ?_); rfl; rfl) | ((with_reducible refine load33 o lo ?_ ?_ ?_); rfl; rfl) | ((with_reducible refine loadCore o lo ?_ ?_ ?_); rfl; rfl) | ((with_reducible refine loadCsr o lo ?_ ?_ ?_); rfl; rfl) | ((with_reducible refine loadTrap u ?_ ?_ ?_); rfl; rfl) | ((with_reducible refine storeTrap (k := 0) (v := 0) u ?_ ?_ ?_ ?_); rfl; rfl; rfl; intro w' r' t'; refine Hid.out ?_))
  refine Lib.hid ?_
  replace om := Lib.hid (om.out.trn u (NoU8.trap _ _) t')
  replace oo := Lib.hid (oo.out.trn u (NoU8.trap _ _) t')
  replace r := r.trn t' n_r_u.out
  replace t := t.trn t' n_t_u.out
  replace o := o.trn t' n_o_u.out
  replace HD := Lib.hid (HD.out.trn HL_u.out t')
  clear t' u
  have u := r'
  clear r'
  replace c0 := r.mem hl
  replace c5 := r.cs5 hl eB.out
  replace c6 := r.cs6 hl eN.out
  go_wp2_with (first | ((with_reducible refine load33 r hl ?_ ?_ ?_); rfl; rfl) | ((with_reducible refine loadCore r hl ?_ ?_ ?_); rfl; rfl) | ((with_reducible refine loadCsr r hl ?_ ?_ ?_); rfl; rfl) | ((with_reducible refine loadTrap t ?_ ?_ ?_); rfl; rfl) | ((with_reducible refine load33 o lo ?_ ?_ ?_); rfl; rfl) | ((with_reducible refine loadCore o lo ?_ ?_ ?_); rfl; rfl) | ((with_reducible refine loadCsr o lo ?_ ?_ ?_); rfl; rfl) | ((with_reducible refine loadTrap u ?_ ?_ ?_); rfl; rfl) | (go_at_call 23; (first | (with_reducible refine (C3.out _).mono ?_)); rintro e w' ⟨rfl, d'⟩; replace r := r.dn d'; replace t := t.dn d'; replace o := o.dn d'; replace u := u.dn d'; replace om := Lib.hid (om.out.dn d'); replace oo := Lib.hid (oo.out.dn d'); replace HD := Lib.hid (HD.out.trans d'); replace c0 := r.mem hl; replace c5 := r.cs5 hl eB.out; replace c6 := r.cs6 hl eN.out; clear d'))
  go_ret
  exact ⟨rfl, HD.out⟩
set_option maxRecDepth 100000 in
set_option maxHeartbeats 2000000 in
theorem lAm_u2 (m : Mc) (a : Int) (a0 : 0 ≤ a) (a1 : a < 4294967296) (d : Int) (d0 : 0 ≤ d) (d1 : d < 18446744073709551616) (g : Int) (g0 : 0 ≤ g) (g1 : g < 4294967296) (W : World) (hm : m.Ok W) (hx : m.xs.length ≤ 600) (hy : m.ys.length ≤ 600) (hs : M.sup m.c = false) (ha : a < M.csr m.c 6) (hb : ¬ M.csr m.c 5 + a < m.xs.length) :
    Calls Try.prog 5 #[.agg (mach m), .int .u32 a, .int .u64 d, .int .u32 g] W fun e W' => e = .returned (.bool true) ∧ Dn W W' := by
  have hl := hm.len
  have om := Lib.hid hm
  have C0 := Lib.hid fun w => awake w
  have CF := Lib.hid fun w => fun (ow : m.Ok w) => rfew m true w ow (by omega) (by omega) (decide_eq_true ⟨hx, hy⟩)
  obtain ⟨B, eB⟩ : ∃ S, M.csr m.c 5 = S := ⟨_, rfl⟩
  obtain ⟨N, eN⟩ : ∃ S, M.csr m.c 6 = S := ⟨_, rfl⟩
  have hB := hm.core.csr 5
  have hN := hm.core.csr 6
  rw [eB] at hB
  rw [eN] at hN
  have B0 := hB.1
  have B1 := hB.2
  have N0 := hN.1
  have N1 := hN.2
  have hu : M.ub m.c = B := by unfold M.ub; rw [hs]; exact eB
  have hun : M.un m.c m.xs.length = N := by unfold M.un; rw [hs]; exact eN
  have hz := M.acz_iff m.c m.xs.length a 1
  rw [hu, hun] at hz
  have ek : M.acz m.c m.xs.length a 1 = 3 := M.acz_bad (fun q => by have := hz.1 q; omega) (by decide)
  have ev : M.atv m.c m.xs.length a 1 = a := M.atv_no (by rw [ek]; decide)
  have ep : M.apa m.c m.xs.length a 1 = 0 := M.apa_no (by rw [ek]; decide)
  obtain ⟨mo, eo⟩ : ∃ x : Mc, x = { m with t := d, c := (m.c.set 3 g).set 16 g } := ⟨_, rfl⟩
  have oo : Hid (mo.Ok W) := Lib.hid (by rw [eo]; exact ⟨(hm.core.set 3 g g0 g1).set 16 g g0 g1, hm.mem, hm.out, d0, d1⟩)
  have lo := oo.out.len
  have hc : ∀ j, M.csr mo.c j = M.csr m.c j := fun j => by rw [eo]; show M.csr ((m.c.set 3 g).set 16 g) j = _; rw [M.csr_low _ 16 j g (by decide), M.csr_low _ 3 j g (by decide)]
  have hox : mo.xs = m.xs := by rw [eo]
  have ho := M.acz_same hc m.xs.length a 1
  have C1 := Lib.hid fun w => fun (ow : m.Ok w) => resolve m a 1 0 3 a w ow (by omega) a0 a1 (by decide) (by decide) ep ek ev
  have C2 := Lib.hid fun w => fun (ow : mo.Ok w) => resolve mo a 1 0 3 a w ow (by rw [hox]; omega) a0 a1 (by decide) (by decide) (by rw [hox, ho.2.1]; exact ep) (by rw [hox, ho.1]; exact ek) (by rw [hox, ho.2.2]; exact ev)
  have C3 := Lib.hid fun w => super_ m.c w hm.core
  rw [hs] at C3
  rw [eN] at ha
  rw [eB] at hb
  have f1 : decide (a < N) = true := decide_eq_true ha
  have f2 : decide (B + a < (m.xs.length : Int)) = false := decide_eq_false hb
  have q1 : ∀ w, (Op.equalIn 10000 35 (.agg #[.int .i64 3, .int .u32 a]) (.agg #[.int .i64 3, .int .u32 a])).run Try.prog w = .ok true w := fun w => by rw [eqTrap]; exact congrArg (fun b => Result.ok b w) (by simp)
  have q2 : ∀ w, (Op.equalIn 10000 35 (.agg #[.int .i64 3, .int .u32 a]) (.agg #[.int .i64 0, .int .u32 0])).run Try.prog w = .ok false w := fun w => by rw [eqTrap]; exact congrArg (fun b => Result.ok b w) (rfl)
  replace eo := Lib.hid eo
  replace eB := Lib.hid eB
  replace eN := Lib.hid eN
  clear hB hN hu hun hz ek ev ep hc hox ho hs
  have HD := Lib.hid (Dn.refl W)
  obtain ⟨x0, b_r, hw0, hb0, r, d', nn⟩ := new_blk W 30 (mach m)
  have HL_r : Hid (W.heap.size ≤ b_r) := Lib.hid (by have := HD.out.size; omega)
  clear nn
  replace om := Lib.hid (om.out.dn d')
  replace oo := Lib.hid (oo.out.dn d')
  replace HD := Lib.hid (HD.out.trans d')
  clear d'
  go_enter Try.func5, Try.ntmps5
  go_wp2_with fail
  rw [← hw0, ← hb0]
  clear hw0 hb0
  have c0 := r.mem hl
  have c5 := r.cs5 hl eB.out
  have c6 := r.cs6 hl eN.out
  go_wp2_with (first | ((with_reducible refine load33 r hl ?_ ?_ ?_); rfl; rfl) | ((with_reducible refine loadCore r hl ?_ ?_ ?_); rfl; rfl) | ((with_reducible refine loadCsr r hl ?_ ?_ ?_); rfl; rfl) | (go_at_call 9; (first | (with_reducible refine (C0.out _).mono ?_)); rintro e w' ⟨rfl, d'⟩; replace r := r.dn d'; replace om := Lib.hid (om.out.dn d'); replace oo := Lib.hid (oo.out.dn d'); replace HD := Lib.hid (HD.out.trans d'); replace c0 := r.mem hl; replace c5 := r.cs5 hl eB.out; replace c6 := r.cs6 hl eN.out; clear d') | (go_at_call 10; (first | (with_reducible refine (CF.out _ om.out).mono ?_)); rintro e w' ⟨rfl, d'⟩; replace r := r.dn d'; replace om := Lib.hid (om.out.dn d'); replace oo := Lib.hid (oo.out.dn d'); replace HD := Lib.hid (HD.out.trans d'); replace c0 := r.mem hl; replace c5 := r.cs5 hl eB.out; replace c6 := r.cs6 hl eN.out; clear d') | (go_at_call 12; (first | (with_reducible refine (C1.out _ om.out).mono ?_)); rintro e w' ⟨rfl, d'⟩; replace r := r.dn d'; replace om := Lib.hid (om.out.dn d'); replace oo := Lib.hid (oo.out.dn d'); replace HD := Lib.hid (HD.out.trans d'); replace c0 := r.mem hl; replace c5 := r.cs5 hl eB.out; replace c6 := r.cs6 hl eN.out; clear d') | ((with_reducible refine allocTrap (b := w'.heap.size) rfl ?_ ?_); rfl; refine Hid.out ?_))
  refine Lib.hid ?_
  obtain ⟨x', b_t, hw, hb, t, d', nn⟩ := new_blk w' 35 #[.int .i64 0, .int .u32 0]
  have n_r_t := Lib.hid (nn _ r.lt)
  have HL_t : Hid (W.heap.size ≤ b_t) := Lib.hid (by have := HD.out.size; omega)
  rw [← hw, ← hb]
  clear hw hb nn
  replace r := r.dn d'
  replace om := Lib.hid (om.out.dn d')
  replace oo := Lib.hid (oo.out.dn d')
  replace HD := Lib.hid (HD.out.trans d')
  replace c0 := r.mem hl
  replace c5 := r.cs5 hl eB.out
  replace c6 := r.cs6 hl eN.out
  clear d'
  go_wp2_with (first | ((with_reducible refine load33 r hl ?_ ?_ ?_); rfl; rfl) | ((with_reducible refine loadCore r hl ?_ ?_ ?_); rfl; rfl) | ((with_reducible refine loadCsr r hl ?_ ?_ ?_); rfl; rfl) | ((with_reducible refine loadTrap t ?_ ?_ ?_); rfl; rfl) | ((with_reducible refine storeTrap (k := 3) (v := a) t ?_ ?_ ?_ ?_); rfl; rfl; rfl; intro w' r' t'; refine Hid.out ?_))
  refine Lib.hid ?_
  replace om := Lib.hid (om.out.trn t (NoU8.trap _ _) t')
  replace oo := Lib.hid (oo.out.trn t (NoU8.trap _ _) t')
  replace r := r.trn t' n_r_t.out
  replace HD := Lib.hid (HD.out.trn HL_t.out t')
  clear t' t
  have t := r'
  clear r'
  replace c0 := r.mem hl
  replace c5 := r.cs5 hl eB.out
  replace c6 := r.cs6 hl eN.out
  go_wp2_with (first | ((with_reducible refine load33 r hl ?_ ?_ ?_); rfl; rfl) | ((with_reducible refine loadCore r hl ?_ ?_ ?_); rfl; rfl) | ((with_reducible refine loadCsr r hl ?_ ?_ ?_); rfl; rfl) | ((with_reducible refine loadTrap t ?_ ?_ ?_); rfl; rfl) | ((with_reducible refine alloc33 (b := w'.heap.size) rfl ?_ ?_); rfl; refine Hid.out ?_))
  refine Lib.hid ?_
  obtain ⟨x', b_o, hw, hb, o, d', nn⟩ := new_blk w' 30 (mach Mc.zero)
  have n_r_o := Lib.hid (nn _ r.lt)
  have n_t_o := Lib.hid (nn _ t.lt)
  have HL_o : Hid (W.heap.size ≤ b_o) := Lib.hid (by have := HD.out.size; omega)
  rw [← hw, ← hb]
  clear hw hb nn
  replace r := r.dn d'
  replace t := t.dn d'
  replace om := Lib.hid (om.out.dn d')
  replace oo := Lib.hid (oo.out.dn d')
  replace HD := Lib.hid (HD.out.trans d')
  replace c0 := r.mem hl
  replace c5 := r.cs5 hl eB.out
  replace c6 := r.cs6 hl eN.out
  clear d'
  go_wp2_with (first | ((with_reducible refine load33 r hl ?_ ?_ ?_); rfl; rfl) | ((with_reducible refine loadCore r hl ?_ ?_ ?_); rfl; rfl) | ((with_reducible refine loadCsr r hl ?_ ?_ ?_); rfl; rfl) | ((with_reducible refine loadTrap t ?_ ?_ ?_); rfl; rfl) | ((with_reducible refine load33 o zlen ?_ ?_ ?_); rfl; rfl) | ((with_reducible refine loadCore o zlen ?_ ?_ ?_); rfl; rfl) | ((with_reducible refine loadCsr o zlen ?_ ?_ ?_); rfl; rfl) | ((with_reducible refine store33 m hl o zlen ?_ ?_ ?_ ?_); rfl; rfl; rfl; intro w' r' t'; refine Hid.out ?_))
  refine Lib.hid ?_
  replace om := Lib.hid (om.out.trn o (NoU8.mach _) t')
  replace oo := Lib.hid (oo.out.trn o (NoU8.mach _) t')
  replace r := r.trn t' n_r_o.out
  replace t := t.trn t' n_t_o.out
  replace HD := Lib.hid (HD.out.trn HL_o.out t')
  clear t' o
  have o := r'
  clear r'
  replace c0 := r.mem hl
  replace c5 := r.cs5 hl eB.out
  replace c6 := r.cs6 hl eN.out
  go_wp2_with (first | ((with_reducible refine load33 r hl ?_ ?_ ?_); rfl; rfl) | ((with_reducible refine loadCore r hl ?_ ?_ ?_); rfl; rfl) | ((with_reducible refine loadCsr r hl ?_ ?_ ?_); rfl; rfl) | ((with_reducible refine loadTrap t ?_ ?_ ?_); rfl; rfl) | ((with_reducible refine load33 o hl ?_ ?_ ?_); rfl; rfl) | ((with_reducible refine loadCore o hl ?_ ?_ ?_); rfl; rfl) | ((with_reducible refine loadCsr o hl ?_ ?_ ?_); rfl; rfl) | ((with_reducible refine storeTime (u := d) o hl ?_ ?_ ?_ ?_); rfl; rfl; rfl; intro w' r' t'; refine Hid.out ?_))
  refine Lib.hid ?_
  replace om := Lib.hid (om.out.trn o (NoU8.mach _) t')
  replace oo := Lib.hid (oo.out.trn o (NoU8.mach _) t')
  replace r := r.trn t' n_r_o.out
  replace t := t.trn t' n_t_o.out
  replace HD := Lib.hid (HD.out.trn HL_o.out t')
  clear t' o
  have o := r'
  clear r'
  replace c0 := r.mem hl
  replace c5 := r.cs5 hl eB.out
  replace c6 := r.cs6 hl eN.out
  go_wp2_with (first | ((with_reducible refine load33 r hl ?_ ?_ ?_); rfl; rfl) | ((with_reducible refine loadCore r hl ?_ ?_ ?_); rfl; rfl) | ((with_reducible refine loadCsr r hl ?_ ?_ ?_); rfl; rfl) | ((with_reducible refine loadTrap t ?_ ?_ ?_); rfl; rfl) | ((with_reducible refine load33 o (show ({ m with t := d } : Mc).c.length = 29 from hl) ?_ ?_ ?_); rfl; rfl) | ((with_reducible refine loadCore o (show ({ m with t := d } : Mc).c.length = 29 from hl) ?_ ?_ ?_); rfl; rfl) | ((with_reducible refine loadCsr o (show ({ m with t := d } : Mc).c.length = 29 from hl) ?_ ?_ ?_); rfl; rfl) | ((with_reducible refine storeWord (i := 3) (u := g) o (show ({ m with t := d } : Mc).c.length = 29 from hl) ?_ ?_ ?_ rfl ?_); rfl; rfl; rfl; intro w' r' t'; refine Hid.out ?_))
  refine Lib.hid ?_
  replace om := Lib.hid (om.out.trn o (NoU8.mach _) t')
  replace oo := Lib.hid (oo.out.trn o (NoU8.mach _) t')
  replace r := r.trn t' n_r_o.out
  replace t := t.trn t' n_t_o.out
  replace HD := Lib.hid (HD.out.trn HL_o.out t')
  clear t' o
  have o := r'
  clear r'
  replace c0 := r.mem hl
  replace c5 := r.cs5 hl eB.out
  replace c6 := r.cs6 hl eN.out
  replace o : Blk w' b_o 30 (mach { m with t := d, c := m.c.set 3 g }) := o
  go_wp2_with (first | ((with_reducible refine load33 r hl ?_ ?_ ?_); rfl; rfl) | ((with_reducible refine loadCore r hl ?_ ?_ ?_); rfl; rfl) | ((with_reducible refine loadCsr r hl ?_ ?_ ?_); rfl; rfl) | ((with_reducible refine loadTrap t ?_ ?_ ?_); rfl; rfl) | ((with_reducible refine load33 o (show ({ m with t := d, c := m.c.set 3 g } : Mc).c.length = 29 by simp [hl]) ?_ ?_ ?_); rfl; rfl) | ((with_reducible refine loadCore o (show ({ m with t := d, c := m.c.set 3 g } : Mc).c.length = 29 by simp [hl]) ?_ ?_ ?_); rfl; rfl) | ((with_reducible refine loadCsr o (show ({ m with t := d, c := m.c.set 3 g } : Mc).c.length = 29 by simp [hl]) ?_ ?_ ?_); rfl; rfl) | ((with_reducible refine storeWord (i := 16) (u := g) o (show ({ m with t := d, c := m.c.set 3 g } : Mc).c.length = 29 by simp [hl]) ?_ ?_ ?_ rfl ?_); rfl; rfl; rfl; intro w' r' t'; refine Hid.out ?_))
  refine Lib.hid ?_
  replace om := Lib.hid (om.out.trn o (NoU8.mach _) t')
  replace oo := Lib.hid (oo.out.trn o (NoU8.mach _) t')
  replace r := r.trn t' n_r_o.out
  replace t := t.trn t' n_t_o.out
  replace HD := Lib.hid (HD.out.trn HL_o.out t')
  clear t' o
  have o := r'
  clear r'
  replace c0 := r.mem hl
  replace c5 := r.cs5 hl eB.out
  replace c6 := r.cs6 hl eN.out
  replace o : Blk w' b_o 30 (mach mo) := by rw [eo.out]; exact o
  go_wp2_with (first | ((with_reducible refine load33 r hl ?_ ?_ ?_); rfl; rfl) | ((with_reducible refine loadCore r hl ?_ ?_ ?_); rfl; rfl) | ((with_reducible refine loadCsr r hl ?_ ?_ ?_); rfl; rfl) | ((with_reducible refine loadTrap t ?_ ?_ ?_); rfl; rfl) | ((with_reducible refine load33 o lo ?_ ?_ ?_); rfl; rfl) | ((with_reducible refine loadCore o lo ?_ ?_ ?_); rfl; rfl) | ((with_reducible refine loadCsr o lo ?_ ?_ ?_); rfl; rfl) | (go_at_call 12; (first | (with_reducible refine (C2.out _ oo.out).mono ?_)); rintro e w' ⟨rfl, d'⟩; replace r := r.dn d'; replace t := t.dn d'; replace o := o.dn d'; replace om := Lib.hid (om.out.dn d'); replace oo := Lib.hid (oo.out.dn d'); replace HD := Lib.hid (HD.out.trans d'); replace c0 := r.mem hl; replace c5 := r.cs5 hl eB.out; replace c6 := r.cs6 hl eN.out; clear d') | ((with_reducible refine allocTrap (b := w'.heap.size) rfl ?_ ?_); rfl; refine Hid.out ?_))
  refine Lib.hid ?_
  obtain ⟨x', b_u, hw, hb, u, d', nn⟩ := new_blk w' 35 #[.int .i64 0, .int .u32 0]
  have n_r_u := Lib.hid (nn _ r.lt)
  have n_t_u := Lib.hid (nn _ t.lt)
  have n_o_u := Lib.hid (nn _ o.lt)
  have HL_u : Hid (W.heap.size ≤ b_u) := Lib.hid (by have := HD.out.size; omega)
  rw [← hw, ← hb]
  clear hw hb nn
  replace r := r.dn d'
  replace t := t.dn d'
  replace o := o.dn d'
  replace om := Lib.hid (om.out.dn d')
  replace oo := Lib.hid (oo.out.dn d')
  replace HD := Lib.hid (HD.out.trans d')
  replace c0 := r.mem hl
  replace c5 := r.cs5 hl eB.out
  replace c6 := r.cs6 hl eN.out
  clear d'
  go_wp2_with (first | ((with_reducible refine load33 r hl ?_ ?_ ?_); rfl; rfl) | ((with_reducible refine loadCore r hl ?_ ?_ ?_); rfl; rfl) | ((with_reducible refine loadCsr r hl ?_ ?_ ?_); rfl; rfl) | ((with_reducible refine loadTrap t ?_ ?_ ?_); rfl; rfl) | ((with_reducible refine load33 o lo ?_ ?_ ?_); rfl; rfl) | ((with_reducible refine loadCore o lo ?_ ?_ ?_); rfl; rfl) | ((with_reducible refine loadCsr o lo ?_ ?_ ?_); rfl; rfl) | ((with_reducible refine loadTrap u ?_ ?_ ?_); rfl; rfl) | ((with_reducible refine storeTrap (k := 3) (v := a) u ?_ ?_ ?_ ?_); rfl; rfl; rfl; intro w' r' t'; refine Hid.out ?_))
  refine Lib.hid ?_
  replace om := Lib.hid (om.out.trn u (NoU8.trap _ _) t')
  replace oo := Lib.hid (oo.out.trn u (NoU8.trap _ _) t')
  replace r := r.trn t' n_r_u.out
  replace t := t.trn t' n_t_u.out
  replace o := o.trn t' n_o_u.out
  replace HD := Lib.hid (HD.out.trn HL_u.out t')
  clear t' u
  have u := r'
  clear r'
  replace c0 := r.mem hl
  replace c5 := r.cs5 hl eB.out
  replace c6 := r.cs6 hl eN.out
  go_wp2_with (first | ((with_reducible refine load33 r hl ?_ ?_ ?_); rfl; rfl) | ((with_reducible refine loadCore r hl ?_ ?_ ?_); rfl; rfl) | ((with_reducible refine loadCsr r hl ?_ ?_ ?_); rfl; rfl) | ((with_reducible refine loadTrap t ?_ ?_ ?_); rfl; rfl) | ((with_reducible refine load33 o lo ?_ ?_ ?_); rfl; rfl) | ((with_reducible refine loadCore o lo ?_ ?_ ?_); rfl; rfl) | ((with_reducible refine loadCsr o lo ?_ ?_ ?_); rfl; rfl) | ((with_reducible refine loadTrap u ?_ ?_ ?_); rfl; rfl) | (go_at_call 23; (first | (with_reducible refine (C3.out _).mono ?_)); rintro e w' ⟨rfl, d'⟩; replace r := r.dn d'; replace t := t.dn d'; replace o := o.dn d'; replace u := u.dn d'; replace om := Lib.hid (om.out.dn d'); replace oo := Lib.hid (oo.out.dn d'); replace HD := Lib.hid (HD.out.trans d'); replace c0 := r.mem hl; replace c5 := r.cs5 hl eB.out; replace c6 := r.cs6 hl eN.out; clear d'))
  go_ret
  exact ⟨rfl, HD.out⟩
set_option maxRecDepth 100000 in
set_option maxHeartbeats 2000000 in
theorem lAm_u3 (m : Mc) (a : Int) (a0 : 0 ≤ a) (a1 : a < 4294967296) (d : Int) (d0 : 0 ≤ d) (d1 : d < 18446744073709551616) (g : Int) (g0 : 0 ≤ g) (g1 : g < 4294967296) (W : World) (hm : m.Ok W) (hx : m.xs.length ≤ 600) (hy : m.ys.length ≤ 600) (hs : M.sup m.c = false) (ha : ¬ a < M.csr m.c 6) :
    Calls Try.prog 5 #[.agg (mach m), .int .u32 a, .int .u64 d, .int .u32 g] W fun e W' => e = .returned (.bool true) ∧ Dn W W' := by
  have hl := hm.len
  have om := Lib.hid hm
  have C0 := Lib.hid fun w => awake w
  have CF := Lib.hid fun w => fun (ow : m.Ok w) => rfew m true w ow (by omega) (by omega) (decide_eq_true ⟨hx, hy⟩)
  obtain ⟨B, eB⟩ : ∃ S, M.csr m.c 5 = S := ⟨_, rfl⟩
  obtain ⟨N, eN⟩ : ∃ S, M.csr m.c 6 = S := ⟨_, rfl⟩
  have hB := hm.core.csr 5
  have hN := hm.core.csr 6
  rw [eB] at hB
  rw [eN] at hN
  have B0 := hB.1
  have B1 := hB.2
  have N0 := hN.1
  have N1 := hN.2
  have hu : M.ub m.c = B := by unfold M.ub; rw [hs]; exact eB
  have hun : M.un m.c m.xs.length = N := by unfold M.un; rw [hs]; exact eN
  have hz := M.acz_iff m.c m.xs.length a 1
  rw [hu, hun] at hz
  have ek : M.acz m.c m.xs.length a 1 = 3 := M.acz_bad (fun q => by have := hz.1 q; omega) (by decide)
  have ev : M.atv m.c m.xs.length a 1 = a := M.atv_no (by rw [ek]; decide)
  have ep : M.apa m.c m.xs.length a 1 = 0 := M.apa_no (by rw [ek]; decide)
  obtain ⟨mo, eo⟩ : ∃ x : Mc, x = { m with t := d, c := (m.c.set 3 g).set 16 g } := ⟨_, rfl⟩
  have oo : Hid (mo.Ok W) := Lib.hid (by rw [eo]; exact ⟨(hm.core.set 3 g g0 g1).set 16 g g0 g1, hm.mem, hm.out, d0, d1⟩)
  have lo := oo.out.len
  have hc : ∀ j, M.csr mo.c j = M.csr m.c j := fun j => by rw [eo]; show M.csr ((m.c.set 3 g).set 16 g) j = _; rw [M.csr_low _ 16 j g (by decide), M.csr_low _ 3 j g (by decide)]
  have hox : mo.xs = m.xs := by rw [eo]
  have ho := M.acz_same hc m.xs.length a 1
  have C1 := Lib.hid fun w => fun (ow : m.Ok w) => resolve m a 1 0 3 a w ow (by omega) a0 a1 (by decide) (by decide) ep ek ev
  have C2 := Lib.hid fun w => fun (ow : mo.Ok w) => resolve mo a 1 0 3 a w ow (by rw [hox]; omega) a0 a1 (by decide) (by decide) (by rw [hox, ho.2.1]; exact ep) (by rw [hox, ho.1]; exact ek) (by rw [hox, ho.2.2]; exact ev)
  have C3 := Lib.hid fun w => super_ m.c w hm.core
  rw [hs] at C3
  rw [eN] at ha
  have f1 : decide (a < N) = false := decide_eq_false ha
  have q1 : ∀ w, (Op.equalIn 10000 35 (.agg #[.int .i64 3, .int .u32 a]) (.agg #[.int .i64 3, .int .u32 a])).run Try.prog w = .ok true w := fun w => by rw [eqTrap]; exact congrArg (fun b => Result.ok b w) (by simp)
  have q2 : ∀ w, (Op.equalIn 10000 35 (.agg #[.int .i64 3, .int .u32 a]) (.agg #[.int .i64 0, .int .u32 0])).run Try.prog w = .ok false w := fun w => by rw [eqTrap]; exact congrArg (fun b => Result.ok b w) (rfl)
  replace eo := Lib.hid eo
  replace eB := Lib.hid eB
  replace eN := Lib.hid eN
  clear hB hN hu hun hz ek ev ep hc hox ho hs
  have HD := Lib.hid (Dn.refl W)
  obtain ⟨x0, b_r, hw0, hb0, r, d', nn⟩ := new_blk W 30 (mach m)
  have HL_r : Hid (W.heap.size ≤ b_r) := Lib.hid (by have := HD.out.size; omega)
  clear nn
  replace om := Lib.hid (om.out.dn d')
  replace oo := Lib.hid (oo.out.dn d')
  replace HD := Lib.hid (HD.out.trans d')
  clear d'
  go_enter Try.func5, Try.ntmps5
  go_wp2_with fail
  rw [← hw0, ← hb0]
  clear hw0 hb0
  have c0 := r.mem hl
  have c5 := r.cs5 hl eB.out
  have c6 := r.cs6 hl eN.out
  go_wp2_with (first | ((with_reducible refine load33 r hl ?_ ?_ ?_); rfl; rfl) | ((with_reducible refine loadCore r hl ?_ ?_ ?_); rfl; rfl) | ((with_reducible refine loadCsr r hl ?_ ?_ ?_); rfl; rfl) | (go_at_call 9; (first | (with_reducible refine (C0.out _).mono ?_)); rintro e w' ⟨rfl, d'⟩; replace r := r.dn d'; replace om := Lib.hid (om.out.dn d'); replace oo := Lib.hid (oo.out.dn d'); replace HD := Lib.hid (HD.out.trans d'); replace c0 := r.mem hl; replace c5 := r.cs5 hl eB.out; replace c6 := r.cs6 hl eN.out; clear d') | (go_at_call 10; (first | (with_reducible refine (CF.out _ om.out).mono ?_)); rintro e w' ⟨rfl, d'⟩; replace r := r.dn d'; replace om := Lib.hid (om.out.dn d'); replace oo := Lib.hid (oo.out.dn d'); replace HD := Lib.hid (HD.out.trans d'); replace c0 := r.mem hl; replace c5 := r.cs5 hl eB.out; replace c6 := r.cs6 hl eN.out; clear d') | (go_at_call 12; (first | (with_reducible refine (C1.out _ om.out).mono ?_)); rintro e w' ⟨rfl, d'⟩; replace r := r.dn d'; replace om := Lib.hid (om.out.dn d'); replace oo := Lib.hid (oo.out.dn d'); replace HD := Lib.hid (HD.out.trans d'); replace c0 := r.mem hl; replace c5 := r.cs5 hl eB.out; replace c6 := r.cs6 hl eN.out; clear d') | ((with_reducible refine allocTrap (b := w'.heap.size) rfl ?_ ?_); rfl; refine Hid.out ?_))
  refine Lib.hid ?_
  obtain ⟨x', b_t, hw, hb, t, d', nn⟩ := new_blk w' 35 #[.int .i64 0, .int .u32 0]
  have n_r_t := Lib.hid (nn _ r.lt)
  have HL_t : Hid (W.heap.size ≤ b_t) := Lib.hid (by have := HD.out.size; omega)
  rw [← hw, ← hb]
  clear hw hb nn
  replace r := r.dn d'
  replace om := Lib.hid (om.out.dn d')
  replace oo := Lib.hid (oo.out.dn d')
  replace HD := Lib.hid (HD.out.trans d')
  replace c0 := r.mem hl
  replace c5 := r.cs5 hl eB.out
  replace c6 := r.cs6 hl eN.out
  clear d'
  go_wp2_with (first | ((with_reducible refine load33 r hl ?_ ?_ ?_); rfl; rfl) | ((with_reducible refine loadCore r hl ?_ ?_ ?_); rfl; rfl) | ((with_reducible refine loadCsr r hl ?_ ?_ ?_); rfl; rfl) | ((with_reducible refine loadTrap t ?_ ?_ ?_); rfl; rfl) | ((with_reducible refine storeTrap (k := 3) (v := a) t ?_ ?_ ?_ ?_); rfl; rfl; rfl; intro w' r' t'; refine Hid.out ?_))
  refine Lib.hid ?_
  replace om := Lib.hid (om.out.trn t (NoU8.trap _ _) t')
  replace oo := Lib.hid (oo.out.trn t (NoU8.trap _ _) t')
  replace r := r.trn t' n_r_t.out
  replace HD := Lib.hid (HD.out.trn HL_t.out t')
  clear t' t
  have t := r'
  clear r'
  replace c0 := r.mem hl
  replace c5 := r.cs5 hl eB.out
  replace c6 := r.cs6 hl eN.out
  go_wp2_with (first | ((with_reducible refine load33 r hl ?_ ?_ ?_); rfl; rfl) | ((with_reducible refine loadCore r hl ?_ ?_ ?_); rfl; rfl) | ((with_reducible refine loadCsr r hl ?_ ?_ ?_); rfl; rfl) | ((with_reducible refine loadTrap t ?_ ?_ ?_); rfl; rfl) | ((with_reducible refine alloc33 (b := w'.heap.size) rfl ?_ ?_); rfl; refine Hid.out ?_))
  refine Lib.hid ?_
  obtain ⟨x', b_o, hw, hb, o, d', nn⟩ := new_blk w' 30 (mach Mc.zero)
  have n_r_o := Lib.hid (nn _ r.lt)
  have n_t_o := Lib.hid (nn _ t.lt)
  have HL_o : Hid (W.heap.size ≤ b_o) := Lib.hid (by have := HD.out.size; omega)
  rw [← hw, ← hb]
  clear hw hb nn
  replace r := r.dn d'
  replace t := t.dn d'
  replace om := Lib.hid (om.out.dn d')
  replace oo := Lib.hid (oo.out.dn d')
  replace HD := Lib.hid (HD.out.trans d')
  replace c0 := r.mem hl
  replace c5 := r.cs5 hl eB.out
  replace c6 := r.cs6 hl eN.out
  clear d'
  go_wp2_with (first | ((with_reducible refine load33 r hl ?_ ?_ ?_); rfl; rfl) | ((with_reducible refine loadCore r hl ?_ ?_ ?_); rfl; rfl) | ((with_reducible refine loadCsr r hl ?_ ?_ ?_); rfl; rfl) | ((with_reducible refine loadTrap t ?_ ?_ ?_); rfl; rfl) | ((with_reducible refine load33 o zlen ?_ ?_ ?_); rfl; rfl) | ((with_reducible refine loadCore o zlen ?_ ?_ ?_); rfl; rfl) | ((with_reducible refine loadCsr o zlen ?_ ?_ ?_); rfl; rfl) | ((with_reducible refine store33 m hl o zlen ?_ ?_ ?_ ?_); rfl; rfl; rfl; intro w' r' t'; refine Hid.out ?_))
  refine Lib.hid ?_
  replace om := Lib.hid (om.out.trn o (NoU8.mach _) t')
  replace oo := Lib.hid (oo.out.trn o (NoU8.mach _) t')
  replace r := r.trn t' n_r_o.out
  replace t := t.trn t' n_t_o.out
  replace HD := Lib.hid (HD.out.trn HL_o.out t')
  clear t' o
  have o := r'
  clear r'
  replace c0 := r.mem hl
  replace c5 := r.cs5 hl eB.out
  replace c6 := r.cs6 hl eN.out
  go_wp2_with (first | ((with_reducible refine load33 r hl ?_ ?_ ?_); rfl; rfl) | ((with_reducible refine loadCore r hl ?_ ?_ ?_); rfl; rfl) | ((with_reducible refine loadCsr r hl ?_ ?_ ?_); rfl; rfl) | ((with_reducible refine loadTrap t ?_ ?_ ?_); rfl; rfl) | ((with_reducible refine load33 o hl ?_ ?_ ?_); rfl; rfl) | ((with_reducible refine loadCore o hl ?_ ?_ ?_); rfl; rfl) | ((with_reducible refine loadCsr o hl ?_ ?_ ?_); rfl; rfl) | ((with_reducible refine storeTime (u := d) o hl ?_ ?_ ?_ ?_); rfl; rfl; rfl; intro w' r' t'; refine Hid.out ?_))
  refine Lib.hid ?_
  replace om := Lib.hid (om.out.trn o (NoU8.mach _) t')
  replace oo := Lib.hid (oo.out.trn o (NoU8.mach _) t')
  replace r := r.trn t' n_r_o.out
  replace t := t.trn t' n_t_o.out
  replace HD := Lib.hid (HD.out.trn HL_o.out t')
  clear t' o
  have o := r'
  clear r'
  replace c0 := r.mem hl
  replace c5 := r.cs5 hl eB.out
  replace c6 := r.cs6 hl eN.out
  go_wp2_with (first | ((with_reducible refine load33 r hl ?_ ?_ ?_); rfl; rfl) | ((with_reducible refine loadCore r hl ?_ ?_ ?_); rfl; rfl) | ((with_reducible refine loadCsr r hl ?_ ?_ ?_); rfl; rfl) | ((with_reducible refine loadTrap t ?_ ?_ ?_); rfl; rfl) | ((with_reducible refine load33 o (show ({ m with t := d } : Mc).c.length = 29 from hl) ?_ ?_ ?_); rfl; rfl) | ((with_reducible refine loadCore o (show ({ m with t := d } : Mc).c.length = 29 from hl) ?_ ?_ ?_); rfl; rfl) | ((with_reducible refine loadCsr o (show ({ m with t := d } : Mc).c.length = 29 from hl) ?_ ?_ ?_); rfl; rfl) | ((with_reducible refine storeWord (i := 3) (u := g) o (show ({ m with t := d } : Mc).c.length = 29 from hl) ?_ ?_ ?_ rfl ?_); rfl; rfl; rfl; intro w' r' t'; refine Hid.out ?_))
  refine Lib.hid ?_
  replace om := Lib.hid (om.out.trn o (NoU8.mach _) t')
  replace oo := Lib.hid (oo.out.trn o (NoU8.mach _) t')
  replace r := r.trn t' n_r_o.out
  replace t := t.trn t' n_t_o.out
  replace HD := Lib.hid (HD.out.trn HL_o.out t')
  clear t' o
  have o := r'
  clear r'
  replace c0 := r.mem hl
  replace c5 := r.cs5 hl eB.out
  replace c6 := r.cs6 hl eN.out
  replace o : Blk w' b_o 30 (mach { m with t := d, c := m.c.set 3 g }) := o
  go_wp2_with (first | ((with_reducible refine load33 r hl ?_ ?_ ?_); rfl; rfl) | ((with_reducible refine loadCore r hl ?_ ?_ ?_); rfl; rfl) | ((with_reducible refine loadCsr r hl ?_ ?_ ?_); rfl; rfl) | ((with_reducible refine loadTrap t ?_ ?_ ?_); rfl; rfl) | ((with_reducible refine load33 o (show ({ m with t := d, c := m.c.set 3 g } : Mc).c.length = 29 by simp [hl]) ?_ ?_ ?_); rfl; rfl) | ((with_reducible refine loadCore o (show ({ m with t := d, c := m.c.set 3 g } : Mc).c.length = 29 by simp [hl]) ?_ ?_ ?_); rfl; rfl) | ((with_reducible refine loadCsr o (show ({ m with t := d, c := m.c.set 3 g } : Mc).c.length = 29 by simp [hl]) ?_ ?_ ?_); rfl; rfl) | ((with_reducible refine storeWord (i := 16) (u := g) o (show ({ m with t := d, c := m.c.set 3 g } : Mc).c.length = 29 by simp [hl]) ?_ ?_ ?_ rfl ?_); rfl; rfl; rfl; intro w' r' t'; refine Hid.out ?_))
  refine Lib.hid ?_
  replace om := Lib.hid (om.out.trn o (NoU8.mach _) t')
  replace oo := Lib.hid (oo.out.trn o (NoU8.mach _) t')
  replace r := r.trn t' n_r_o.out
  replace t := t.trn t' n_t_o.out
  replace HD := Lib.hid (HD.out.trn HL_o.out t')
  clear t' o
  have o := r'
  clear r'
  replace c0 := r.mem hl
  replace c5 := r.cs5 hl eB.out
  replace c6 := r.cs6 hl eN.out
  replace o : Blk w' b_o 30 (mach mo) := by rw [eo.out]; exact o
  go_wp2_with (first | ((with_reducible refine load33 r hl ?_ ?_ ?_); rfl; rfl) | ((with_reducible refine loadCore r hl ?_ ?_ ?_); rfl; rfl) | ((with_reducible refine loadCsr r hl ?_ ?_ ?_); rfl; rfl) | ((with_reducible refine loadTrap t ?_ ?_ ?_); rfl; rfl) | ((with_reducible refine load33 o lo ?_ ?_ ?_); rfl; rfl) | ((with_reducible refine loadCore o lo ?_ ?_ ?_); rfl; rfl) | ((with_reducible refine loadCsr o lo ?_ ?_ ?_); rfl; rfl) | (go_at_call 12; (first | (with_reducible refine (C2.out _ oo.out).mono ?_)); rintro e w' ⟨rfl, d'⟩; replace r := r.dn d'; replace t := t.dn d'; replace o := o.dn d'; replace om := Lib.hid (om.out.dn d'); replace oo := Lib.hid (oo.out.dn d'); replace HD := Lib.hid (HD.out.trans d'); replace c0 := r.mem hl; replace c5 := r.cs5 hl eB.out; replace c6 := r.cs6 hl eN.out; clear d') | ((with_reducible refine allocTrap (b := w'.heap.size) rfl ?_ ?_); rfl; refine Hid.out ?_))
  refine Lib.hid ?_
  obtain ⟨x', b_u, hw, hb, u, d', nn⟩ := new_blk w' 35 #[.int .i64 0, .int .u32 0]
  have n_r_u := Lib.hid (nn _ r.lt)
  have n_t_u := Lib.hid (nn _ t.lt)
  have n_o_u := Lib.hid (nn _ o.lt)
  have HL_u : Hid (W.heap.size ≤ b_u) := Lib.hid (by have := HD.out.size; omega)
  rw [← hw, ← hb]
  clear hw hb nn
  replace r := r.dn d'
  replace t := t.dn d'
  replace o := o.dn d'
  replace om := Lib.hid (om.out.dn d')
  replace oo := Lib.hid (oo.out.dn d')
  replace HD := Lib.hid (HD.out.trans d')
  replace c0 := r.mem hl
  replace c5 := r.cs5 hl eB.out
  replace c6 := r.cs6 hl eN.out
  clear d'
  go_wp2_with (first | ((with_reducible refine load33 r hl ?_ ?_ ?_); rfl; rfl) | ((with_reducible refine loadCore r hl ?_ ?_ ?_); rfl; rfl) | ((with_reducible refine loadCsr r hl ?_ ?_ ?_); rfl; rfl) | ((with_reducible refine loadTrap t ?_ ?_ ?_); rfl; rfl) | ((with_reducible refine load33 o lo ?_ ?_ ?_); rfl; rfl) | ((with_reducible refine loadCore o lo ?_ ?_ ?_); rfl; rfl) | ((with_reducible refine loadCsr o lo ?_ ?_ ?_); rfl; rfl) | ((with_reducible refine loadTrap u ?_ ?_ ?_); rfl; rfl) | ((with_reducible refine storeTrap (k := 3) (v := a) u ?_ ?_ ?_ ?_); rfl; rfl; rfl; intro w' r' t'; refine Hid.out ?_))
  refine Lib.hid ?_
  replace om := Lib.hid (om.out.trn u (NoU8.trap _ _) t')
  replace oo := Lib.hid (oo.out.trn u (NoU8.trap _ _) t')
  replace r := r.trn t' n_r_u.out
  replace t := t.trn t' n_t_u.out
  replace o := o.trn t' n_o_u.out
  replace HD := Lib.hid (HD.out.trn HL_u.out t')
  clear t' u
  have u := r'
  clear r'
  replace c0 := r.mem hl
  replace c5 := r.cs5 hl eB.out
  replace c6 := r.cs6 hl eN.out
  go_wp2_with (first | ((with_reducible refine load33 r hl ?_ ?_ ?_); rfl; rfl) | ((with_reducible refine loadCore r hl ?_ ?_ ?_); rfl; rfl) | ((with_reducible refine loadCsr r hl ?_ ?_ ?_); rfl; rfl) | ((with_reducible refine loadTrap t ?_ ?_ ?_); rfl; rfl) | ((with_reducible refine load33 o lo ?_ ?_ ?_); rfl; rfl) | ((with_reducible refine loadCore o lo ?_ ?_ ?_); rfl; rfl) | ((with_reducible refine loadCsr o lo ?_ ?_ ?_); rfl; rfl) | ((with_reducible refine loadTrap u ?_ ?_ ?_); rfl; rfl) | (go_at_call 23; (first | (with_reducible refine (C3.out _).mono ?_)); rintro e w' ⟨rfl, d'⟩; replace r := r.dn d'; replace t := t.dn d'; replace o := o.dn d'; replace u := u.dn d'; replace om := Lib.hid (om.out.dn d'); replace oo := Lib.hid (oo.out.dn d'); replace HD := Lib.hid (HD.out.trans d'); replace c0 := r.mem hl; replace c5 := r.cs5 hl eB.out; replace c6 := r.cs6 hl eN.out; clear d'))
  go_ret
  exact ⟨rfl, HD.out⟩
theorem lAm (m : Mc) (a : Int) (a0 : 0 ≤ a) (a1 : a < 4294967296) (d : Int) (d0 : 0 ≤ d) (d1 : d < 18446744073709551616) (g : Int) (g0 : 0 ≤ g) (g1 : g < 4294967296) (W : World) (hm : m.Ok W) (hx : m.xs.length ≤ 9223372036854775807) (hy : m.ys.length ≤ 9223372036854775807) :
    Calls Try.prog 5 #[.agg (mach m), .int .u32 a, .int .u64 d, .int .u32 g] W fun e W' => e = .returned (.bool true) ∧ Dn W W' := by
  by_cases hb : m.xs.length ≤ 600 ∧ m.ys.length ≤ 600
  · cases hs : M.sup m.c
    · by_cases ha : a < M.csr m.c 6
      · by_cases hc : M.csr m.c 5 + a < m.xs.length
        · exact lAm_u1 m a a0 a1 d d0 d1 g g0 g1 W hm hb.1 hb.2 hs ha hc
        · exact lAm_u2 m a a0 a1 d d0 d1 g g0 g1 W hm hb.1 hb.2 hs ha hc
      · exact lAm_u3 m a a0 a1 d d0 d1 g g0 g1 W hm hb.1 hb.2 hs ha
    · by_cases ha : a < m.xs.length
      · exact lAm_s1 m a a0 a1 d d0 d1 g g0 g1 W hm hb.1 hb.2 hs ha
      · exact lAm_s0 m a a0 a1 d d0 d1 g g0 g1 W hm hb.1 hb.2 hs ha
  · exact lAm_no m a a0 a1 d d0 d1 g g0 g1 W hm hx hy hb
end Go.Proofs.Ytchekfipdhoejaa
