/-
  'FetchTimerPendingIsMonotone' returns true at every input: the walk. Conditions: the machine is one that can come in.
-/
import Derived.Test.YtchekfipdhoejaaFetchAwake
namespace Go.Proofs.Ytchekfipdhoejaa
open Go.ChangeShapes Go.WideShapes Go.ChangeAt Go.RowKit Go.Sort
set_option linter.unusedVariables false

theorem Blk.st {w : World} {b : Nat} {m : Mc} {t : TypeId} (g : Blk w b t (mach m)) (h : m.c.length = 29) : w.cell? ⟨b, 17, none⟩ = some (.int .u32 (M.csr m.c 0)) := g.word h 17 rfl
namespace M
theorem csr_put {c : List Int} (h : Core c) (i j : Nat) (x : Int) (hi : i < 12) : csr (c.set (17 + i) x) j = if i = j then x else csr c j := csr_set h i j x hi
theorem due_off {c : List Int} (h : Core c) (t : Int) (s : Int) (hs : s = csr c 0 / 4 * 4) : due (c.set 17 s) t = false := by
  unfold due ien bt
  rw [show csr (c.set 17 s) 0 = s from by rw [show (17 : Nat) = 17 + 0 from rfl, csr_set h 0 0 s (by decide)]; rfl]
  rw [decide_eq_false (by omega)]; rfl
theorem due_on {c : List Int} (h : Core c) (t : Int) (t0 : 0 ≤ t) (s : Int) (s0 : 0 ≤ s) (s1 : s < 4294967296) (hs : s / 2 % 2 = 1) : due (((c.set 17 s).set 26 0).set 27 0) t = true := by
  have h1 : Core (c.set 17 s) := h.set 17 s s0 s1
  have h2 : Core ((c.set 17 s).set 26 0) := h1.set 26 0 (by decide) (by decide)
  have e0 : csr (((c.set 17 s).set 26 0).set 27 0) 0 = s := by
    rw [show (27 : Nat) = 17 + 10 from rfl, csr_set h2 10 0 0 (by decide), if_neg (by decide), show (26 : Nat) = 17 + 9 from rfl, csr_set h1 9 0 0 (by decide), if_neg (by decide)]
    rw [show (17 : Nat) = 17 + 0 from rfl, csr_set h 0 0 s (by decide)]; rfl
  have e10 : csr (((c.set 17 s).set 26 0).set 27 0) 10 = 0 := by rw [show (27 : Nat) = 17 + 10 from rfl, csr_set h2 10 10 0 (by decide)]; rfl
  have e9 : csr (((c.set 17 s).set 26 0).set 27 0) 9 = 0 := by
    rw [show (27 : Nat) = 17 + 10 from rfl, csr_set h2 10 9 0 (by decide), if_neg (by decide), show (26 : Nat) = 17 + 9 from rfl, csr_set h1 9 9 0 (by decide)]; rfl
  unfold due ien bt tcmp
  rw [e0, e10, e9, decide_eq_true hs, decide_eq_true (by omega)]; rfl
theorem due_mono {c : List Int} {t u : Int} (h : t ≤ u) (k : due c t = true) : due c u = true := by
  unfold due at *
  simp only [Bool.and_eq_true, decide_eq_true_eq] at *
  exact ⟨k.1, by omega⟩
end M
set_option maxRecDepth 100000 in
set_option maxHeartbeats 2000000 in
theorem lTm_no (m : Mc) (d : Int) (d0 : 0 ≤ d) (d1 : d < 18446744073709551616) (W : World) (hm : m.Ok W) (hx : m.xs.length ≤ 9223372036854775807) (hy : m.ys.length ≤ 9223372036854775807) (hb : ¬ (m.xs.length ≤ 600 ∧ m.ys.length ≤ 600)) :
    Calls Try.prog 6 #[.agg (mach m), .int .u64 d] W fun e W' => e = .returned (.bool true) ∧ Dn W W' := by
  have hl := hm.len
  have om := Lib.hid hm
  have C0 := Lib.hid fun w => awake w
  have CF := Lib.hid fun w => fun (ow : m.Ok w) => rfew m false w ow hx hy (decide_eq_false hb)
  clear hb
  have HD := Lib.hid (Dn.refl W)
  obtain ⟨x0, b_r, hw0, hb0, r, d', nn⟩ := new_blk W 30 (mach m)
  have HL_r : Hid (W.heap.size ≤ b_r) := Lib.hid (by have := HD.out.size; omega)
  clear nn
  replace om := Lib.hid (om.out.dn d')
  replace HD := Lib.hid (HD.out.trans d')
  clear d'
  go_enter Try.func6, Try.ntmps6
  go_wp2_with fail
  rw [← hw0, ← hb0]
  clear hw0 hb0
  go_wp2_with (first | ((with_reducible refine load33 r hl ?_ ?_ ?_); rfl; rfl) | ((with_reducible refine loadCore r hl ?_ ?_ ?_); rfl; rfl) | ((with_reducible refine loadCsr r hl ?_ ?_ ?_); rfl; rfl) | (go_at_call 9; (first | (with_reducible refine (C0.out _).mono ?_)); rintro e w' ⟨rfl, d'⟩; replace r := r.dn d'; replace om := Lib.hid (om.out.dn d'); replace HD := Lib.hid (HD.out.trans d'); clear d') | (go_at_call 10; (first | (with_reducible refine (CF.out _ om.out).mono ?_)); rintro e w' ⟨rfl, d'⟩; replace r := r.dn d'; replace om := Lib.hid (om.out.dn d'); replace HD := Lib.hid (HD.out.trans d'); clear d'))
  go_ret
  exact ⟨rfl, HD.out⟩
theorem Blk.stS {w : World} {b : Nat} {m : Mc} {t : TypeId} {S : Int} (g : Blk w b t (mach m)) (h : m.c.length = 29) (e : M.csr m.c 0 = S) : w.cell? ⟨b, 17, none⟩ = some (.int .u32 S) := by rw [← e]; exact g.st h
theorem Blk.timeT {w : World} {b : Nat} {m : Mc} {t : TypeId} {S : Int} (g : Blk w b t (mach m)) (h : m.c.length = 29) (e : m.t = S) : w.cell? ⟨b, 30, none⟩ = some (.int .u64 S) := by rw [← e]; exact g.time h
theorem wrap_u64 (x : Int) : IntKind.u64.wrap x = x % 18446744073709551616 := by
  unfold IntKind.wrap; rfl
set_option maxRecDepth 100000 in
set_option maxHeartbeats 2000000 in
theorem lTm_a (m : Mc) (d : Int) (d0 : 0 ≤ d) (d1 : d < 18446744073709551616) (W : World) (hm : m.Ok W) (hx : m.xs.length ≤ 600) (hy : m.ys.length ≤ 600) (T : Int) (hT : T = (m.t + d) % 18446744073709551616) (hTt : T < m.t) :
    Calls Try.prog 6 #[.agg (mach m), .int .u64 d] W fun e W' => e = .returned (.bool true) ∧ Dn W W' := by
  have hl := hm.len
  have om := Lib.hid hm
  have C0 := Lib.hid fun w => awake w
  have CF := Lib.hid fun w => fun (ow : m.Ok w) => rfew m true w ow (by omega) (by omega) (decide_eq_true ⟨hx, hy⟩)
  obtain ⟨S, eS⟩ : ∃ S, M.csr m.c 0 = S := ⟨_, rfl⟩
  have hS := hm.core.csr 0
  rw [eS] at hS
  have S0 := hS.1
  have S1 := hS.2
  have t0 := hm.t0
  have t1 := hm.t1
  have T0 : 0 ≤ T := by omega
  have T1 : T < 18446744073709551616 := by omega
  have wT : IntKind.u64.wrap (m.t + d) = T := by rw [hT]; exact wrap_u64 _
  have tT : decide (T < m.t) = true := decide_eq_true hTt
  obtain ⟨c2, ec2⟩ : ∃ c, c = m.c.set 17 (S / 4 * 4) := ⟨_, rfl⟩
  obtain ⟨c3, ec3⟩ : ∃ c, c = ((m.c.set 17 (S / 4 * 4 + 2)).set 26 0).set 27 0 := ⟨_, rfl⟩
  have k2 : M.Core c2 := by rw [ec2]; exact hm.core.set 17 _ (by omega) (by omega)
  have k3 : M.Core c3 := by rw [ec3]; exact ((hm.core.set 17 _ (by omega) (by omega)).set 26 0 (by decide) (by decide)).set 27 0 (by decide) (by decide)
  obtain ⟨mT, eT⟩ : ∃ x : Mc, x = { m with t := T } := ⟨_, rfl⟩
  obtain ⟨mo, eo⟩ : ∃ x : Mc, x = { m with c := c2 } := ⟨_, rfl⟩
  obtain ⟨mn, en⟩ : ∃ x : Mc, x = { m with c := c3 } := ⟨_, rfl⟩
  have oT : Hid (mT.Ok W) := Lib.hid (by rw [eT]; exact ⟨hm.core, hm.mem, hm.out, T0, T1⟩)
  have oo : Hid (mo.Ok W) := Lib.hid (by rw [eo]; exact ⟨k2, hm.mem, hm.out, t0, t1⟩)
  have on : Hid (mn.Ok W) := Lib.hid (by rw [en]; exact ⟨k3, hm.mem, hm.out, t0, t1⟩)
  have lT := oT.out.len
  have lo := oo.out.len
  have ln := on.out.len
  have C3 := Lib.hid fun w => fun (ow : mo.Ok w) => fpend mo w ow
  rw [show M.due mo.c mo.t = false from by rw [eo]; show M.due c2 m.t = false; rw [ec2]; exact M.due_off hm.core _ _ (by rw [eS])] at C3
  have C4 := Lib.hid fun w => fun (ow : mn.Ok w) => fpend mn w ow
  rw [show M.due mn.c mn.t = true from by rw [en]; show M.due c3 m.t = true; rw [ec3]; exact M.due_on hm.core _ t0 _ (by omega) (by omega) (by omega)] at C4
  have ic : mT.t = T := by rw [eT]
  have io : M.csr mo.c 0 = S / 4 * 4 := by rw [eo]; show M.csr c2 0 = _; rw [ec2, show (17 : Nat) = 17 + 0 from rfl, M.csr_set hm.core 0 0 _ (by decide)]; rfl
  replace eT := Lib.hid eT
  replace eo := Lib.hid eo
  replace en := Lib.hid en
  replace ec2 := Lib.hid ec2
  replace ec3 := Lib.hid ec3
  replace eS := Lib.hid eS
  replace ic := Lib.hid ic
  replace io := Lib.hid io
  clear hS hT hTt
  have HD := Lib.hid (Dn.refl W)
  obtain ⟨x0, b_r, hw0, hb0, r, d', nn⟩ := new_blk W 30 (mach m)
  have HL_r : Hid (W.heap.size ≤ b_r) := Lib.hid (by have := HD.out.size; omega)
  clear nn
  replace om := Lib.hid (om.out.dn d')
  replace oT := Lib.hid (oT.out.dn d')
  replace oo := Lib.hid (oo.out.dn d')
  replace on := Lib.hid (on.out.dn d')
  replace HD := Lib.hid (HD.out.trans d')
  clear d'
  go_enter Try.func6, Try.ntmps6
  go_wp2_with fail
  rw [← hw0, ← hb0]
  clear hw0 hb0
  have c0 := r.time hl
  have c1 := r.st hl
  rw [eS.out] at c1
  go_wp2_with (first | ((with_reducible refine load33 r hl ?_ ?_ ?_); rfl; rfl) | ((with_reducible refine loadCore r hl ?_ ?_ ?_); rfl; rfl) | ((with_reducible refine loadCsr r hl ?_ ?_ ?_); rfl; rfl) | (go_at_call 9; (first | (with_reducible refine (C0.out _).mono ?_)); rintro e w' ⟨rfl, d'⟩; replace r := r.dn d'; replace om := Lib.hid (om.out.dn d'); replace oT := Lib.hid (oT.out.dn d'); replace oo := Lib.hid (oo.out.dn d'); replace on := Lib.hid (on.out.dn d'); replace HD := Lib.hid (HD.out.trans d'); replace c0 := r.time hl; replace c1 := (by have h := r.st hl; rwa [eS.out] at h); clear d') | (go_at_call 10; (first | (with_reducible refine (CF.out _ om.out).mono ?_)); rintro e w' ⟨rfl, d'⟩; replace r := r.dn d'; replace om := Lib.hid (om.out.dn d'); replace oT := Lib.hid (oT.out.dn d'); replace oo := Lib.hid (oo.out.dn d'); replace on := Lib.hid (on.out.dn d'); replace HD := Lib.hid (HD.out.trans d'); replace c0 := r.time hl; replace c1 := (by have h := r.st hl; rwa [eS.out] at h); clear d') | ((with_reducible refine alloc33 (b := w'.heap.size) rfl ?_ ?_); rfl; refine Hid.out ?_))
  refine Lib.hid ?_
  obtain ⟨x', b_l, hw, hb, l, d', nn⟩ := new_blk w' 30 (mach Mc.zero)
  have n_r_l := Lib.hid (nn _ r.lt)
  have HL_l : Hid (W.heap.size ≤ b_l) := Lib.hid (by have := HD.out.size; omega)
  rw [← hw, ← hb]
  clear hw hb nn
  replace r := r.dn d'
  replace om := Lib.hid (om.out.dn d')
  replace oT := Lib.hid (oT.out.dn d')
  replace oo := Lib.hid (oo.out.dn d')
  replace on := Lib.hid (on.out.dn d')
  replace HD := Lib.hid (HD.out.trans d')
  replace c0 := r.time hl
  replace c1 := r.stS hl eS.out
  clear d'
  go_wp2_with (first | ((with_reducible refine load33 r hl ?_ ?_ ?_); rfl; rfl) | ((with_reducible refine loadCore r hl ?_ ?_ ?_); rfl; rfl) | ((with_reducible refine loadCsr r hl ?_ ?_ ?_); rfl; rfl) | ((with_reducible refine load33 l zlen ?_ ?_ ?_); rfl; rfl) | ((with_reducible refine loadCore l zlen ?_ ?_ ?_); rfl; rfl) | ((with_reducible refine loadCsr l zlen ?_ ?_ ?_); rfl; rfl) | ((with_reducible refine store33 m hl l zlen ?_ ?_ ?_ ?_); rfl; rfl; rfl; intro w' r' t'; refine Hid.out ?_))
  refine Lib.hid ?_
  replace om := Lib.hid (om.out.trn l (NoU8.mach _) t')
  replace oT := Lib.hid (oT.out.trn l (NoU8.mach _) t')
  replace oo := Lib.hid (oo.out.trn l (NoU8.mach _) t')
  replace on := Lib.hid (on.out.trn l (NoU8.mach _) t')
  replace r := r.trn t' n_r_l.out
  replace HD := Lib.hid (HD.out.trn HL_l.out t')
  clear t' l
  have l := r'
  clear r'
  replace c0 := r.time hl
  replace c1 := r.stS hl eS.out
  go_wp2_with (first | ((with_reducible refine load33 r hl ?_ ?_ ?_); rfl; rfl) | ((with_reducible refine loadCore r hl ?_ ?_ ?_); rfl; rfl) | ((with_reducible refine loadCsr r hl ?_ ?_ ?_); rfl; rfl) | ((with_reducible refine load33 l hl ?_ ?_ ?_); rfl; rfl) | ((with_reducible refine loadCore l hl ?_ ?_ ?_); rfl; rfl) | ((with_reducible refine loadCsr l hl ?_ ?_ ?_); rfl; rfl) | ((with_reducible refine storeTime (u := T) l hl ?_ ?_ ?_ ?_); rfl; rfl; rfl; intro w' r' t'; refine Hid.out ?_))
  refine Lib.hid ?_
  replace om := Lib.hid (om.out.trn l (NoU8.mach _) t')
  replace oT := Lib.hid (oT.out.trn l (NoU8.mach _) t')
  replace oo := Lib.hid (oo.out.trn l (NoU8.mach _) t')
  replace on := Lib.hid (on.out.trn l (NoU8.mach _) t')
  replace r := r.trn t' n_r_l.out
  replace HD := Lib.hid (HD.out.trn HL_l.out t')
  clear t' l
  have l := r'
  clear r'
  replace c0 := r.time hl
  replace c1 := r.stS hl eS.out
  replace l : Blk w' b_l 30 (mach mT) := by rw [eT.out]; exact l
  go_wp2_with (first | ((with_reducible refine load33 r hl ?_ ?_ ?_); rfl; rfl) | ((with_reducible refine loadCore r hl ?_ ?_ ?_); rfl; rfl) | ((with_reducible refine loadCsr r hl ?_ ?_ ?_); rfl; rfl) | ((with_reducible refine load33 l lT ?_ ?_ ?_); rfl; rfl) | ((with_reducible refine loadCore l lT ?_ ?_ ?_); rfl; rfl) | ((with_reducible refine loadCsr l lT ?_ ?_ ?_); rfl; rfl) | ((with_reducible refine alloc33 (b := w'.heap.size) rfl ?_ ?_); rfl; refine Hid.out ?_))
  refine Lib.hid ?_
  obtain ⟨x', b_o, hw, hb, o, d', nn⟩ := new_blk w' 30 (mach Mc.zero)
  have n_r_o := Lib.hid (nn _ r.lt)
  have n_l_o := Lib.hid (nn _ l.lt)
  have HL_o : Hid (W.heap.size ≤ b_o) := Lib.hid (by have := HD.out.size; omega)
  rw [← hw, ← hb]
  clear hw hb nn
  replace r := r.dn d'
  replace l := l.dn d'
  replace om := Lib.hid (om.out.dn d')
  replace oT := Lib.hid (oT.out.dn d')
  replace oo := Lib.hid (oo.out.dn d')
  replace on := Lib.hid (on.out.dn d')
  replace HD := Lib.hid (HD.out.trans d')
  replace c0 := r.time hl
  replace c1 := r.stS hl eS.out
  clear d'
  go_wp2_with (first | ((with_reducible refine load33 r hl ?_ ?_ ?_); rfl; rfl) | ((with_reducible refine loadCore r hl ?_ ?_ ?_); rfl; rfl) | ((with_reducible refine loadCsr r hl ?_ ?_ ?_); rfl; rfl) | ((with_reducible refine load33 l lT ?_ ?_ ?_); rfl; rfl) | ((with_reducible refine loadCore l lT ?_ ?_ ?_); rfl; rfl) | ((with_reducible refine loadCsr l lT ?_ ?_ ?_); rfl; rfl) | ((with_reducible refine load33 o zlen ?_ ?_ ?_); rfl; rfl) | ((with_reducible refine loadCore o zlen ?_ ?_ ?_); rfl; rfl) | ((with_reducible refine loadCsr o zlen ?_ ?_ ?_); rfl; rfl) | ((with_reducible refine store33 m hl o zlen ?_ ?_ ?_ ?_); rfl; rfl; rfl; intro w' r' t'; refine Hid.out ?_))
  refine Lib.hid ?_
  replace om := Lib.hid (om.out.trn o (NoU8.mach _) t')
  replace oT := Lib.hid (oT.out.trn o (NoU8.mach _) t')
  replace oo := Lib.hid (oo.out.trn o (NoU8.mach _) t')
  replace on := Lib.hid (on.out.trn o (NoU8.mach _) t')
  replace r := r.trn t' n_r_o.out
  replace l := l.trn t' n_l_o.out
  replace HD := Lib.hid (HD.out.trn HL_o.out t')
  clear t' o
  have o := r'
  clear r'
  replace c0 := r.time hl
  replace c1 := r.stS hl eS.out
  go_wp2_with (first | ((with_reducible refine load33 r hl ?_ ?_ ?_); rfl; rfl) | ((with_reducible refine loadCore r hl ?_ ?_ ?_); rfl; rfl) | ((with_reducible refine loadCsr r hl ?_ ?_ ?_); rfl; rfl) | ((with_reducible refine load33 l lT ?_ ?_ ?_); rfl; rfl) | ((with_reducible refine loadCore l lT ?_ ?_ ?_); rfl; rfl) | ((with_reducible refine loadCsr l lT ?_ ?_ ?_); rfl; rfl) | ((with_reducible refine load33 o hl ?_ ?_ ?_); rfl; rfl) | ((with_reducible refine loadCore o hl ?_ ?_ ?_); rfl; rfl) | ((with_reducible refine loadCsr o hl ?_ ?_ ?_); rfl; rfl) | ((with_reducible refine storeWord (i := 17) (u := S / 4 * 4) o hl ?_ ?_ ?_ rfl ?_); rfl; rfl; rfl; intro w' r' t'; refine Hid.out ?_))
  refine Lib.hid ?_
  replace om := Lib.hid (om.out.trn o (NoU8.mach _) t')
  replace oT := Lib.hid (oT.out.trn o (NoU8.mach _) t')
  replace oo := Lib.hid (oo.out.trn o (NoU8.mach _) t')
  replace on := Lib.hid (on.out.trn o (NoU8.mach _) t')
  replace r := r.trn t' n_r_o.out
  replace l := l.trn t' n_l_o.out
  replace HD := Lib.hid (HD.out.trn HL_o.out t')
  clear t' o
  have o := r'
  clear r'
  replace c0 := r.time hl
  replace c1 := r.stS hl eS.out
  replace o : Blk w' b_o 30 (mach mo) := by rw [eo.out, ec2.out]; exact o
  have c2 := o.stS lo io.out
  go_wp2_with (first | ((with_reducible refine load33 r hl ?_ ?_ ?_); rfl; rfl) | ((with_reducible refine loadCore r hl ?_ ?_ ?_); rfl; rfl) | ((with_reducible refine loadCsr r hl ?_ ?_ ?_); rfl; rfl) | ((with_reducible refine load33 l lT ?_ ?_ ?_); rfl; rfl) | ((with_reducible refine loadCore l lT ?_ ?_ ?_); rfl; rfl) | ((with_reducible refine loadCsr l lT ?_ ?_ ?_); rfl; rfl) | ((with_reducible refine load33 o lo ?_ ?_ ?_); rfl; rfl) | ((with_reducible refine loadCore o lo ?_ ?_ ?_); rfl; rfl) | ((with_reducible refine loadCsr o lo ?_ ?_ ?_); rfl; rfl) | ((with_reducible refine alloc33 (b := w'.heap.size) rfl ?_ ?_); rfl; refine Hid.out ?_))
  refine Lib.hid ?_
  obtain ⟨x', b_n, hw, hb, n, d', nn⟩ := new_blk w' 30 (mach Mc.zero)
  have n_r_n := Lib.hid (nn _ r.lt)
  have n_l_n := Lib.hid (nn _ l.lt)
  have n_o_n := Lib.hid (nn _ o.lt)
  have HL_n : Hid (W.heap.size ≤ b_n) := Lib.hid (by have := HD.out.size; omega)
  rw [← hw, ← hb]
  clear hw hb nn
  replace r := r.dn d'
  replace l := l.dn d'
  replace o := o.dn d'
  replace om := Lib.hid (om.out.dn d')
  replace oT := Lib.hid (oT.out.dn d')
  replace oo := Lib.hid (oo.out.dn d')
  replace on := Lib.hid (on.out.dn d')
  replace HD := Lib.hid (HD.out.trans d')
  replace c0 := r.time hl
  replace c1 := r.stS hl eS.out
  replace c2 := o.stS lo io.out
  clear d'
  go_wp2_with (first | ((with_reducible refine load33 r hl ?_ ?_ ?_); rfl; rfl) | ((with_reducible refine loadCore r hl ?_ ?_ ?_); rfl; rfl) | ((with_reducible refine loadCsr r hl ?_ ?_ ?_); rfl; rfl) | ((with_reducible refine load33 l lT ?_ ?_ ?_); rfl; rfl) | ((with_reducible refine loadCore l lT ?_ ?_ ?_); rfl; rfl) | ((with_reducible refine loadCsr l lT ?_ ?_ ?_); rfl; rfl) | ((with_reducible refine load33 o lo ?_ ?_ ?_); rfl; rfl) | ((with_reducible refine loadCore o lo ?_ ?_ ?_); rfl; rfl) | ((with_reducible refine loadCsr o lo ?_ ?_ ?_); rfl; rfl) | ((with_reducible refine load33 n zlen ?_ ?_ ?_); rfl; rfl) | ((with_reducible refine loadCore n zlen ?_ ?_ ?_); rfl; rfl) | ((with_reducible refine loadCsr n zlen ?_ ?_ ?_); rfl; rfl) | ((with_reducible refine store33 m hl n zlen ?_ ?_ ?_ ?_); rfl; rfl; rfl; intro w' r' t'; refine Hid.out ?_))
  refine Lib.hid ?_
  replace om := Lib.hid (om.out.trn n (NoU8.mach _) t')
  replace oT := Lib.hid (oT.out.trn n (NoU8.mach _) t')
  replace oo := Lib.hid (oo.out.trn n (NoU8.mach _) t')
  replace on := Lib.hid (on.out.trn n (NoU8.mach _) t')
  replace r := r.trn t' n_r_n.out
  replace l := l.trn t' n_l_n.out
  replace o := o.trn t' n_o_n.out
  replace HD := Lib.hid (HD.out.trn HL_n.out t')
  clear t' n
  have n := r'
  clear r'
  replace c0 := r.time hl
  replace c1 := r.stS hl eS.out
  replace c2 := o.stS lo io.out
  go_wp2_with (first | ((with_reducible refine load33 r hl ?_ ?_ ?_); rfl; rfl) | ((with_reducible refine loadCore r hl ?_ ?_ ?_); rfl; rfl) | ((with_reducible refine loadCsr r hl ?_ ?_ ?_); rfl; rfl) | ((with_reducible refine load33 l lT ?_ ?_ ?_); rfl; rfl) | ((with_reducible refine loadCore l lT ?_ ?_ ?_); rfl; rfl) | ((with_reducible refine loadCsr l lT ?_ ?_ ?_); rfl; rfl) | ((with_reducible refine load33 o lo ?_ ?_ ?_); rfl; rfl) | ((with_reducible refine loadCore o lo ?_ ?_ ?_); rfl; rfl) | ((with_reducible refine loadCsr o lo ?_ ?_ ?_); rfl; rfl) | ((with_reducible refine load33 n hl ?_ ?_ ?_); rfl; rfl) | ((with_reducible refine loadCore n hl ?_ ?_ ?_); rfl; rfl) | ((with_reducible refine loadCsr n hl ?_ ?_ ?_); rfl; rfl) | ((with_reducible refine storeWord (i := 17) (u := S / 4 * 4 + 2) n hl ?_ ?_ ?_ rfl ?_); rfl; rfl; rfl; intro w' r' t'; refine Hid.out ?_))
  refine Lib.hid ?_
  replace om := Lib.hid (om.out.trn n (NoU8.mach _) t')
  replace oT := Lib.hid (oT.out.trn n (NoU8.mach _) t')
  replace oo := Lib.hid (oo.out.trn n (NoU8.mach _) t')
  replace on := Lib.hid (on.out.trn n (NoU8.mach _) t')
  replace r := r.trn t' n_r_n.out
  replace l := l.trn t' n_l_n.out
  replace o := o.trn t' n_o_n.out
  replace HD := Lib.hid (HD.out.trn HL_n.out t')
  clear t' n
  have n := r'
  clear r'
  replace c0 := r.time hl
  replace c1 := r.stS hl eS.out
  replace c2 := o.stS lo io.out
  clear c2
  go_wp2_with (first | ((with_reducible refine load33 r hl ?_ ?_ ?_); rfl; rfl) | ((with_reducible refine loadCore r hl ?_ ?_ ?_); rfl; rfl) | ((with_reducible refine loadCsr r hl ?_ ?_ ?_); rfl; rfl) | ((with_reducible refine load33 l lT ?_ ?_ ?_); rfl; rfl) | ((with_reducible refine loadCore l lT ?_ ?_ ?_); rfl; rfl) | ((with_reducible refine loadCsr l lT ?_ ?_ ?_); rfl; rfl) | ((with_reducible refine load33 o lo ?_ ?_ ?_); rfl; rfl) | ((with_reducible refine loadCore o lo ?_ ?_ ?_); rfl; rfl) | ((with_reducible refine loadCsr o lo ?_ ?_ ?_); rfl; rfl) | ((with_reducible refine load33 n (show ({ m with c := m.c.set 17 (S / 4 * 4 + 2) } : Mc).c.length = 29 by simp [hl]) ?_ ?_ ?_); rfl; rfl) | ((with_reducible refine loadCore n (show ({ m with c := m.c.set 17 (S / 4 * 4 + 2) } : Mc).c.length = 29 by simp [hl]) ?_ ?_ ?_); rfl; rfl) | ((with_reducible refine loadCsr n (show ({ m with c := m.c.set 17 (S / 4 * 4 + 2) } : Mc).c.length = 29 by simp [hl]) ?_ ?_ ?_); rfl; rfl) | ((with_reducible refine storeWord (i := 26) (u := 0) n (show ({ m with c := m.c.set 17 (S / 4 * 4 + 2) } : Mc).c.length = 29 by simp [hl]) ?_ ?_ ?_ rfl ?_); rfl; rfl; rfl; intro w' r' t'; refine Hid.out ?_))
  refine Lib.hid ?_
  replace om := Lib.hid (om.out.trn n (NoU8.mach _) t')
  replace oT := Lib.hid (oT.out.trn n (NoU8.mach _) t')
  replace oo := Lib.hid (oo.out.trn n (NoU8.mach _) t')
  replace on := Lib.hid (on.out.trn n (NoU8.mach _) t')
  replace r := r.trn t' n_r_n.out
  replace l := l.trn t' n_l_n.out
  replace o := o.trn t' n_o_n.out
  replace HD := Lib.hid (HD.out.trn HL_n.out t')
  clear t' n
  have n := r'
  clear r'
  replace c0 := r.time hl
  replace c1 := r.stS hl eS.out
  replace n : Blk w' b_n 30 (mach { m with c := (m.c.set 17 (S / 4 * 4 + 2)).set 26 0 }) := n
  go_wp2_with (first | ((with_reducible refine load33 r hl ?_ ?_ ?_); rfl; rfl) | ((with_reducible refine loadCore r hl ?_ ?_ ?_); rfl; rfl) | ((with_reducible refine loadCsr r hl ?_ ?_ ?_); rfl; rfl) | ((with_reducible refine load33 l lT ?_ ?_ ?_); rfl; rfl) | ((with_reducible refine loadCore l lT ?_ ?_ ?_); rfl; rfl) | ((with_reducible refine loadCsr l lT ?_ ?_ ?_); rfl; rfl) | ((with_reducible refine load33 o lo ?_ ?_ ?_); rfl; rfl) | ((with_reducible refine loadCore o lo ?_ ?_ ?_); rfl; rfl) | ((with_reducible refine loadCsr o lo ?_ ?_ ?_); rfl; rfl) | ((with_reducible refine load33 n (show ({ m with c := (m.c.set 17 (S / 4 * 4 + 2)).set 26 0 } : Mc).c.length = 29 by simp [hl]) ?_ ?_ ?_); rfl; rfl) | ((with_reducible refine loadCore n (show ({ m with c := (m.c.set 17 (S / 4 * 4 + 2)).set 26 0 } : Mc).c.length = 29 by simp [hl]) ?_ ?_ ?_); rfl; rfl) | ((with_reducible refine loadCsr n (show ({ m with c := (m.c.set 17 (S / 4 * 4 + 2)).set 26 0 } : Mc).c.length = 29 by simp [hl]) ?_ ?_ ?_); rfl; rfl) | ((with_reducible refine storeWord (i := 27) (u := 0) n (show ({ m with c := (m.c.set 17 (S / 4 * 4 + 2)).set 26 0 } : Mc).c.length = 29 by simp [hl]) ?_ ?_ ?_ rfl ?_); rfl; rfl; rfl; intro w' r' t'; refine Hid.out ?_))
  refine Lib.hid ?_
  replace om := Lib.hid (om.out.trn n (NoU8.mach _) t')
  replace oT := Lib.hid (oT.out.trn n (NoU8.mach _) t')
  replace oo := Lib.hid (oo.out.trn n (NoU8.mach _) t')
  replace on := Lib.hid (on.out.trn n (NoU8.mach _) t')
  replace r := r.trn t' n_r_n.out
  replace l := l.trn t' n_l_n.out
  replace o := o.trn t' n_o_n.out
  replace HD := Lib.hid (HD.out.trn HL_n.out t')
  clear t' n
  have n := r'
  clear r'
  replace c0 := r.time hl
  replace c1 := r.stS hl eS.out
  replace n : Blk w' b_n 30 (mach mn) := by rw [en.out, ec3.out]; exact n
  have c2 := l.timeT lT ic.out
  go_wp2_with (first | ((with_reducible refine load33 r hl ?_ ?_ ?_); rfl; rfl) | ((with_reducible refine loadCore r hl ?_ ?_ ?_); rfl; rfl) | ((with_reducible refine loadCsr r hl ?_ ?_ ?_); rfl; rfl) | ((with_reducible refine load33 l lT ?_ ?_ ?_); rfl; rfl) | ((with_reducible refine loadCore l lT ?_ ?_ ?_); rfl; rfl) | ((with_reducible refine loadCsr l lT ?_ ?_ ?_); rfl; rfl) | ((with_reducible refine load33 o lo ?_ ?_ ?_); rfl; rfl) | ((with_reducible refine loadCore o lo ?_ ?_ ?_); rfl; rfl) | ((with_reducible refine loadCsr o lo ?_ ?_ ?_); rfl; rfl) | ((with_reducible refine load33 n ln ?_ ?_ ?_); rfl; rfl) | ((with_reducible refine loadCore n ln ?_ ?_ ?_); rfl; rfl) | ((with_reducible refine loadCsr n ln ?_ ?_ ?_); rfl; rfl) | (go_at_call 20; (first | (with_reducible refine (C3.out _ oo.out).mono ?_) | (with_reducible refine (C4.out _ on.out).mono ?_)); rintro e w' ⟨rfl, d'⟩; replace r := r.dn d'; replace l := l.dn d'; replace o := o.dn d'; replace n := n.dn d'; replace om := Lib.hid (om.out.dn d'); replace oT := Lib.hid (oT.out.dn d'); replace oo := Lib.hid (oo.out.dn d'); replace on := Lib.hid (on.out.dn d'); replace HD := Lib.hid (HD.out.trans d'); replace c0 := r.time hl; replace c1 := r.stS hl eS.out; replace c2 := l.timeT lT ic.out; clear d'))
  go_ret
  exact ⟨rfl, HD.out⟩
set_option maxRecDepth 100000 in
set_option maxHeartbeats 2000000 in
theorem lTm_b (m : Mc) (d : Int) (d0 : 0 ≤ d) (d1 : d < 18446744073709551616) (W : World) (hm : m.Ok W) (hx : m.xs.length ≤ 600) (hy : m.ys.length ≤ 600) (T : Int) (hT : T = (m.t + d) % 18446744073709551616) (hTt : ¬ T < m.t) (hfalse : M.due m.c m.t = false) :
    Calls Try.prog 6 #[.agg (mach m), .int .u64 d] W fun e W' => e = .returned (.bool true) ∧ Dn W W' := by
  have hl := hm.len
  have om := Lib.hid hm
  have C0 := Lib.hid fun w => awake w
  have CF := Lib.hid fun w => fun (ow : m.Ok w) => rfew m true w ow (by omega) (by omega) (decide_eq_true ⟨hx, hy⟩)
  obtain ⟨S, eS⟩ : ∃ S, M.csr m.c 0 = S := ⟨_, rfl⟩
  have hS := hm.core.csr 0
  rw [eS] at hS
  have S0 := hS.1
  have S1 := hS.2
  have t0 := hm.t0
  have t1 := hm.t1
  have T0 : 0 ≤ T := by omega
  have T1 : T < 18446744073709551616 := by omega
  have wT : IntKind.u64.wrap (m.t + d) = T := by rw [hT]; exact wrap_u64 _
  have tT : decide (T < m.t) = false := decide_eq_false hTt
  obtain ⟨c2, ec2⟩ : ∃ c, c = m.c.set 17 (S / 4 * 4) := ⟨_, rfl⟩
  obtain ⟨c3, ec3⟩ : ∃ c, c = ((m.c.set 17 (S / 4 * 4 + 2)).set 26 0).set 27 0 := ⟨_, rfl⟩
  have k2 : M.Core c2 := by rw [ec2]; exact hm.core.set 17 _ (by omega) (by omega)
  have k3 : M.Core c3 := by rw [ec3]; exact ((hm.core.set 17 _ (by omega) (by omega)).set 26 0 (by decide) (by decide)).set 27 0 (by decide) (by decide)
  obtain ⟨mT, eT⟩ : ∃ x : Mc, x = { m with t := T } := ⟨_, rfl⟩
  obtain ⟨mo, eo⟩ : ∃ x : Mc, x = { m with c := c2 } := ⟨_, rfl⟩
  obtain ⟨mn, en⟩ : ∃ x : Mc, x = { m with c := c3 } := ⟨_, rfl⟩
  have oT : Hid (mT.Ok W) := Lib.hid (by rw [eT]; exact ⟨hm.core, hm.mem, hm.out, T0, T1⟩)
  have oo : Hid (mo.Ok W) := Lib.hid (by rw [eo]; exact ⟨k2, hm.mem, hm.out, t0, t1⟩)
  have on : Hid (mn.Ok W) := Lib.hid (by rw [en]; exact ⟨k3, hm.mem, hm.out, t0, t1⟩)
  have lT := oT.out.len
  have lo := oo.out.len
  have ln := on.out.len
  have C3 := Lib.hid fun w => fun (ow : mo.Ok w) => fpend mo w ow
  rw [show M.due mo.c mo.t = false from by rw [eo]; show M.due c2 m.t = false; rw [ec2]; exact M.due_off hm.core _ _ (by rw [eS])] at C3
  have C4 := Lib.hid fun w => fun (ow : mn.Ok w) => fpend mn w ow
  rw [show M.due mn.c mn.t = true from by rw [en]; show M.due c3 m.t = true; rw [ec3]; exact M.due_on hm.core _ t0 _ (by omega) (by omega) (by omega)] at C4
  have C1 := Lib.hid fun w => fun (ow : m.Ok w) => fpend m w ow
  rw [hfalse] at C1
  have ic : mT.t = T := by rw [eT]
  have io : M.csr mo.c 0 = S / 4 * 4 := by rw [eo]; show M.csr c2 0 = _; rw [ec2, show (17 : Nat) = 17 + 0 from rfl, M.csr_set hm.core 0 0 _ (by decide)]; rfl
  replace eT := Lib.hid eT
  replace eo := Lib.hid eo
  replace en := Lib.hid en
  replace ec2 := Lib.hid ec2
  replace ec3 := Lib.hid ec3
  replace eS := Lib.hid eS
  replace ic := Lib.hid ic
  replace io := Lib.hid io
  clear hS hT hTt
  have HD := Lib.hid (Dn.refl W)
  obtain ⟨x0, b_r, hw0, hb0, r, d', nn⟩ := new_blk W 30 (mach m)
  have HL_r : Hid (W.heap.size ≤ b_r) := Lib.hid (by have := HD.out.size; omega)
  clear nn
  replace om := Lib.hid (om.out.dn d')
  replace oT := Lib.hid (oT.out.dn d')
  replace oo := Lib.hid (oo.out.dn d')
  replace on := Lib.hid (on.out.dn d')
  replace HD := Lib.hid (HD.out.trans d')
  clear d'
  go_enter Try.func6, Try.ntmps6
  go_wp2_with fail
  rw [← hw0, ← hb0]
  clear hw0 hb0
  have c0 := r.time hl
  have c1 := r.st hl
  rw [eS.out] at c1
  go_wp2_with (first | ((with_reducible refine load33 r hl ?_ ?_ ?_); rfl; rfl) | ((with_reducible refine loadCore r hl ?_ ?_ ?_); rfl; rfl) | ((with_reducible refine loadCsr r hl ?_ ?_ ?_); rfl; rfl) | (go_at_call 9; (first | (with_reducible refine (C0.out _).mono ?_)); rintro e w' ⟨rfl, d'⟩; replace r := r.dn d'; replace om := Lib.hid (om.out.dn d'); replace oT := Lib.hid (oT.out.dn d'); replace oo := Lib.hid (oo.out.dn d'); replace on := Lib.hid (on.out.dn d'); replace HD := Lib.hid (HD.out.trans d'); replace c0 := r.time hl; replace c1 := (by have h := r.st hl; rwa [eS.out] at h); clear d') | (go_at_call 10; (first | (with_reducible refine (CF.out _ om.out).mono ?_)); rintro e w' ⟨rfl, d'⟩; replace r := r.dn d'; replace om := Lib.hid (om.out.dn d'); replace oT := Lib.hid (oT.out.dn d'); replace oo := Lib.hid (oo.out.dn d'); replace on := Lib.hid (on.out.dn d'); replace HD := Lib.hid (HD.out.trans d'); replace c0 := r.time hl; replace c1 := (by have h := r.st hl; rwa [eS.out] at h); clear d') | ((with_reducible refine alloc33 (b := w'.heap.size) rfl ?_ ?_); rfl; refine Hid.out ?_))
  refine Lib.hid ?_
  obtain ⟨x', b_l, hw, hb, l, d', nn⟩ := new_blk w' 30 (mach Mc.zero)
  have n_r_l := Lib.hid (nn _ r.lt)
  have HL_l : Hid (W.heap.size ≤ b_l) := Lib.hid (by have := HD.out.size; omega)
  rw [← hw, ← hb]
  clear hw hb nn
  replace r := r.dn d'
  replace om := Lib.hid (om.out.dn d')
  replace oT := Lib.hid (oT.out.dn d')
  replace oo := Lib.hid (oo.out.dn d')
  replace on := Lib.hid (on.out.dn d')
  replace HD := Lib.hid (HD.out.trans d')
  replace c0 := r.time hl
  replace c1 := r.stS hl eS.out
  clear d'
  go_wp2_with (first | ((with_reducible refine load33 r hl ?_ ?_ ?_); rfl; rfl) | ((with_reducible refine loadCore r hl ?_ ?_ ?_); rfl; rfl) | ((with_reducible refine loadCsr r hl ?_ ?_ ?_); rfl; rfl) | ((with_reducible refine load33 l zlen ?_ ?_ ?_); rfl; rfl) | ((with_reducible refine loadCore l zlen ?_ ?_ ?_); rfl; rfl) | ((with_reducible refine loadCsr l zlen ?_ ?_ ?_); rfl; rfl) | ((with_reducible refine store33 m hl l zlen ?_ ?_ ?_ ?_); rfl; rfl; rfl; intro w' r' t'; refine Hid.out ?_))
  refine Lib.hid ?_
  replace om := Lib.hid (om.out.trn l (NoU8.mach _) t')
  replace oT := Lib.hid (oT.out.trn l (NoU8.mach _) t')
  replace oo := Lib.hid (oo.out.trn l (NoU8.mach _) t')
  replace on := Lib.hid (on.out.trn l (NoU8.mach _) t')
  replace r := r.trn t' n_r_l.out
  replace HD := Lib.hid (HD.out.trn HL_l.out t')
  clear t' l
  have l := r'
  clear r'
  replace c0 := r.time hl
  replace c1 := r.stS hl eS.out
  go_wp2_with (first | ((with_reducible refine load33 r hl ?_ ?_ ?_); rfl; rfl) | ((with_reducible refine loadCore r hl ?_ ?_ ?_); rfl; rfl) | ((with_reducible refine loadCsr r hl ?_ ?_ ?_); rfl; rfl) | ((with_reducible refine load33 l hl ?_ ?_ ?_); rfl; rfl) | ((with_reducible refine loadCore l hl ?_ ?_ ?_); rfl; rfl) | ((with_reducible refine loadCsr l hl ?_ ?_ ?_); rfl; rfl) | ((with_reducible refine storeTime (u := T) l hl ?_ ?_ ?_ ?_); rfl; rfl; rfl; intro w' r' t'; refine Hid.out ?_))
  refine Lib.hid ?_
  replace om := Lib.hid (om.out.trn l (NoU8.mach _) t')
  replace oT := Lib.hid (oT.out.trn l (NoU8.mach _) t')
  replace oo := Lib.hid (oo.out.trn l (NoU8.mach _) t')
  replace on := Lib.hid (on.out.trn l (NoU8.mach _) t')
  replace r := r.trn t' n_r_l.out
  replace HD := Lib.hid (HD.out.trn HL_l.out t')
  clear t' l
  have l := r'
  clear r'
  replace c0 := r.time hl
  replace c1 := r.stS hl eS.out
  replace l : Blk w' b_l 30 (mach mT) := by rw [eT.out]; exact l
  go_wp2_with (first | ((with_reducible refine load33 r hl ?_ ?_ ?_); rfl; rfl) | ((with_reducible refine loadCore r hl ?_ ?_ ?_); rfl; rfl) | ((with_reducible refine loadCsr r hl ?_ ?_ ?_); rfl; rfl) | ((with_reducible refine load33 l lT ?_ ?_ ?_); rfl; rfl) | ((with_reducible refine loadCore l lT ?_ ?_ ?_); rfl; rfl) | ((with_reducible refine loadCsr l lT ?_ ?_ ?_); rfl; rfl) | ((with_reducible refine alloc33 (b := w'.heap.size) rfl ?_ ?_); rfl; refine Hid.out ?_))
  refine Lib.hid ?_
  obtain ⟨x', b_o, hw, hb, o, d', nn⟩ := new_blk w' 30 (mach Mc.zero)
  have n_r_o := Lib.hid (nn _ r.lt)
  have n_l_o := Lib.hid (nn _ l.lt)
  have HL_o : Hid (W.heap.size ≤ b_o) := Lib.hid (by have := HD.out.size; omega)
  rw [← hw, ← hb]
  clear hw hb nn
  replace r := r.dn d'
  replace l := l.dn d'
  replace om := Lib.hid (om.out.dn d')
  replace oT := Lib.hid (oT.out.dn d')
  replace oo := Lib.hid (oo.out.dn d')
  replace on := Lib.hid (on.out.dn d')
  replace HD := Lib.hid (HD.out.trans d')
  replace c0 := r.time hl
  replace c1 := r.stS hl eS.out
  clear d'
  go_wp2_with (first | ((with_reducible refine load33 r hl ?_ ?_ ?_); rfl; rfl) | ((with_reducible refine loadCore r hl ?_ ?_ ?_); rfl; rfl) | ((with_reducible refine loadCsr r hl ?_ ?_ ?_); rfl; rfl) | ((with_reducible refine load33 l lT ?_ ?_ ?_); rfl; rfl) | ((with_reducible refine loadCore l lT ?_ ?_ ?_); rfl; rfl) | ((with_reducible refine loadCsr l lT ?_ ?_ ?_); rfl; rfl) | ((with_reducible refine load33 o zlen ?_ ?_ ?_); rfl; rfl) | ((with_reducible refine loadCore o zlen ?_ ?_ ?_); rfl; rfl) | ((with_reducible refine loadCsr o zlen ?_ ?_ ?_); rfl; rfl) | ((with_reducible refine store33 m hl o zlen ?_ ?_ ?_ ?_); rfl; rfl; rfl; intro w' r' t'; refine Hid.out ?_))
  refine Lib.hid ?_
  replace om := Lib.hid (om.out.trn o (NoU8.mach _) t')
  replace oT := Lib.hid (oT.out.trn o (NoU8.mach _) t')
  replace oo := Lib.hid (oo.out.trn o (NoU8.mach _) t')
  replace on := Lib.hid (on.out.trn o (NoU8.mach _) t')
  replace r := r.trn t' n_r_o.out
  replace l := l.trn t' n_l_o.out
  replace HD := Lib.hid (HD.out.trn HL_o.out t')
  clear t' o
  have o := r'
  clear r'
  replace c0 := r.time hl
  replace c1 := r.stS hl eS.out
  go_wp2_with (first | ((with_reducible refine load33 r hl ?_ ?_ ?_); rfl; rfl) | ((with_reducible refine loadCore r hl ?_ ?_ ?_); rfl; rfl) | ((with_reducible refine loadCsr r hl ?_ ?_ ?_); rfl; rfl) | ((with_reducible refine load33 l lT ?_ ?_ ?_); rfl; rfl) | ((with_reducible refine loadCore l lT ?_ ?_ ?_); rfl; rfl) | ((with_reducible refine loadCsr l lT ?_ ?_ ?_); rfl; rfl) | ((with_reducible refine load33 o hl ?_ ?_ ?_); rfl; rfl) | ((with_reducible refine loadCore o hl ?_ ?_ ?_); rfl; rfl) | ((with_reducible refine loadCsr o hl ?_ ?_ ?_); rfl; rfl) | ((with_reducible refine storeWord (i := 17) (u := S / 4 * 4) o hl ?_ ?_ ?_ rfl ?_); rfl; rfl; rfl; intro w' r' t'; refine Hid.out ?_))
  refine Lib.hid ?_
  replace om := Lib.hid (om.out.trn o (NoU8.mach _) t')
  replace oT := Lib.hid (oT.out.trn o (NoU8.mach _) t')
  replace oo := Lib.hid (oo.out.trn o (NoU8.mach _) t')
  replace on := Lib.hid (on.out.trn o (NoU8.mach _) t')
  replace r := r.trn t' n_r_o.out
  replace l := l.trn t' n_l_o.out
  replace HD := Lib.hid (HD.out.trn HL_o.out t')
  clear t' o
  have o := r'
  clear r'
  replace c0 := r.time hl
  replace c1 := r.stS hl eS.out
  replace o : Blk w' b_o 30 (mach mo) := by rw [eo.out, ec2.out]; exact o
  have c2 := o.stS lo io.out
  go_wp2_with (first | ((with_reducible refine load33 r hl ?_ ?_ ?_); rfl; rfl) | ((with_reducible refine loadCore r hl ?_ ?_ ?_); rfl; rfl) | ((with_reducible refine loadCsr r hl ?_ ?_ ?_); rfl; rfl) | ((with_reducible refine load33 l lT ?_ ?_ ?_); rfl; rfl) | ((with_reducible refine loadCore l lT ?_ ?_ ?_); rfl; rfl) | ((with_reducible refine loadCsr l lT ?_ ?_ ?_); rfl; rfl) | ((with_reducible refine load33 o lo ?_ ?_ ?_); rfl; rfl) | ((with_reducible refine loadCore o lo ?_ ?_ ?_); rfl; rfl) | ((with_reducible refine loadCsr o lo ?_ ?_ ?_); rfl; rfl) | ((with_reducible refine alloc33 (b := w'.heap.size) rfl ?_ ?_); rfl; refine Hid.out ?_))
  refine Lib.hid ?_
  obtain ⟨x', b_n, hw, hb, n, d', nn⟩ := new_blk w' 30 (mach Mc.zero)
  have n_r_n := Lib.hid (nn _ r.lt)
  have n_l_n := Lib.hid (nn _ l.lt)
  have n_o_n := Lib.hid (nn _ o.lt)
  have HL_n : Hid (W.heap.size ≤ b_n) := Lib.hid (by have := HD.out.size; omega)
  rw [← hw, ← hb]
  clear hw hb nn
  replace r := r.dn d'
  replace l := l.dn d'
  replace o := o.dn d'
  replace om := Lib.hid (om.out.dn d')
  replace oT := Lib.hid (oT.out.dn d')
  replace oo := Lib.hid (oo.out.dn d')
  replace on := Lib.hid (on.out.dn d')
  replace HD := Lib.hid (HD.out.trans d')
  replace c0 := r.time hl
  replace c1 := r.stS hl eS.out
  replace c2 := o.stS lo io.out
  clear d'
  go_wp2_with (first | ((with_reducible refine load33 r hl ?_ ?_ ?_); rfl; rfl) | ((with_reducible refine loadCore r hl ?_ ?_ ?_); rfl; rfl) | ((with_reducible refine loadCsr r hl ?_ ?_ ?_); rfl; rfl) | ((with_reducible refine load33 l lT ?_ ?_ ?_); rfl; rfl) | ((with_reducible refine loadCore l lT ?_ ?_ ?_); rfl; rfl) | ((with_reducible refine loadCsr l lT ?_ ?_ ?_); rfl; rfl) | ((with_reducible refine load33 o lo ?_ ?_ ?_); rfl; rfl) | ((with_reducible refine loadCore o lo ?_ ?_ ?_); rfl; rfl) | ((with_reducible refine loadCsr o lo ?_ ?_ ?_); rfl; rfl) | ((with_reducible refine load33 n zlen ?_ ?_ ?_); rfl; rfl) | ((with_reducible refine loadCore n zlen ?_ ?_ ?_); rfl; rfl) | ((with_reducible refine loadCsr n zlen ?_ ?_ ?_); rfl; rfl) | ((with_reducible refine store33 m hl n zlen ?_ ?_ ?_ ?_); rfl; rfl; rfl; intro w' r' t'; refine Hid.out ?_))
  refine Lib.hid ?_
  replace om := Lib.hid (om.out.trn n (NoU8.mach _) t')
  replace oT := Lib.hid (oT.out.trn n (NoU8.mach _) t')
  replace oo := Lib.hid (oo.out.trn n (NoU8.mach _) t')
  replace on := Lib.hid (on.out.trn n (NoU8.mach _) t')
  replace r := r.trn t' n_r_n.out
  replace l := l.trn t' n_l_n.out
  replace o := o.trn t' n_o_n.out
  replace HD := Lib.hid (HD.out.trn HL_n.out t')
  clear t' n
  have n := r'
  clear r'
  replace c0 := r.time hl
  replace c1 := r.stS hl eS.out
  replace c2 := o.stS lo io.out
  go_wp2_with (first | ((with_reducible refine load33 r hl ?_ ?_ ?_); rfl; rfl) | ((with_reducible refine loadCore r hl ?_ ?_ ?_); rfl; rfl) | ((with_reducible refine loadCsr r hl ?_ ?_ ?_); rfl; rfl) | ((with_reducible refine load33 l lT ?_ ?_ ?_); rfl; rfl) | ((with_reducible refine loadCore l lT ?_ ?_ ?_); rfl; rfl) | ((with_reducible refine loadCsr l lT ?_ ?_ ?_); rfl; rfl) | ((with_reducible refine load33 o lo ?_ ?_ ?_); rfl; rfl) | ((with_reducible refine loadCore o lo ?_ ?_ ?_); rfl; rfl) | ((with_reducible refine loadCsr o lo ?_ ?_ ?_); rfl; rfl) | ((with_reducible refine load33 n hl ?_ ?_ ?_); rfl; rfl) | ((with_reducible refine loadCore n hl ?_ ?_ ?_); rfl; rfl) | ((with_reducible refine loadCsr n hl ?_ ?_ ?_); rfl; rfl) | ((with_reducible refine storeWord (i := 17) (u := S / 4 * 4 + 2) n hl ?_ ?_ ?_ rfl ?_); rfl; rfl; rfl; intro w' r' t'; refine Hid.out ?_))
  refine Lib.hid ?_
  replace om := Lib.hid (om.out.trn n (NoU8.mach _) t')
  replace oT := Lib.hid (oT.out.trn n (NoU8.mach _) t')
  replace oo := Lib.hid (oo.out.trn n (NoU8.mach _) t')
  replace on := Lib.hid (on.out.trn n (NoU8.mach _) t')
  replace r := r.trn t' n_r_n.out
  replace l := l.trn t' n_l_n.out
  replace o := o.trn t' n_o_n.out
  replace HD := Lib.hid (HD.out.trn HL_n.out t')
  clear t' n
  have n := r'
  clear r'
  replace c0 := r.time hl
  replace c1 := r.stS hl eS.out
  replace c2 := o.stS lo io.out
  clear c2
  go_wp2_with (first | ((with_reducible refine load33 r hl ?_ ?_ ?_); rfl; rfl) | ((with_reducible refine loadCore r hl ?_ ?_ ?_); rfl; rfl) | ((with_reducible refine loadCsr r hl ?_ ?_ ?_); rfl; rfl) | ((with_reducible refine load33 l lT ?_ ?_ ?_); rfl; rfl) | ((with_reducible refine loadCore l lT ?_ ?_ ?_); rfl; rfl) | ((with_reducible refine loadCsr l lT ?_ ?_ ?_); rfl; rfl) | ((with_reducible refine load33 o lo ?_ ?_ ?_); rfl; rfl) | ((with_reducible refine loadCore o lo ?_ ?_ ?_); rfl; rfl) | ((with_reducible refine loadCsr o lo ?_ ?_ ?_); rfl; rfl) | ((with_reducible refine load33 n (show ({ m with c := m.c.set 17 (S / 4 * 4 + 2) } : Mc).c.length = 29 by simp [hl]) ?_ ?_ ?_); rfl; rfl) | ((with_reducible refine loadCore n (show ({ m with c := m.c.set 17 (S / 4 * 4 + 2) } : Mc).c.length = 29 by simp [hl]) ?_ ?_ ?_); rfl; rfl) | ((with_reducible refine loadCsr n (show ({ m with c := m.c.set 17 (S / 4 * 4 + 2) } : Mc).c.length = 29 by simp [hl]) ?_ ?_ ?_); rfl; rfl) | ((with_reducible refine storeWord (i := 26) (u := 0) n (show ({ m with c := m.c.set 17 (S / 4 * 4 + 2) } : Mc).c.length = 29 by simp [hl]) ?_ ?_ ?_ rfl ?_); rfl; rfl; rfl; intro w' r' t'; refine Hid.out ?_))
  refine Lib.hid ?_
  replace om := Lib.hid (om.out.trn n (NoU8.mach _) t')
  replace oT := Lib.hid (oT.out.trn n (NoU8.mach _) t')
  replace oo := Lib.hid (oo.out.trn n (NoU8.mach _) t')
  replace on := Lib.hid (on.out.trn n (NoU8.mach _) t')
  replace r := r.trn t' n_r_n.out
  replace l := l.trn t' n_l_n.out
  replace o := o.trn t' n_o_n.out
  replace HD := Lib.hid (HD.out.trn HL_n.out t')
  clear t' n
  have n := r'
  clear r'
  replace c0 := r.time hl
  replace c1 := r.stS hl eS.out
  replace n : Blk w' b_n 30 (mach { m with c := (m.c.set 17 (S / 4 * 4 + 2)).set 26 0 }) := n
  go_wp2_with (first | ((with_reducible refine load33 r hl ?_ ?_ ?_); rfl; rfl) | ((with_reducible refine loadCore r hl ?_ ?_ ?_); rfl; rfl) | ((with_reducible refine loadCsr r hl ?_ ?_ ?_); rfl; rfl) | ((with_reducible refine load33 l lT ?_ ?_ ?_); rfl; rfl) | ((with_reducible refine loadCore l lT ?_ ?_ ?_); rfl; rfl) | ((with_reducible refine loadCsr l lT ?_ ?_ ?_); rfl; rfl) | ((with_reducible refine load33 o lo ?_ ?_ ?_); rfl; rfl) | ((with_reducible refine loadCore o lo ?_ ?_ ?_); rfl; rfl) | ((with_reducible refine loadCsr o lo ?_ ?_ ?_); rfl; rfl) | ((with_reducible refine load33 n (show ({ m with c := (m.c.set 17 (S / 4 * 4 + 2)).set 26 0 } : Mc).c.length = 29 by simp [hl]) ?_ ?_ ?_); rfl; rfl) | ((with_reducible refine loadCore n (show ({ m with c := (m.c.set 17 (S / 4 * 4 + 2)).set 26 0 } : Mc).c.length = 29 by simp [hl]) ?_ ?_ ?_); rfl; rfl) | ((with_reducible refine loadCsr n (show ({ m with c := (m.c.set 17 (S / 4 * 4 + 2)).set 26 0 } : Mc).c.length = 29 by simp [hl]) ?_ ?_ ?_); rfl; rfl) | ((with_reducible refine storeWord (i := 27) (u := 0) n (show ({ m with c := (m.c.set 17 (S / 4 * 4 + 2)).set 26 0 } : Mc).c.length = 29 by simp [hl]) ?_ ?_ ?_ rfl ?_); rfl; rfl; rfl; intro w' r' t'; refine Hid.out ?_))
  refine Lib.hid ?_
  replace om := Lib.hid (om.out.trn n (NoU8.mach _) t')
  replace oT := Lib.hid (oT.out.trn n (NoU8.mach _) t')
  replace oo := Lib.hid (oo.out.trn n (NoU8.mach _) t')
  replace on := Lib.hid (on.out.trn n (NoU8.mach _) t')
  replace r := r.trn t' n_r_n.out
  replace l := l.trn t' n_l_n.out
  replace o := o.trn t' n_o_n.out
  replace HD := Lib.hid (HD.out.trn HL_n.out t')
  clear t' n
  have n := r'
  clear r'
  replace c0 := r.time hl
  replace c1 := r.stS hl eS.out
  replace n : Blk w' b_n 30 (mach mn) := by rw [en.out, ec3.out]; exact n
  have c2 := l.timeT lT ic.out
  go_wp2_with (first | ((with_reducible refine load33 r hl ?_ ?_ ?_); rfl; rfl) | ((with_reducible refine loadCore r hl ?_ ?_ ?_); rfl; rfl) | ((with_reducible refine loadCsr r hl ?_ ?_ ?_); rfl; rfl) | ((with_reducible refine load33 l lT ?_ ?_ ?_); rfl; rfl) | ((with_reducible refine loadCore l lT ?_ ?_ ?_); rfl; rfl) | ((with_reducible refine loadCsr l lT ?_ ?_ ?_); rfl; rfl) | ((with_reducible refine load33 o lo ?_ ?_ ?_); rfl; rfl) | ((with_reducible refine loadCore o lo ?_ ?_ ?_); rfl; rfl) | ((with_reducible refine loadCsr o lo ?_ ?_ ?_); rfl; rfl) | ((with_reducible refine load33 n ln ?_ ?_ ?_); rfl; rfl) | ((with_reducible refine loadCore n ln ?_ ?_ ?_); rfl; rfl) | ((with_reducible refine loadCsr n ln ?_ ?_ ?_); rfl; rfl) | (go_at_call 20; (first | (with_reducible refine (C3.out _ oo.out).mono ?_) | (with_reducible refine (C4.out _ on.out).mono ?_) | (with_reducible refine (C1.out _ om.out).mono ?_)); rintro e w' ⟨rfl, d'⟩; replace r := r.dn d'; replace l := l.dn d'; replace o := o.dn d'; replace n := n.dn d'; replace om := Lib.hid (om.out.dn d'); replace oT := Lib.hid (oT.out.dn d'); replace oo := Lib.hid (oo.out.dn d'); replace on := Lib.hid (on.out.dn d'); replace HD := Lib.hid (HD.out.trans d'); replace c0 := r.time hl; replace c1 := r.stS hl eS.out; replace c2 := l.timeT lT ic.out; clear d'))
  go_ret
  exact ⟨rfl, HD.out⟩
set_option maxRecDepth 100000 in
set_option maxHeartbeats 2000000 in
theorem lTm_c (m : Mc) (d : Int) (d0 : 0 ≤ d) (d1 : d < 18446744073709551616) (W : World) (hm : m.Ok W) (hx : m.xs.length ≤ 600) (hy : m.ys.length ≤ 600) (T : Int) (hT : T = (m.t + d) % 18446744073709551616) (hTt : ¬ T < m.t) (htrue : M.due m.c m.t = true) :
    Calls Try.prog 6 #[.agg (mach m), .int .u64 d] W fun e W' => e = .returned (.bool true) ∧ Dn W W' := by
  have hl := hm.len
  have om := Lib.hid hm
  have C0 := Lib.hid fun w => awake w
  have CF := Lib.hid fun w => fun (ow : m.Ok w) => rfew m true w ow (by omega) (by omega) (decide_eq_true ⟨hx, hy⟩)
  obtain ⟨S, eS⟩ : ∃ S, M.csr m.c 0 = S := ⟨_, rfl⟩
  have hS := hm.core.csr 0
  rw [eS] at hS
  have S0 := hS.1
  have S1 := hS.2
  have t0 := hm.t0
  have t1 := hm.t1
  have T0 : 0 ≤ T := by omega
  have T1 : T < 18446744073709551616 := by omega
  have wT : IntKind.u64.wrap (m.t + d) = T := by rw [hT]; exact wrap_u64 _
  have tT : decide (T < m.t) = false := decide_eq_false hTt
  obtain ⟨c2, ec2⟩ : ∃ c, c = m.c.set 17 (S / 4 * 4) := ⟨_, rfl⟩
  obtain ⟨c3, ec3⟩ : ∃ c, c = ((m.c.set 17 (S / 4 * 4 + 2)).set 26 0).set 27 0 := ⟨_, rfl⟩
  have k2 : M.Core c2 := by rw [ec2]; exact hm.core.set 17 _ (by omega) (by omega)
  have k3 : M.Core c3 := by rw [ec3]; exact ((hm.core.set 17 _ (by omega) (by omega)).set 26 0 (by decide) (by decide)).set 27 0 (by decide) (by decide)
  obtain ⟨mT, eT⟩ : ∃ x : Mc, x = { m with t := T } := ⟨_, rfl⟩
  obtain ⟨mo, eo⟩ : ∃ x : Mc, x = { m with c := c2 } := ⟨_, rfl⟩
  obtain ⟨mn, en⟩ : ∃ x : Mc, x = { m with c := c3 } := ⟨_, rfl⟩
  have oT : Hid (mT.Ok W) := Lib.hid (by rw [eT]; exact ⟨hm.core, hm.mem, hm.out, T0, T1⟩)
  have oo : Hid (mo.Ok W) := Lib.hid (by rw [eo]; exact ⟨k2, hm.mem, hm.out, t0, t1⟩)
  have on : Hid (mn.Ok W) := Lib.hid (by rw [en]; exact ⟨k3, hm.mem, hm.out, t0, t1⟩)
  have lT := oT.out.len
  have lo := oo.out.len
  have ln := on.out.len
  have C3 := Lib.hid fun w => fun (ow : mo.Ok w) => fpend mo w ow
  rw [show M.due mo.c mo.t = false from by rw [eo]; show M.due c2 m.t = false; rw [ec2]; exact M.due_off hm.core _ _ (by rw [eS])] at C3
  have C4 := Lib.hid fun w => fun (ow : mn.Ok w) => fpend mn w ow
  rw [show M.due mn.c mn.t = true from by rw [en]; show M.due c3 m.t = true; rw [ec3]; exact M.due_on hm.core _ t0 _ (by omega) (by omega) (by omega)] at C4
  have C1 := Lib.hid fun w => fun (ow : m.Ok w) => fpend m w ow
  rw [htrue] at C1
  have C2 := Lib.hid fun w => fun (ow : mT.Ok w) => fpend mT w ow
  rw [show M.due mT.c mT.t = true from by rw [eT]; exact M.due_mono (show m.t ≤ T by omega) htrue] at C2
  have ic : mT.t = T := by rw [eT]
  have io : M.csr mo.c 0 = S / 4 * 4 := by rw [eo]; show M.csr c2 0 = _; rw [ec2, show (17 : Nat) = 17 + 0 from rfl, M.csr_set hm.core 0 0 _ (by decide)]; rfl
  replace eT := Lib.hid eT
  replace eo := Lib.hid eo
  replace en := Lib.hid en
  replace ec2 := Lib.hid ec2
  replace ec3 := Lib.hid ec3
  replace eS := Lib.hid eS
  replace ic := Lib.hid ic
  replace io := Lib.hid io
  clear hS hT hTt
  have HD := Lib.hid (Dn.refl W)
  obtain ⟨x0, b_r, hw0, hb0, r, d', nn⟩ := new_blk W 30 (mach m)
  have HL_r : Hid (W.heap.size ≤ b_r) := Lib.hid (by have := HD.out.size; omega)
  clear nn
  replace om := Lib.hid (om.out.dn d')
  replace oT := Lib.hid (oT.out.dn d')
  replace oo := Lib.hid (oo.out.dn d')
  replace on := Lib.hid (on.out.dn d')
  replace HD := Lib.hid (HD.out.trans d')
  clear d'
  go_enter Try.func6, Try.ntmps6
  go_wp2_with fail
  rw [← hw0, ← hb0]
  clear hw0 hb0
  have c0 := r.time hl
  have c1 := r.st hl
  rw [eS.out] at c1
  go_wp2_with (first | ((with_reducible refine load33 r hl ?_ ?_ ?_); rfl; rfl) | ((with_reducible refine loadCore r hl ?_ ?_ ?_); rfl; rfl) | ((with_reducible refine loadCsr r hl ?_ ?_ ?_); rfl; rfl) | (go_at_call 9; (first | (with_reducible refine (C0.out _).mono ?_)); rintro e w' ⟨rfl, d'⟩; replace r := r.dn d'; replace om := Lib.hid (om.out.dn d'); replace oT := Lib.hid (oT.out.dn d'); replace oo := Lib.hid (oo.out.dn d'); replace on := Lib.hid (on.out.dn d'); replace HD := Lib.hid (HD.out.trans d'); replace c0 := r.time hl; replace c1 := (by have h := r.st hl; rwa [eS.out] at h); clear d') | (go_at_call 10; (first | (with_reducible refine (CF.out _ om.out).mono ?_)); rintro e w' ⟨rfl, d'⟩; replace r := r.dn d'; replace om := Lib.hid (om.out.dn d'); replace oT := Lib.hid (oT.out.dn d'); replace oo := Lib.hid (oo.out.dn d'); replace on := Lib.hid (on.out.dn d'); replace HD := Lib.hid (HD.out.trans d'); replace c0 := r.time hl; replace c1 := (by have h := r.st hl; rwa [eS.out] at h); clear d') | ((with_reducible refine alloc33 (b := w'.heap.size) rfl ?_ ?_); rfl; refine Hid.out ?_))
  refine Lib.hid ?_
  obtain ⟨x', b_l, hw, hb, l, d', nn⟩ := new_blk w' 30 (mach Mc.zero)
  have n_r_l := Lib.hid (nn _ r.lt)
  have HL_l : Hid (W.heap.size ≤ b_l) := Lib.hid (by have := HD.out.size; omega)
  rw [← hw, ← hb]
  clear hw hb nn
  replace r := r.dn d'
  replace om := Lib.hid (om.out.dn d')
  replace oT := Lib.hid (oT.out.dn d')
  replace oo := Lib.hid (oo.out.dn d')
  replace on := Lib.hid (on.out.dn d')
  replace HD := Lib.hid (HD.out.trans d')
  replace c0 := r.time hl
  replace c1 := r.stS hl eS.out
  clear d'
  go_wp2_with (first | ((with_reducible refine load33 r hl ?_ ?_ ?_); rfl; rfl) | ((with_reducible refine loadCore r hl ?_ ?_ ?_); rfl; rfl) | ((with_reducible refine loadCsr r hl ?_ ?_ ?_); rfl; rfl) | ((with_reducible refine load33 l zlen ?_ ?_ ?_); rfl; rfl) | ((with_reducible refine loadCore l zlen ?_ ?_ ?_); rfl; rfl) | ((with_reducible refine loadCsr l zlen ?_ ?_ ?_); rfl; rfl) | ((with_reducible refine store33 m hl l zlen ?_ ?_ ?_ ?_); rfl; rfl; rfl; intro w' r' t'; refine Hid.out ?_))
  refine Lib.hid ?_
  replace om := Lib.hid (om.out.trn l (NoU8.mach _) t')
  replace oT := Lib.hid (oT.out.trn l (NoU8.mach _) t')
  replace oo := Lib.hid (oo.out.trn l (NoU8.mach _) t')
  replace on := Lib.hid (on.out.trn l (NoU8.mach _) t')
  replace r := r.trn t' n_r_l.out
  replace HD := Lib.hid (HD.out.trn HL_l.out t')
  clear t' l
  have l := r'
  clear r'
  replace c0 := r.time hl
  replace c1 := r.stS hl eS.out
  go_wp2_with (first | ((with_reducible refine load33 r hl ?_ ?_ ?_); rfl; rfl) | ((with_reducible refine loadCore r hl ?_ ?_ ?_); rfl; rfl) | ((with_reducible refine loadCsr r hl ?_ ?_ ?_); rfl; rfl) | ((with_reducible refine load33 l hl ?_ ?_ ?_); rfl; rfl) | ((with_reducible refine loadCore l hl ?_ ?_ ?_); rfl; rfl) | ((with_reducible refine loadCsr l hl ?_ ?_ ?_); rfl; rfl) | ((with_reducible refine storeTime (u := T) l hl ?_ ?_ ?_ ?_); rfl; rfl; rfl; intro w' r' t'; refine Hid.out ?_))
  refine Lib.hid ?_
  replace om := Lib.hid (om.out.trn l (NoU8.mach _) t')
  replace oT := Lib.hid (oT.out.trn l (NoU8.mach _) t')
  replace oo := Lib.hid (oo.out.trn l (NoU8.mach _) t')
  replace on := Lib.hid (on.out.trn l (NoU8.mach _) t')
  replace r := r.trn t' n_r_l.out
  replace HD := Lib.hid (HD.out.trn HL_l.out t')
  clear t' l
  have l := r'
  clear r'
  replace c0 := r.time hl
  replace c1 := r.stS hl eS.out
  replace l : Blk w' b_l 30 (mach mT) := by rw [eT.out]; exact l
  go_wp2_with (first | ((with_reducible refine load33 r hl ?_ ?_ ?_); rfl; rfl) | ((with_reducible refine loadCore r hl ?_ ?_ ?_); rfl; rfl) | ((with_reducible refine loadCsr r hl ?_ ?_ ?_); rfl; rfl) | ((with_reducible refine load33 l lT ?_ ?_ ?_); rfl; rfl) | ((with_reducible refine loadCore l lT ?_ ?_ ?_); rfl; rfl) | ((with_reducible refine loadCsr l lT ?_ ?_ ?_); rfl; rfl) | ((with_reducible refine alloc33 (b := w'.heap.size) rfl ?_ ?_); rfl; refine Hid.out ?_))
  refine Lib.hid ?_
  obtain ⟨x', b_o, hw, hb, o, d', nn⟩ := new_blk w' 30 (mach Mc.zero)
  have n_r_o := Lib.hid (nn _ r.lt)
  have n_l_o := Lib.hid (nn _ l.lt)
  have HL_o : Hid (W.heap.size ≤ b_o) := Lib.hid (by have := HD.out.size; omega)
  rw [← hw, ← hb]
  clear hw hb nn
  replace r := r.dn d'
  replace l := l.dn d'
  replace om := Lib.hid (om.out.dn d')
  replace oT := Lib.hid (oT.out.dn d')
  replace oo := Lib.hid (oo.out.dn d')
  replace on := Lib.hid (on.out.dn d')
  replace HD := Lib.hid (HD.out.trans d')
  replace c0 := r.time hl
  replace c1 := r.stS hl eS.out
  clear d'
  go_wp2_with (first | ((with_reducible refine load33 r hl ?_ ?_ ?_); rfl; rfl) | ((with_reducible refine loadCore r hl ?_ ?_ ?_); rfl; rfl) | ((with_reducible refine loadCsr r hl ?_ ?_ ?_); rfl; rfl) | ((with_reducible refine load33 l lT ?_ ?_ ?_); rfl; rfl) | ((with_reducible refine loadCore l lT ?_ ?_ ?_); rfl; rfl) | ((with_reducible refine loadCsr l lT ?_ ?_ ?_); rfl; rfl) | ((with_reducible refine load33 o zlen ?_ ?_ ?_); rfl; rfl) | ((with_reducible refine loadCore o zlen ?_ ?_ ?_); rfl; rfl) | ((with_reducible refine loadCsr o zlen ?_ ?_ ?_); rfl; rfl) | ((with_reducible refine store33 m hl o zlen ?_ ?_ ?_ ?_); rfl; rfl; rfl; intro w' r' t'; refine Hid.out ?_))
  refine Lib.hid ?_
  replace om := Lib.hid (om.out.trn o (NoU8.mach _) t')
  replace oT := Lib.hid (oT.out.trn o (NoU8.mach _) t')
  replace oo := Lib.hid (oo.out.trn o (NoU8.mach _) t')
  replace on := Lib.hid (on.out.trn o (NoU8.mach _) t')
  replace r := r.trn t' n_r_o.out
  replace l := l.trn t' n_l_o.out
  replace HD := Lib.hid (HD.out.trn HL_o.out t')
  clear t' o
  have o := r'
  clear r'
  replace c0 := r.time hl
  replace c1 := r.stS hl eS.out
  go_wp2_with (first | ((with_reducible refine load33 r hl ?_ ?_ ?_); rfl; rfl) | ((with_reducible refine loadCore r hl ?_ ?_ ?_); rfl; rfl) | ((with_reducible refine loadCsr r hl ?_ ?_ ?_); rfl; rfl) | ((with_reducible refine load33 l lT ?_ ?_ ?_); rfl; rfl) | ((with_reducible refine loadCore l lT ?_ ?_ ?_); rfl; rfl) | ((with_reducible refine loadCsr l lT ?_ ?_ ?_); rfl; rfl) | ((with_reducible refine load33 o hl ?_ ?_ ?_); rfl; rfl) | ((with_reducible refine loadCore o hl ?_ ?_ ?_); rfl; rfl) | ((with_reducible refine loadCsr o hl ?_ ?_ ?_); rfl; rfl) | ((with_reducible refine storeWord (i := 17) (u := S / 4 * 4) o hl ?_ ?_ ?_ rfl ?_); rfl; rfl; rfl; intro w' r' t'; refine Hid.out ?_))
  refine Lib.hid ?_
  replace om := Lib.hid (om.out.trn o (NoU8.mach _) t')
  replace oT := Lib.hid (oT.out.trn o (NoU8.mach _) t')
  replace oo := Lib.hid (oo.out.trn o (NoU8.mach _) t')
  replace on := Lib.hid (on.out.trn o (NoU8.mach _) t')
  replace r := r.trn t' n_r_o.out
  replace l := l.trn t' n_l_o.out
  replace HD := Lib.hid (HD.out.trn HL_o.out t')
  clear t' o
  have o := r'
  clear r'
  replace c0 := r.time hl
  replace c1 := r.stS hl eS.out
  replace o : Blk w' b_o 30 (mach mo) := by rw [eo.out, ec2.out]; exact o
  have c2 := o.stS lo io.out
  go_wp2_with (first | ((with_reducible refine load33 r hl ?_ ?_ ?_); rfl; rfl) | ((with_reducible refine loadCore r hl ?_ ?_ ?_); rfl; rfl) | ((with_reducible refine loadCsr r hl ?_ ?_ ?_); rfl; rfl) | ((with_reducible refine load33 l lT ?_ ?_ ?_); rfl; rfl) | ((with_reducible refine loadCore l lT ?_ ?_ ?_); rfl; rfl) | ((with_reducible refine loadCsr l lT ?_ ?_ ?_); rfl; rfl) | ((with_reducible refine load33 o lo ?_ ?_ ?_); rfl; rfl) | ((with_reducible refine loadCore o lo ?_ ?_ ?_); rfl; rfl) | ((with_reducible refine loadCsr o lo ?_ ?_ ?_); rfl; rfl) | ((with_reducible refine alloc33 (b := w'.heap.size) rfl ?_ ?_); rfl; refine Hid.out ?_))
  refine Lib.hid ?_
  obtain ⟨x', b_n, hw, hb, n, d', nn⟩ := new_blk w' 30 (mach Mc.zero)
  have n_r_n := Lib.hid (nn _ r.lt)
  have n_l_n := Lib.hid (nn _ l.lt)
  have n_o_n := Lib.hid (nn _ o.lt)
  have HL_n : Hid (W.heap.size ≤ b_n) := Lib.hid (by have := HD.out.size; omega)
  rw [← hw, ← hb]
  clear hw hb nn
  replace r := r.dn d'
  replace l := l.dn d'
  replace o := o.dn d'
  replace om := Lib.hid (om.out.dn d')
  replace oT := Lib.hid (oT.out.dn d')
  replace oo := Lib.hid (oo.out.dn d')
  replace on := Lib.hid (on.out.dn d')
  replace HD := Lib.hid (HD.out.trans d')
  replace c0 := r.time hl
  replace c1 := r.stS hl eS.out
  replace c2 := o.stS lo io.out
  clear d'
  go_wp2_with (first | ((with_reducible refine load33 r hl ?_ ?_ ?_); rfl; rfl) | ((with_reducible refine loadCore r hl ?_ ?_ ?_); rfl; rfl) | ((with_reducible refine loadCsr r hl ?_ ?_ ?_); rfl; rfl) | ((with_reducible refine load33 l lT ?_ ?_ ?_); rfl; rfl) | ((with_reducible refine loadCore l lT ?_ ?_ ?_); rfl; rfl) | ((with_reducible refine loadCsr l lT ?_ ?_ ?_); rfl; rfl) | ((with_reducible refine load33 o lo ?_ ?_ ?_); rfl; rfl) | ((with_reducible refine loadCore o lo ?_ ?_ ?_); rfl; rfl) | ((with_reducible refine loadCsr o lo ?_ ?_ ?_); rfl; rfl) | ((with_reducible refine load33 n zlen ?_ ?_ ?_); rfl; rfl) | ((with_reducible refine loadCore n zlen ?_ ?_ ?_); rfl; rfl) | ((with_reducible refine loadCsr n zlen ?_ ?_ ?_); rfl; rfl) | ((with_reducible refine store33 m hl n zlen ?_ ?_ ?_ ?_); rfl; rfl; rfl; intro w' r' t'; refine Hid.out ?_))
  refine Lib.hid ?_
  replace om := Lib.hid (om.out.trn n (NoU8.mach _) t')
  replace oT := Lib.hid (oT.out.trn n (NoU8.mach _) t')
  replace oo := Lib.hid (oo.out.trn n (NoU8.mach _) t')
  replace on := Lib.hid (on.out.trn n (NoU8.mach _) t')
  replace r := r.trn t' n_r_n.out
  replace l := l.trn t' n_l_n.out
  replace o := o.trn t' n_o_n.out
  replace HD := Lib.hid (HD.out.trn HL_n.out t')
  clear t' n
  have n := r'
  clear r'
  replace c0 := r.time hl
  replace c1 := r.stS hl eS.out
  replace c2 := o.stS lo io.out
  go_wp2_with (first | ((with_reducible refine load33 r hl ?_ ?_ ?_); rfl; rfl) | ((with_reducible refine loadCore r hl ?_ ?_ ?_); rfl; rfl) | ((with_reducible refine loadCsr r hl ?_ ?_ ?_); rfl; rfl) | ((with_reducible refine load33 l lT ?_ ?_ ?_); rfl; rfl) | ((with_reducible refine loadCore l lT ?_ ?_ ?_); rfl; rfl) | ((with_reducible refine loadCsr l lT ?_ ?_ ?_); rfl; rfl) | ((with_reducible refine load33 o lo ?_ ?_ ?_); rfl; rfl) | ((with_reducible refine loadCore o lo ?_ ?_ ?_); rfl; rfl) | ((with_reducible refine loadCsr o lo ?_ ?_ ?_); rfl; rfl) | ((with_reducible refine load33 n hl ?_ ?_ ?_); rfl; rfl) | ((with_reducible refine loadCore n hl ?_ ?_ ?_); rfl; rfl) | ((with_reducible refine loadCsr n hl ?_ ?_ ?_); rfl; rfl) | ((with_reducible refine storeWord (i := 17) (u := S / 4 * 4 + 2) n hl ?_ ?_ ?_ rfl ?_); rfl; rfl; rfl; intro w' r' t'; refine Hid.out ?_))
  refine Lib.hid ?_
  replace om := Lib.hid (om.out.trn n (NoU8.mach _) t')
  replace oT := Lib.hid (oT.out.trn n (NoU8.mach _) t')
  replace oo := Lib.hid (oo.out.trn n (NoU8.mach _) t')
  replace on := Lib.hid (on.out.trn n (NoU8.mach _) t')
  replace r := r.trn t' n_r_n.out
  replace l := l.trn t' n_l_n.out
  replace o := o.trn t' n_o_n.out
  replace HD := Lib.hid (HD.out.trn HL_n.out t')
  clear t' n
  have n := r'
  clear r'
  replace c0 := r.time hl
  replace c1 := r.stS hl eS.out
  replace c2 := o.stS lo io.out
  clear c2
  go_wp2_with (first | ((with_reducible refine load33 r hl ?_ ?_ ?_); rfl; rfl) | ((with_reducible refine loadCore r hl ?_ ?_ ?_); rfl; rfl) | ((with_reducible refine loadCsr r hl ?_ ?_ ?_); rfl; rfl) | ((with_reducible refine load33 l lT ?_ ?_ ?_); rfl; rfl) | ((with_reducible refine loadCore l lT ?_ ?_ ?_); rfl; rfl) | ((with_reducible refine loadCsr l lT ?_ ?_ ?_); rfl; rfl) | ((with_reducible refine load33 o lo ?_ ?_ ?_); rfl; rfl) | ((with_reducible refine loadCore o lo ?_ ?_ ?_); rfl; rfl) | ((with_reducible refine loadCsr o lo ?_ ?_ ?_); rfl; rfl) | ((with_reducible refine load33 n (show ({ m with c := m.c.set 17 (S / 4 * 4 + 2) } : Mc).c.length = 29 by simp [hl]) ?_ ?_ ?_); rfl; rfl) | ((with_reducible refine loadCore n (show ({ m with c := m.c.set 17 (S / 4 * 4 + 2) } : Mc).c.length = 29 by simp [hl]) ?_ ?_ ?_); rfl; rfl) | ((with_reducible refine loadCsr n (show ({ m with c := m.c.set 17 (S / 4 * 4 + 2) } : Mc).c.length = 29 by simp [hl]) ?_ ?_ ?_); rfl; rfl) | ((with_reducible refine storeWord (i := 26) (u := 0) n (show ({ m with c := m.c.set 17 (S / 4 * 4 + 2) } : Mc).c.length = 29 by simp [hl]) ?_ ?_ ?_ rfl ?_); rfl; rfl; rfl; intro w' r' t'; refine Hid.out ?_))
  refine Lib.hid ?_
  replace om := Lib.hid (om.out.trn n (NoU8.mach _) t')
  replace oT := Lib.hid (oT.out.trn n (NoU8.mach _) t')
  replace oo := Lib.hid (oo.out.trn n (NoU8.mach _) t')
  replace on := Lib.hid (on.out.trn n (NoU8.mach _) t')
  replace r := r.trn t' n_r_n.out
  replace l := l.trn t' n_l_n.out
  replace o := o.trn t' n_o_n.out
  replace HD := Lib.hid (HD.out.trn HL_n.out t')
  clear t' n
  have n := r'
  clear r'
  replace c0 := r.time hl
  replace c1 := r.stS hl eS.out
  replace n : Blk w' b_n 30 (mach { m with c := (m.c.set 17 (S / 4 * 4 + 2)).set 26 0 }) := n
  go_wp2_with (first | ((with_reducible refine load33 r hl ?_ ?_ ?_); rfl; rfl) | ((with_reducible refine loadCore r hl ?_ ?_ ?_); rfl; rfl) | ((with_reducible refine loadCsr r hl ?_ ?_ ?_); rfl; rfl) | ((with_reducible refine load33 l lT ?_ ?_ ?_); rfl; rfl) | ((with_reducible refine loadCore l lT ?_ ?_ ?_); rfl; rfl) | ((with_reducible refine loadCsr l lT ?_ ?_ ?_); rfl; rfl) | ((with_reducible refine load33 o lo ?_ ?_ ?_); rfl; rfl) | ((with_reducible refine loadCore o lo ?_ ?_ ?_); rfl; rfl) | ((with_reducible refine loadCsr o lo ?_ ?_ ?_); rfl; rfl) | ((with_reducible refine load33 n (show ({ m with c := (m.c.set 17 (S / 4 * 4 + 2)).set 26 0 } : Mc).c.length = 29 by simp [hl]) ?_ ?_ ?_); rfl; rfl) | ((with_reducible refine loadCore n (show ({ m with c := (m.c.set 17 (S / 4 * 4 + 2)).set 26 0 } : Mc).c.length = 29 by simp [hl]) ?_ ?_ ?_); rfl; rfl) | ((with_reducible refine loadCsr n (show ({ m with c := (m.c.set 17 (S / 4 * 4 + 2)).set 26 0 } : Mc).c.length = 29 by simp [hl]) ?_ ?_ ?_); rfl; rfl) | ((with_reducible refine storeWord (i := 27) (u := 0) n (show ({ m with c := (m.c.set 17 (S / 4 * 4 + 2)).set 26 0 } : Mc).c.length = 29 by simp [hl]) ?_ ?_ ?_ rfl ?_); rfl; rfl; rfl; intro w' r' t'; refine Hid.out ?_))
  refine Lib.hid ?_
  replace om := Lib.hid (om.out.trn n (NoU8.mach _) t')
  replace oT := Lib.hid (oT.out.trn n (NoU8.mach _) t')
  replace oo := Lib.hid (oo.out.trn n (NoU8.mach _) t')
  replace on := Lib.hid (on.out.trn n (NoU8.mach _) t')
  replace r := r.trn t' n_r_n.out
  replace l := l.trn t' n_l_n.out
  replace o := o.trn t' n_o_n.out
  replace HD := Lib.hid (HD.out.trn HL_n.out t')
  clear t' n
  have n := r'
  clear r'
  replace c0 := r.time hl
  replace c1 := r.stS hl eS.out
  replace n : Blk w' b_n 30 (mach mn) := by rw [en.out, ec3.out]; exact n
  have c2 := l.timeT lT ic.out
  go_wp2_with (first | ((with_reducible refine load33 r hl ?_ ?_ ?_); rfl; rfl) | ((with_reducible refine loadCore r hl ?_ ?_ ?_); rfl; rfl) | ((with_reducible refine loadCsr r hl ?_ ?_ ?_); rfl; rfl) | ((with_reducible refine load33 l lT ?_ ?_ ?_); rfl; rfl) | ((with_reducible refine loadCore l lT ?_ ?_ ?_); rfl; rfl) | ((with_reducible refine loadCsr l lT ?_ ?_ ?_); rfl; rfl) | ((with_reducible refine load33 o lo ?_ ?_ ?_); rfl; rfl) | ((with_reducible refine loadCore o lo ?_ ?_ ?_); rfl; rfl) | ((with_reducible refine loadCsr o lo ?_ ?_ ?_); rfl; rfl) | ((with_reducible refine load33 n ln ?_ ?_ ?_); rfl; rfl) | ((with_reducible refine loadCore n ln ?_ ?_ ?_); rfl; rfl) | ((with_reducible refine loadCsr n ln ?_ ?_ ?_); rfl; rfl) | (go_at_call 20; (first | (with_reducible refine (C3.out _ oo.out).mono ?_) | (with_reducible refine (C4.out _ on.out).mono ?_) | (with_reducible refine (C1.out _ om.out).mono ?_) | (with_reducible refine (C2.out _ oT.out).mono ?_)); rintro e w' ⟨rfl, d'⟩; replace r := r.dn d'; replace l := l.dn d'; replace o := o.dn d'; replace n := n.dn d'; replace om := Lib.hid (om.out.dn d'); replace oT := Lib.hid (oT.out.dn d'); replace oo := Lib.hid (oo.out.dn d'); replace on := Lib.hid (on.out.dn d'); replace HD := Lib.hid (HD.out.trans d'); replace c0 := r.time hl; replace c1 := r.stS hl eS.out; replace c2 := l.timeT lT ic.out; clear d'))
  go_ret
  exact ⟨rfl, HD.out⟩
theorem lTm (m : Mc) (d : Int) (d0 : 0 ≤ d) (d1 : d < 18446744073709551616) (W : World) (hm : m.Ok W) (hx : m.xs.length ≤ 9223372036854775807) (hy : m.ys.length ≤ 9223372036854775807) :
    Calls Try.prog 6 #[.agg (mach m), .int .u64 d] W fun e W' => e = .returned (.bool true) ∧ Dn W W' := by
  by_cases hb : m.xs.length ≤ 600 ∧ m.ys.length ≤ 600
  · obtain ⟨T, hT⟩ : ∃ T, T = (m.t + d) % 18446744073709551616 := ⟨_, rfl⟩
    by_cases hTt : T < m.t
    · exact lTm_a m d d0 d1 W hm hb.1 hb.2 T hT hTt
    · cases hd : M.due m.c m.t
      · exact lTm_b m d d0 d1 W hm hb.1 hb.2 T hT hTt hd
      · exact lTm_c m d d0 d1 W hm hb.1 hb.2 T hT hTt hd
  · exact lTm_no m d d0 d1 W hm hx hy hb
end Go.Proofs.Ytchekfipdhoejaa
