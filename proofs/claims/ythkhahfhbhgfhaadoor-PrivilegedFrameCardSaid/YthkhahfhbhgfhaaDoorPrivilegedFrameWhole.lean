/-
  The law PrivilegedFrame of the law package returns true at every input, and each argument reads as it did; conditions: the listed package variables hold what the program's text lays there (the card ties them to it).
-/
import Derived.Test.YthkhahfhbhgfhaaDoorCards
import Derived.Test.YthkhahfhbhgfhaaDoorTie
import Derived.Test.YthkhahfhbhgfhaaDoorPkW
import Derived.Test.YthkhahfhbhgfhaaDoorPkG
namespace Go.Proofs.YthkhahfhbhgfhaaDoor
open Go.ChangeShapes Go.WideShapes Go.ChangeAt Go.RowKit Go.Sort
set_option linter.unusedVariables false

/-- the loops' relation: k of N rounds are done, of what was there nothing has turned -/
def FrRel (N : Nat) (w0 : World) (k : Value) (w : World) : Prop := ∃ j : Nat, j ≤ N ∧ k = .int .i64 j ∧ Dn w0 w
section
variable {ops : Array Oper} {dst : Option Tmp} {x y : Operand} {ty : TypeId} {pos : String} {aft : Array Edge} {gd : Option (Nat × Bool)} {a : Act} {w : World} {K : Act → Prop}
/-- m[:l] where the order is drawn -/
theorem qop_upto {A : Option Addr} {len c l : Nat} {k : IntKind} (hl : l ≤ c) (hx : a.eval x = .slice A len c) (hy : a.eval y = .int k (l : Int)) (h : K (a.put dst (.slice A l c))) :
    Oper.quiet Tryd.prog ⟨dst, .slice 27 x none (some y) none, ty, pos, aft, gd⟩ a (Later w) K := by
  obtain ⟨i, hi, hz, hs, hb⟩ := info_parts info8
  have hu : Tryd.prog.underlying 27 = some (.slice (Tryd.prog.elem 27)) := by kernel_rfl
  have he : Tryd.prog.elem 27 = 5 := by kernel_rfl
  have e0 : sliced A 0 l c 1 = .slice A l c := by
    unfold sliced
    cases A with
    | none => simp
    | some ad => simp [Addr.add]
  refine ⟨_, fun w' hw' => ?_, h⟩
  have hr := run_slice_h (P := Tryd.prog) w' 27 A len c hu k (l : Int) (by omega) (by omega)
  have hz : (sizeOf (Tryd.prog.elem 27)).run Tryd.prog w' = .ok 1 w' := by rw [he]; simp [sizeOf, typeInfo, hi, hs]
  rw [hz, Result.andThen_ok, Int.toNat_natCast, e0] at hr
  unfold Oper.quietAt execOp
  simp only [Option.map, hx, hy, Sem.run_bind, Sem.run_pure, run_sliceAt_slice _ _ _ _ _ _ hu, hr, Result.andThen_ok]
  exact ⟨rfl, rfl⟩
end
theorem by_77 {ys : List Int} (h : M.By ys) : M.By (ys ++ [77]) := fun x hx => by
  rcases List.mem_append.1 hx with h1 | h1
  · exact h x h1
  · simp only [List.mem_cons, List.not_mem_nil, or_false] at h1
    subst h1; decide
theorem Bs.last {w : World} {g c : Nat} {ys : List Int} {u : Int} (h : Bs w (some ⟨g, 0, none⟩) c (ys ++ [u])) : w.cell? ⟨g, ys.length, none⟩ = some (.int .u8 u) := by
  obtain ⟨ad, e, _, hc⟩ := h.2.2 (by simp)
  cases e
  have := hc ys.length u (by simp)
  rwa [add0] at this
theorem Bs.front {w : World} {A : Option Addr} {c : Nat} {ys : List Int} {u : Int} (h : Bs w A c (ys ++ [u])) : Bs w A c ys := by
  have := h.take (A' := A) (l := ys.length) (by simp) rfl
  rwa [List.take_left'] at this
  rfl
end Go.Proofs.YthkhahfhbhgfhaaDoor
namespace Go.Proofs.YthkhahfhbhgfhaaDoor
open Go.ChangeShapes Go.WideShapes Go.ChangeAt Go.RowKit Go.Sort
set_option linter.unusedVariables false

set_option maxRecDepth 100000 in
set_option maxHeartbeats 2000000 in
theorem pf_21 (m : Mc) (rd ra rb imm : Int) (W : World) (hm : m.Ok W) (T : Cs.CsrTabs W) (i0 : -2147483648 ≤ imm) (i1 : imm < 2147483648) (hx : m.xs.length ≤ 9223372036854775807) (hy : m.ys.length ≤ 9223372036854775807) (hf : decide (m.xs.length ≤ 600 ∧ m.ys.length ≤ 600) = true) (hpl : (Is.M.ok 21 rd ra rb imm && Is.M.priv 21) = true) (c1 y1 : List Int) (b1 : Bool) (p q : Int) (h1 : M.px m.c m.ys m.h m.t 21 rd ra imm = ⟨c1, y1, b1⟩) (hpc : m.c.getD 16 0 = p) (hq : c1.getD 16 0 = q) (hb : b1 = m.h) (hy1 : y1.length = m.ys.length) (hyt : y1.take m.ys.length = m.ys) (hr : ∀ j : Nat, j < 16 → ((j : Int) ≠ rd ∨ j = 0) → c1.getD j 0 = m.c.getD j 0) (hcs : ∀ j : Nat, j < 12 → c1.getD (17 + j) 0 = m.c.getD (17 + j) 0) (hq5 : (q == (p + 4) % 4294967296) = true) :
    Calls Tryd.prog 5 #[.agg (mach m), .agg (ins 21 rd ra rb imm)] W fun e W' => e = .returned (.bool true) ∧ Dn W W' := by
  have hl := hm.len
  have hc := hm.core
  have hs : m.xs.length ≤ 600 := by simp only [decide_eq_true_eq] at hf; omega
  have hn : m.ys.length ≤ 600 := by simp only [decide_eq_true_eq] at hf; omega
  have C0 := Lib.hid fun w => fun (t : Cs.CsrTabs w) => awakeP w t
  have CF := Lib.hid fun w => fun (ow : m.Ok w) => rfew m true w ow hx hy hf
  have hvp : Is.M.ok 21 rd ra rb imm = true ∧ Is.M.priv 21 = true := by simpa using hpl
  have CP := Lib.hid (rRight 21 rd ra rb imm true i0 i1 hpl)
  have HO := Lib.hid hm.out
  have C1 := Lib.hid fun (w : World) (mo : Mc) (g cap : Nat) (e : mo = { m with B := some ⟨g, 0, none⟩, q := cap }) (ow : mo.Ok w) (t : Cs.CsrTabs w) => (by exact xRunP mo 21 rd ra rb imm m.c m.ys m.h m.t (by rw [e]) (by rw [e]) (by rw [e]) (by rw [e]) ⟨c1, y1, b1⟩ h1 (by omega) i0 i1 (by decide) w ow t : Calls Tryd.prog 19 #[.agg (mach mo), .agg (ins 21 rd ra rb imm)] w fun e W' => ∃ m1, e = .returned (.agg (mach m1)) ∧ Hid (m1.Ok W') ∧ Hid (Pd mo ⟨c1, y1, b1⟩ w.heap.size m1) ∧ Dn w W')
  have p0 := (M.core_pc hc).1
  have p1 := (M.core_pc hc).2
  rw [show M.pc m.c = p from hpc] at p0 p1
  have hwr : IntKind.u32.wrap (p + 4) = (p + 4) % 4294967296 := rfl
  have hwi : IntKind.i64.wrap imm = imm := by rw [IntKind.wrap_i64]; omega
  have HQ := Lib.hid hq
  have HB1 := Lib.hid hb
  have HY1 := Lib.hid hy1
  have HYT := Lib.hid hyt
  have HR := Lib.hid hr
  have HC := Lib.hid hcs
  clear hf hpl hvp h1 hq hb hy1 hyt hr hcs
  have HD := Lib.hid (Dn.refl W)
  go_enter Tryd.func5, Tryd.ntmps5
  go_wp2_with (first | ((with_reducible refine wpList_box (vs := (mach m)) ?_ ?_ ?_); rfl; rfl; intro b_v2 w' nn; refine Hid.out ?_))
  refine Lib.hid ?_
  have HL_v2 : Hid (W.heap.size ≤ b_v2) := Lib.hid (Blk.hi nn HD.out.size)
  have d' := nn.dn
  replace HD := Lib.hid (HD.out.trans d')
  have v2 := nn.blk
  clear d' nn
  go_wp2_with (first | ((with_reducible refine wpList_box (vs := (ins 21 rd ra rb imm)) ?_ ?_ ?_); rfl; rfl; intro b_v3 w' nn; refine Hid.out ?_))
  refine Lib.hid ?_
  have n_v2_v3 := Lib.hid (nn.ne _ v2.lt)
  have HL_v3 : Hid (W.heap.size ≤ b_v3) := Lib.hid (Blk.hi nn HD.out.size)
  have d' := nn.dn
  replace v2 := v2.dn d'
  replace HD := Lib.hid (HD.out.trans d')
  have v3 := nn.blk
  clear d' nn
  go_wp2_with (first | (go_at_call 15; (with_reducible refine (C0.out _ (T.dn HD.out)).mono ?_); rintro e w' ⟨rfl, d'⟩; refine Hid.out ?_))
  refine Lib.hid ?_
  replace v2 := v2.dn d'
  replace v3 := v3.dn d'
  replace HD := Lib.hid (HD.out.trans d')
  clear d'
  go_wp2_with (first | ((with_reducible refine load33 v2 hl ?_ ?_ ?_); rfl; rfl) | (go_at_call 10; (with_reducible refine (CF.out _ (hm.dn HD.out)).mono ?_); rintro e w' ⟨rfl, d'⟩; refine Hid.out ?_))
  refine Lib.hid ?_
  replace v2 := v2.dn d'
  replace v3 := v3.dn d'
  replace HD := Lib.hid (HD.out.trans d')
  clear d'
  go_wp2_with (first | ((with_reducible refine loadI v3 ?_ ?_ ?_); rfl; rfl) | (go_at_call 18; (with_reducible refine (CP.out _).mono ?_); rintro e w' ⟨rfl, d'⟩; refine Hid.out ?_))
  refine Lib.hid ?_
  replace v2 := v2.dn d'
  replace v3 := v3.dn d'
  replace HD := Lib.hid (HD.out.trans d')
  clear d'
  go_wp2_with (first | ((with_reducible refine load33 v2 hl ?_ ?_ ?_); rfl; rfl) | ((with_reducible refine wpList_alloc zeroMach ?_ ?_); rfl; intro b_v5 w' nn; refine Hid.out ?_))
  refine Lib.hid ?_
  have n_v2_v5 := Lib.hid (nn.ne _ v2.lt)
  have n_v3_v5 := Lib.hid (nn.ne _ v3.lt)
  have HL_v5 : Hid (W.heap.size ≤ b_v5) := Lib.hid (Blk.hi nn HD.out.size)
  have d' := nn.dn
  replace v2 := v2.dn d'
  replace v3 := v3.dn d'
  replace HD := Lib.hid (HD.out.trans d')
  have v5 := nn.blk
  clear d' nn
  go_wp2_with (first | ((with_reducible refine store33 m hl v5 zlen ?_ ?_ ?_ ?_); rfl; rfl; rfl; intro w' r' t'; refine Hid.out ?_))
  refine Lib.hid ?_
  replace v2 := v2.trn t' n_v2_v5.out
  replace v3 := v3.trn t' n_v3_v5.out
  replace HD := Lib.hid (HD.out.trn HL_v5.out t')
  clear t' v5
  have v5 := r'
  clear r'
  have kk := v2.out hl
  have vlt := v2.lt
  have OWN := Lib.hid (own_zero w')
  have D0 : Hid (Dn w' (w'.alloc (Obj.cells #[] 5))) := Lib.hid ((Dn.refl w').alloc _)
  have HB := Lib.hid ((HO.out.dn HD.out).dn D0.out)
  go_wp2_with (at_builtin; (refine wpList_append8 rfl _ _ rfl w'.heap.size (.slice (some ⟨w'.heap.size, 0, none⟩) 0 0) 0 [] rfl OWN.out m.B m.q m.ys rfl HB.out (by omega) D0.out.size ?_); intro r w2 own1 gr1; refine Hid.out ?_)
  refine Lib.hid ?_
  have hown : w2.ownsRow w'.heap.size 5 1 r m.ys.length (m.ys.map (Value.int .u8)) := by simpa using own1
  have d1 : Dn w' w2 := below_keep D0.out gr1 D0.out.size (fun q e => (OWN.out.lt q e).1)
  clear own1 gr1 OWN HB kk vlt
  have OWN2 : Hid ((w2.alloc (.cells #[.int .u8 77] 5)).ownsRow w'.heap.size 5 1 r m.ys.length (m.ys.map (Value.int .u8))) := Lib.hid (hown.alloc _)
  have H1 := Lib.hid (byte_bs w2 77 (by decide) (by decide))
  replace d1 := Lib.hid d1
  clear hown
  go_wp2_with (at_builtin; (refine wpList_append8 rfl _ _ rfl w'.heap.size r m.ys.length _ rfl OWN2.out _ 1 [77] rfl H1.out (by simp; omega) (Nat.le_trans d1.out.size (by simp)) ?_); intro r2 w3 own2 gr2; refine Hid.out ?_)
  refine Lib.hid ?_
  have own3 : w3.ownsRow w'.heap.size 5 1 r2 (m.ys.length + 1) ((m.ys ++ [77]).map (Value.int .u8)) := by simpa using own2
  have d' : Dn w' w3 := below_keep (d1.out.alloc _) gr2 (Nat.le_trans d1.out.size (by simp)) (fun q e => (OWN2.out.lt q e).1)
  obtain ⟨g_, cap, rfl, hg, _⟩ := own_shape own3 (by omega)
  obtain ⟨A', c', e1, hb⟩ := Bs.of_own (n := m.ys.length + 1) (xs := m.ys ++ [77]) (by simp) (by_77 HO.out.2.1) own3
  simp only [Value.slice.injEq] at e1
  obtain ⟨rfl, _, rfl⟩ := e1
  clear own2 own3 gr2 H1 OWN2 d1 D0 hg
  replace v2 := v2.dn d'
  replace v3 := v3.dn d'
  replace v5 := v5.dn d'
  replace HD := Lib.hid (HD.out.trans d')
  clear d'
  have HN := Lib.hid hb
  obtain ⟨n1, hn1⟩ : ∃ n1 : Nat, m.ys.length + 1 = n1 := ⟨_, rfl⟩
  rw [hn1]
  have HC5 : Hid (n1 ≤ cap) := Lib.hid (by have := hb.1; rw [← hn1]; simpa using this)
  have hn2 : (m.ys.length : Int) < n1 := by omega
  have HL5 : Hid (m.ys.length ≤ n1) := Lib.hid (by omega)
  clear hb hn1
  have kk := v2.out hl
  obtain ⟨mo, hmo⟩ : ∃ mo : Mc, mo = { m with B := some ⟨g_, 0, none⟩, q := cap } := ⟨_, rfl⟩
  have lo5 : mo.c.length = 29 := by rw [hmo]; exact hl
  replace hmo := Lib.hid hmo
  go_wp2_with (first | ((with_reducible refine wpList_upto (A := some ⟨g_, 0, none⟩) (len := n1) (c := cap) (l := m.ys.length) (k := .i64) HL5.out HC5.out ?_ ?_ ?_ ?_); rfl; rfl; rfl; simp only [Act.put, List.setIfInBounds_toArray, List.set_cons_succ, List.set_cons_zero]) | ((with_reducible refine storeOut (B' := some ⟨g_, 0, none⟩) (q' := cap) (n' := m.ys.length) (zs := m.ys) v5 hl rfl ?_ ?_ ?_ ?_); rfl; rfl; rfl; intro w' r' t'; refine Hid.out ?_))
  refine Lib.hid ?_
  replace HN := Lib.hid (HN.out.trn v5 (NoU8.mach _) t')
  replace v2 := v2.trn t' n_v2_v5.out
  replace v3 := v3.trn t' n_v3_v5.out
  replace r' : Blk w' b_v5 30 (mach mo) := by rw [hmo.out]; exact r'
  replace HD := Lib.hid (HD.out.trn HL_v5.out t')
  clear t' v5
  have v5 := r'
  clear r'
  clear kk HL5
  have omo : Hid (mo.Ok w') := Lib.hid (by have o := hm.dn HD.out; rw [hmo.out]; exact ⟨hc, o.mem, HN.out.front, o.t0, o.t1⟩)
  go_wp2_with (first | ((with_reducible refine load33 v5 lo5 ?_ ?_ ?_); rfl; rfl; simp only [Act.put, List.setIfInBounds_toArray, List.set_cons_succ, List.set_cons_zero]) | ((with_reducible refine loadI v3 ?_ ?_ ?_); rfl; rfl; simp only [Act.put, List.setIfInBounds_toArray, List.set_cons_succ, List.set_cons_zero]) | (go_at_call 19; (with_reducible refine (C1.out _ mo g_ cap hmo.out omo.out (T.dn HD.out)).mono ?_); rintro e w' ⟨ma, rfl, oa', ea, d'⟩; dsimp only; refine Hid.out ?_))
  refine Lib.hid ?_
  replace v2 := v2.dn d'
  replace v3 := v3.dn d'
  replace v5 := v5.dn d'
  replace omo := Lib.hid (omo.out.dn d')
  replace HN := Lib.hid (HN.out.dn d')
  replace HD := Lib.hid (HD.out.trans d')
  clear d'
  have l7 := oa'.out.len
  have lmo := hmo
  have nt : ma.t = m.t := ea.out.t.trans (by rw [hmo.out])
  have nh : ma.h = m.h := by rw [ea.out.h]; exact HB1.out
  have na : ma.c.getD 16 0 = q := by rw [ea.out.c]; exact HQ.out
  have nx : ma.xs = m.xs := ea.out.xs.trans (by rw [hmo.out])
  have nxl : ma.xs.length = m.xs.length := by rw [nx]
  have nyl : ma.ys.length = m.ys.length := by rw [ea.out.ys]; exact HY1.out
  have nyt : ma.ys.take m.ys.length = m.ys := by rw [ea.out.ys]; exact HYT.out
  have hcap : (m.ys.length : Int) ≤ ma.q := by have := oa'.out.out.1; omega
  have hcap2 : m.ys.length ≤ ma.q := by omega
  replace nx := Lib.hid nx
  replace nyt := Lib.hid nyt
  clear lmo
  have RA := Lib.hid (fun j hj => by rw [ea.out.c]; exact HR.out j hj : ∀ j : Nat, j < 16 → ((j : Int) ≠ rd ∨ j = 0) → ma.c.getD j 0 = m.c.getD j 0)
  have RC := Lib.hid (fun j hj => by rw [ea.out.c]; exact HC.out j hj : ∀ j : Nat, j < 12 → ma.c.getD (17 + j) 0 = m.c.getD (17 + j) 0)
  have oa := Lib.hid oa'.out
  go_wp2_with (first | ((with_reducible refine wpList_alloc zeroMach ?_ ?_); rfl; intro b_v7 w' nn; simp only [Act.put, List.setIfInBounds_toArray, List.set_cons_succ, List.set_cons_zero]; refine Hid.out ?_))
  refine Lib.hid ?_
  have n_v2_v7 := Lib.hid (nn.ne _ v2.lt)
  have n_v3_v7 := Lib.hid (nn.ne _ v3.lt)
  have n_v5_v7 := Lib.hid (nn.ne _ v5.lt)
  have HL_v7 : Hid (W.heap.size ≤ b_v7) := Lib.hid (Blk.hi nn HD.out.size)
  have d' := nn.dn
  replace v2 := v2.dn d'
  replace v3 := v3.dn d'
  replace v5 := v5.dn d'
  replace omo := Lib.hid (omo.out.dn d')
  replace oa := Lib.hid (oa.out.dn d')
  replace HN := Lib.hid (HN.out.dn d')
  replace HD := Lib.hid (HD.out.trans d')
  have v7 := nn.blk
  clear d' nn
  go_wp2_with (first | ((with_reducible refine store33 ma l7 v7 zlen ?_ ?_ ?_ ?_); rfl; rfl; rfl; intro w' r' t'; refine Hid.out ?_))
  refine Lib.hid ?_
  replace omo := Lib.hid (omo.out.trn v7 (NoU8.mach _) t')
  replace oa := Lib.hid (oa.out.trn v7 (NoU8.mach _) t')
  replace HN := Lib.hid (HN.out.trn v7 (NoU8.mach _) t')
  replace v2 := v2.trn t' n_v2_v7.out
  replace v3 := v3.trn t' n_v3_v7.out
  replace v5 := v5.trn t' n_v5_v7.out
  replace HD := Lib.hid (HD.out.trn HL_v7.out t')
  clear t' v7
  have v7 := r'
  clear r'
  go_wp2_with fail
  have ck0 := v7.mem l7
  rw [nxl] at ck0
  have ck1 := v2.mem hl
  have ck2 := v7.time l7
  rw [nt] at ck2
  have ck3 := v2.time hl
  have ck4 := v7.out l7
  rw [nyl] at ck4
  have ck5 := v2.out hl
  have ck6 := HN.out.last
  have hn3 : (0 : Int) ≤ (m.ys.length : Int) := by omega
  have ck7 := v3.iop
  have QM := Lib.hid fun p q => Calls.regrown_of (same_yes ma.A m.A ma.k m.k m.xs.length m.xs.length ma.xs m.xs _ (oa.out.mem.dn (below_regrown w' p q)) ((hm.dn HD.out).mem.dn (below_regrown w' p q)) nxl.symm rfl nx.out (by omega))
  have QO := Lib.hid fun p q => Calls.regrown_of (same_yes ma.B m.B ma.q m.q m.ys.length m.ys.length (ma.ys.take m.ys.length) m.ys _ ((oa.out.out.take (A' := ma.B) (by omega) rfl).dn (below_regrown w' p q)) ((hm.dn HD.out).out.dn (below_regrown w' p q)) (by rw [List.length_take]; omega) rfl nyt.out (by rw [List.length_take]; omega))
  have HCP := Lib.hid hcap2
  have lck0 := fun d os => cell_regrown ck0 d os
  have lck1 := fun d os => cell_regrown ck1 d os
  have lck2 := fun d os => cell_regrown ck2 d os
  have lck3 := fun d os => cell_regrown ck3 d os
  have lck4 := fun d os => cell_regrown ck4 d os
  have lck5 := fun d os => cell_regrown ck5 d os
  have lck6 := fun d os => cell_regrown ck6 d os
  have lck7 := fun d os => cell_regrown ck7 d os
  refine wp_region_quiet_below (by kernel_rfl) (by kernel_rfl) ?_
  simp only [List.append]
  repeat (first | go_big_quiet_skip | (go_big_quiet_want; first | ((with_reducible refine qop_upto (l := m.ys.length) HCP.out ?_ ?_ ?_); rfl; rfl; simp only [Act.put, List.setIfInBounds_toArray, List.set_cons_succ, List.set_cons_zero]; go_big_quiet_on) | (go_big_quiet_op; first | go_big_quiet_on | go_big_quiet_call (first | (with_reducible exact QM.out _ _) | (with_reducible exact QO.out _ _)))))
  refine wpQuiet_nil ?_
  intro _ hw'
  obtain ⟨⟨dq, osq⟩, hw''⟩ := hw'
  subst hw''
  have d' := below_regrown w' dq osq
  clear QM QO HCP lck0 lck1 lck2 lck3 lck4 lck5 lck6 lck7 ck0 ck1 ck2 ck3 ck4 ck5 ck6 ck7
  replace v2 := v2.dn d'
  replace v3 := v3.dn d'
  replace v5 := v5.dn d'
  replace v7 := v7.dn d'
  replace omo := Lib.hid (omo.out.dn d')
  replace oa := Lib.hid (oa.out.dn d')
  replace HN := Lib.hid (HN.out.dn d')
  replace HD := Lib.hid (HD.out.trans d')
  clear d'
  generalize grow (redrawn w' dq) osq = w' at v2 v3 v5 v7 omo oa HN HD ⊢
  go_wp2_with fail
  go_loopw [8] (fun k w => FrRel 16 w' k w) (fun k _ => 16 - (intOf k).toNat)
  case atStart => exact ⟨0, by decide, rfl, Dn.refl _⟩
  case round =>
    obtain ⟨j, hj, rfl, dn⟩ := hrel
    replace v2 := v2.dn dn
    replace v3 := v3.dn dn
    replace v5 := v5.dn dn
    replace v7 := v7.dn dn
    replace omo := Lib.hid (omo.out.dn dn)
    replace oa := Lib.hid (oa.out.dn dn)
    replace HN := Lib.hid (HN.out.dn dn)
    have HW := Lib.hid (HD.out.trans dn)
    have DJ := Lib.hid dn
    clear HD dn
    by_cases hlt : j < 16
    · have hlt2 : (j : Int) < 16 := by omega
      by_cases hjr : (j : Int) ≠ rd ∨ j = 0
      · have hz := RA.out j hlt hjr
        clear hjr
        have HD := Lib.hid (Dn.refl wr)
        have lo0 : (0 : Int) ≤ (j : Int) := by omega
        go_wp2_with fail
        have ck0 := v7.word l7 j (by simp; omega)
        have ck1 := v2.word hl j (by simp; omega)
        rw [hz] at ck0
        generalize m.c.getD j 0 = z at ck0 ck1
        have ck2 := v3.iop
        have ck3 := v3.ird
        have ck4 := v3.iimm
        have lck0 := fun d os => cell_regrown ck0 d os
        have lck1 := fun d os => cell_regrown ck1 d os
        have lck2 := fun d os => cell_regrown ck2 d os
        have lck3 := fun d os => cell_regrown ck3 d os
        have lck4 := fun d os => cell_regrown ck4 d os
        refine wp_region_quiet_below (by kernel_rfl) (by kernel_rfl) ?_
        repeat (first | go_big_quiet_skip | (go_big_quiet_want; (go_big_quiet_op; go_big_quiet_on)))
        refine wpQuiet_nil ?_
        intro _ hw'
        obtain ⟨⟨dq, osq⟩, hw''⟩ := hw'
        subst hw''
        have d' := below_regrown wr dq osq
        clear lck0 lck1 lck2 lck3 lck4 ck0 ck1 ck2 ck3 ck4
        replace v2 := v2.dn d'
        replace v3 := v3.dn d'
        replace v5 := v5.dn d'
        replace v7 := v7.dn d'
        replace omo := Lib.hid (omo.out.dn d')
        replace oa := Lib.hid (oa.out.dn d')
        replace HN := Lib.hid (HN.out.dn d')
        replace HD := Lib.hid (HD.out.trans d')
        clear d'
        generalize grow (redrawn wr dq) osq = w' at v2 v3 v5 v7 omo oa HN HD ⊢
        go_wp2_with fail
        exact ⟨⟨j + 1, by omega, by go_num, DJ.out.trans HD.out⟩, by simp [intOf]; omega⟩
      · obtain ⟨hj1, hj2⟩ : (j : Int) = rd ∧ j ≠ 0 := by omega
        clear hjr
        by_cases hz : ma.c.getD j 0 = m.c.getD j 0
        · clear hj1 hj2
          have HD := Lib.hid (Dn.refl wr)
          have lo0 : (0 : Int) ≤ (j : Int) := by omega
          go_wp2_with fail
          have ck0 := v7.word l7 j (by simp; omega)
          have ck1 := v2.word hl j (by simp; omega)
          rw [hz] at ck0
          generalize m.c.getD j 0 = z at ck0 ck1
          have ck2 := v3.iop
          have ck3 := v3.ird
          have ck4 := v3.iimm
          have lck0 := fun d os => cell_regrown ck0 d os
          have lck1 := fun d os => cell_regrown ck1 d os
          have lck2 := fun d os => cell_regrown ck2 d os
          have lck3 := fun d os => cell_regrown ck3 d os
          have lck4 := fun d os => cell_regrown ck4 d os
          refine wp_region_quiet_below (by kernel_rfl) (by kernel_rfl) ?_
          repeat (first | go_big_quiet_skip | (go_big_quiet_want; (go_big_quiet_op; go_big_quiet_on)))
          refine wpQuiet_nil ?_
          intro _ hw'
          obtain ⟨⟨dq, osq⟩, hw''⟩ := hw'
          subst hw''
          have d' := below_regrown wr dq osq
          clear lck0 lck1 lck2 lck3 lck4 ck0 ck1 ck2 ck3 ck4
          replace v2 := v2.dn d'
          replace v3 := v3.dn d'
          replace v5 := v5.dn d'
          replace v7 := v7.dn d'
          replace omo := Lib.hid (omo.out.dn d')
          replace oa := Lib.hid (oa.out.dn d')
          replace HN := Lib.hid (HN.out.dn d')
          replace HD := Lib.hid (HD.out.trans d')
          clear d'
          generalize grow (redrawn wr dq) osq = w' at v2 v3 v5 v7 omo oa HN HD ⊢
          go_wp2_with fail
          exact ⟨⟨j + 1, by omega, by go_num, DJ.out.trans HD.out⟩, by simp [intOf]; omega⟩
        · have hje : ((j : Int) == rd) = true := by rw [beq_iff_eq]; exact hj1
          have hjn : ((j : Int) != rd) = false := by rw [bne_eq_false_iff_eq]; exact hj1
          have hj3 : ((j : Int) == 0) = false := by rw [beq_eq_false_iff_ne]; omega
          have hzb : (ma.c.getD j 0 == m.c.getD j 0) = false := by rw [beq_eq_false_iff_ne]; exact hz
          have hzn : (ma.c.getD j 0 != m.c.getD j 0) = true := by rw [bne_iff_ne]; exact hz
          clear hz hj1 hj2
          have HD := Lib.hid (Dn.refl wr)
          have lo0 : (0 : Int) ≤ (j : Int) := by omega
          go_wp2_with fail
          have ck0 := v7.word l7 j (by simp; omega)
          have ck1 := v2.word hl j (by simp; omega)
          generalize ma.c.getD j 0 = y, m.c.getD j 0 = z at ck0 ck1 hzb hzn
          have ck2 := v3.iop
          have ck3 := v3.ird
          have ck4 := v3.iimm
          have lck0 := fun d os => cell_regrown ck0 d os
          have lck1 := fun d os => cell_regrown ck1 d os
          have lck2 := fun d os => cell_regrown ck2 d os
          have lck3 := fun d os => cell_regrown ck3 d os
          have lck4 := fun d os => cell_regrown ck4 d os
          refine wp_region_quiet_below (by kernel_rfl) (by kernel_rfl) ?_
          repeat (first | go_big_quiet_skip | (go_big_quiet_want; (go_big_quiet_op; go_big_quiet_on)))
          refine wpQuiet_nil ?_
          intro _ hw'
          obtain ⟨⟨dq, osq⟩, hw''⟩ := hw'
          subst hw''
          have d' := below_regrown wr dq osq
          clear lck0 lck1 lck2 lck3 lck4 ck0 ck1 ck2 ck3 ck4
          replace v2 := v2.dn d'
          replace v3 := v3.dn d'
          replace v5 := v5.dn d'
          replace v7 := v7.dn d'
          replace omo := Lib.hid (omo.out.dn d')
          replace oa := Lib.hid (oa.out.dn d')
          replace HN := Lib.hid (HN.out.dn d')
          replace HD := Lib.hid (HD.out.trans d')
          clear d'
          generalize grow (redrawn wr dq) osq = w' at v2 v3 v5 v7 omo oa HN HD ⊢
          go_wp2_with fail
          exact ⟨⟨j + 1, by omega, by go_num, DJ.out.trans HD.out⟩, by simp [intOf]; omega⟩
    · have hlt2 : ¬ (j : Int) < 16 := by omega
      have HD := HW
      go_wp2_with fail
      go_loopw [9] (fun k w => FrRel 12 wr k w) (fun k _ => 12 - (intOf k).toNat)
      case atStart => exact ⟨0, by decide, rfl, Dn.refl _⟩
      case round =>
        obtain ⟨j, hj, rfl, dn⟩ := hrel
        replace v2 := v2.dn dn
        replace v3 := v3.dn dn
        replace v5 := v5.dn dn
        replace v7 := v7.dn dn
        replace omo := Lib.hid (omo.out.dn dn)
        replace oa := Lib.hid (oa.out.dn dn)
        replace HN := Lib.hid (HN.out.dn dn)
        have HW := Lib.hid (HD.out.trans dn)
        have DJ := Lib.hid dn
        clear HD dn
        by_cases hlt : j < 12
        · have hlt2 : (j : Int) < 12 := by omega
          have hz := RC.out j hlt
          have HD := Lib.hid (Dn.refl wr)
          have lo0 : (0 : Int) ≤ (j : Int) := by omega
          go_wp2_with fail
          have ck0 := v7.word l7 (17 + j) (by simp; omega)
          have ck1 := v2.word hl (17 + j) (by simp; omega)
          rw [hz] at ck0
          generalize m.c.getD (17 + j) 0 = z at ck0 ck1
          have ck2 := v3.iop
          have ck3 := v3.ird
          have ck4 := v3.iimm
          have lck0 := fun d os => cell_regrown ck0 d os
          have lck1 := fun d os => cell_regrown ck1 d os
          have lck2 := fun d os => cell_regrown ck2 d os
          have lck3 := fun d os => cell_regrown ck3 d os
          have lck4 := fun d os => cell_regrown ck4 d os
          refine wp_region_quiet_below (by kernel_rfl) (by kernel_rfl) ?_
          repeat (first | go_big_quiet_skip | (go_big_quiet_want; (go_big_quiet_op; go_big_quiet_on)))
          refine wpQuiet_nil ?_
          intro _ hw'
          obtain ⟨⟨dq, osq⟩, hw''⟩ := hw'
          subst hw''
          have d' := below_regrown wr dq osq
          clear lck0 lck1 lck2 lck3 lck4 ck0 ck1 ck2 ck3 ck4
          replace v2 := v2.dn d'
          replace v3 := v3.dn d'
          replace v5 := v5.dn d'
          replace v7 := v7.dn d'
          replace omo := Lib.hid (omo.out.dn d')
          replace oa := Lib.hid (oa.out.dn d')
          replace HN := Lib.hid (HN.out.dn d')
          replace HD := Lib.hid (HD.out.trans d')
          clear d'
          generalize grow (redrawn wr dq) osq = w' at v2 v3 v5 v7 omo oa HN HD ⊢
          go_wp2_with fail
          exact ⟨⟨j + 1, by omega, by go_num, DJ.out.trans HD.out⟩, by simp [intOf]; omega⟩
        · have hlt2 : ¬ (j : Int) < 12 := by omega
          have HD := HW
          cases hmh : m.h
          all_goals
            rw [hmh] at nh
            have ck0 := v7.halted l7
            rw [nh] at ck0
            have ck1 := v2.halted hl
            rw [hmh] at ck1
            have ck2 := v3.iop
            have ck3 := v7.word l7 16 rfl
            rw [na] at ck3
            have ck4 := v2.word hl 16 rfl
            rw [hpc] at ck4
            go_wp2_with fail
            go_ret
            exact ⟨rfl, HD.out⟩
end Go.Proofs.YthkhahfhbhgfhaaDoor
namespace Go.Proofs.YthkhahfhbhgfhaaDoor
open Go.ChangeShapes Go.WideShapes Go.ChangeAt Go.RowKit Go.Sort
set_option linter.unusedVariables false

set_option maxRecDepth 100000 in
set_option maxHeartbeats 2000000 in
theorem pf_22 (m : Mc) (rd ra rb imm : Int) (W : World) (hm : m.Ok W) (T : Cs.CsrTabs W) (i0 : -2147483648 ≤ imm) (i1 : imm < 2147483648) (hx : m.xs.length ≤ 9223372036854775807) (hy : m.ys.length ≤ 9223372036854775807) (hf : decide (m.xs.length ≤ 600 ∧ m.ys.length ≤ 600) = true) (hpl : (Is.M.ok 22 rd ra rb imm && Is.M.priv 22) = true) (c1 y1 : List Int) (b1 : Bool) (p q : Int) (h1 : M.px m.c m.ys m.h m.t 22 rd ra imm = ⟨c1, y1, b1⟩) (hpc : m.c.getD 16 0 = p) (hq : c1.getD 16 0 = q) (hb : b1 = m.h) (hy1 : y1.length = m.ys.length) (hyt : y1.take m.ys.length = m.ys) (hr : ∀ j : Nat, j < 16 → c1.getD j 0 = m.c.getD j 0) (hcs : ∀ j : Nat, j < 12 → (j : Int) ≠ imm → c1.getD (17 + j) 0 = m.c.getD (17 + j) 0) (hq5 : (q == (p + 4) % 4294967296) = true) :
    Calls Tryd.prog 5 #[.agg (mach m), .agg (ins 22 rd ra rb imm)] W fun e W' => e = .returned (.bool true) ∧ Dn W W' := by
  have hl := hm.len
  have hc := hm.core
  have hs : m.xs.length ≤ 600 := by simp only [decide_eq_true_eq] at hf; omega
  have hn : m.ys.length ≤ 600 := by simp only [decide_eq_true_eq] at hf; omega
  have C0 := Lib.hid fun w => fun (t : Cs.CsrTabs w) => awakeP w t
  have CF := Lib.hid fun w => fun (ow : m.Ok w) => rfew m true w ow hx hy hf
  have hvp : Is.M.ok 22 rd ra rb imm = true ∧ Is.M.priv 22 = true := by simpa using hpl
  have CP := Lib.hid (rRight 22 rd ra rb imm true i0 i1 hpl)
  have HO := Lib.hid hm.out
  have C1 := Lib.hid fun (w : World) (mo : Mc) (g cap : Nat) (e : mo = { m with B := some ⟨g, 0, none⟩, q := cap }) (ow : mo.Ok w) (t : Cs.CsrTabs w) => (by exact xRunP mo 22 rd ra rb imm m.c m.ys m.h m.t (by rw [e]) (by rw [e]) (by rw [e]) (by rw [e]) ⟨c1, y1, b1⟩ h1 (by omega) i0 i1 (by decide) w ow t : Calls Tryd.prog 19 #[.agg (mach mo), .agg (ins 22 rd ra rb imm)] w fun e W' => ∃ m1, e = .returned (.agg (mach m1)) ∧ Hid (m1.Ok W') ∧ Hid (Pd mo ⟨c1, y1, b1⟩ w.heap.size m1) ∧ Dn w W')
  have p0 := (M.core_pc hc).1
  have p1 := (M.core_pc hc).2
  rw [show M.pc m.c = p from hpc] at p0 p1
  have hwr : IntKind.u32.wrap (p + 4) = (p + 4) % 4294967296 := rfl
  have hwi : IntKind.i64.wrap imm = imm := by rw [IntKind.wrap_i64]; omega
  have HQ := Lib.hid hq
  have HB1 := Lib.hid hb
  have HY1 := Lib.hid hy1
  have HYT := Lib.hid hyt
  have HR := Lib.hid hr
  have HC := Lib.hid hcs
  clear hf hpl hvp h1 hq hb hy1 hyt hr hcs
  have HD := Lib.hid (Dn.refl W)
  go_enter Tryd.func5, Tryd.ntmps5
  go_wp2_with (first | ((with_reducible refine wpList_box (vs := (mach m)) ?_ ?_ ?_); rfl; rfl; intro b_v2 w' nn; refine Hid.out ?_))
  refine Lib.hid ?_
  have HL_v2 : Hid (W.heap.size ≤ b_v2) := Lib.hid (Blk.hi nn HD.out.size)
  have d' := nn.dn
  replace HD := Lib.hid (HD.out.trans d')
  have v2 := nn.blk
  clear d' nn
  go_wp2_with (first | ((with_reducible refine wpList_box (vs := (ins 22 rd ra rb imm)) ?_ ?_ ?_); rfl; rfl; intro b_v3 w' nn; refine Hid.out ?_))
  refine Lib.hid ?_
  have n_v2_v3 := Lib.hid (nn.ne _ v2.lt)
  have HL_v3 : Hid (W.heap.size ≤ b_v3) := Lib.hid (Blk.hi nn HD.out.size)
  have d' := nn.dn
  replace v2 := v2.dn d'
  replace HD := Lib.hid (HD.out.trans d')
  have v3 := nn.blk
  clear d' nn
  go_wp2_with (first | (go_at_call 15; (with_reducible refine (C0.out _ (T.dn HD.out)).mono ?_); rintro e w' ⟨rfl, d'⟩; refine Hid.out ?_))
  refine Lib.hid ?_
  replace v2 := v2.dn d'
  replace v3 := v3.dn d'
  replace HD := Lib.hid (HD.out.trans d')
  clear d'
  go_wp2_with (first | ((with_reducible refine load33 v2 hl ?_ ?_ ?_); rfl; rfl) | (go_at_call 10; (with_reducible refine (CF.out _ (hm.dn HD.out)).mono ?_); rintro e w' ⟨rfl, d'⟩; refine Hid.out ?_))
  refine Lib.hid ?_
  replace v2 := v2.dn d'
  replace v3 := v3.dn d'
  replace HD := Lib.hid (HD.out.trans d')
  clear d'
  go_wp2_with (first | ((with_reducible refine loadI v3 ?_ ?_ ?_); rfl; rfl) | (go_at_call 18; (with_reducible refine (CP.out _).mono ?_); rintro e w' ⟨rfl, d'⟩; refine Hid.out ?_))
  refine Lib.hid ?_
  replace v2 := v2.dn d'
  replace v3 := v3.dn d'
  replace HD := Lib.hid (HD.out.trans d')
  clear d'
  go_wp2_with (first | ((with_reducible refine load33 v2 hl ?_ ?_ ?_); rfl; rfl) | ((with_reducible refine wpList_alloc zeroMach ?_ ?_); rfl; intro b_v5 w' nn; refine Hid.out ?_))
  refine Lib.hid ?_
  have n_v2_v5 := Lib.hid (nn.ne _ v2.lt)
  have n_v3_v5 := Lib.hid (nn.ne _ v3.lt)
  have HL_v5 : Hid (W.heap.size ≤ b_v5) := Lib.hid (Blk.hi nn HD.out.size)
  have d' := nn.dn
  replace v2 := v2.dn d'
  replace v3 := v3.dn d'
  replace HD := Lib.hid (HD.out.trans d')
  have v5 := nn.blk
  clear d' nn
  go_wp2_with (first | ((with_reducible refine store33 m hl v5 zlen ?_ ?_ ?_ ?_); rfl; rfl; rfl; intro w' r' t'; refine Hid.out ?_))
  refine Lib.hid ?_
  replace v2 := v2.trn t' n_v2_v5.out
  replace v3 := v3.trn t' n_v3_v5.out
  replace HD := Lib.hid (HD.out.trn HL_v5.out t')
  clear t' v5
  have v5 := r'
  clear r'
  have kk := v2.out hl
  have vlt := v2.lt
  have OWN := Lib.hid (own_zero w')
  have D0 : Hid (Dn w' (w'.alloc (Obj.cells #[] 5))) := Lib.hid ((Dn.refl w').alloc _)
  have HB := Lib.hid ((HO.out.dn HD.out).dn D0.out)
  go_wp2_with (at_builtin; (refine wpList_append8 rfl _ _ rfl w'.heap.size (.slice (some ⟨w'.heap.size, 0, none⟩) 0 0) 0 [] rfl OWN.out m.B m.q m.ys rfl HB.out (by omega) D0.out.size ?_); intro r w2 own1 gr1; refine Hid.out ?_)
  refine Lib.hid ?_
  have hown : w2.ownsRow w'.heap.size 5 1 r m.ys.length (m.ys.map (Value.int .u8)) := by simpa using own1
  have d1 : Dn w' w2 := below_keep D0.out gr1 D0.out.size (fun q e => (OWN.out.lt q e).1)
  clear own1 gr1 OWN HB kk vlt
  have OWN2 : Hid ((w2.alloc (.cells #[.int .u8 77] 5)).ownsRow w'.heap.size 5 1 r m.ys.length (m.ys.map (Value.int .u8))) := Lib.hid (hown.alloc _)
  have H1 := Lib.hid (byte_bs w2 77 (by decide) (by decide))
  replace d1 := Lib.hid d1
  clear hown
  go_wp2_with (at_builtin; (refine wpList_append8 rfl _ _ rfl w'.heap.size r m.ys.length _ rfl OWN2.out _ 1 [77] rfl H1.out (by simp; omega) (Nat.le_trans d1.out.size (by simp)) ?_); intro r2 w3 own2 gr2; refine Hid.out ?_)
  refine Lib.hid ?_
  have own3 : w3.ownsRow w'.heap.size 5 1 r2 (m.ys.length + 1) ((m.ys ++ [77]).map (Value.int .u8)) := by simpa using own2
  have d' : Dn w' w3 := below_keep (d1.out.alloc _) gr2 (Nat.le_trans d1.out.size (by simp)) (fun q e => (OWN2.out.lt q e).1)
  obtain ⟨g_, cap, rfl, hg, _⟩ := own_shape own3 (by omega)
  obtain ⟨A', c', e1, hb⟩ := Bs.of_own (n := m.ys.length + 1) (xs := m.ys ++ [77]) (by simp) (by_77 HO.out.2.1) own3
  simp only [Value.slice.injEq] at e1
  obtain ⟨rfl, _, rfl⟩ := e1
  clear own2 own3 gr2 H1 OWN2 d1 D0 hg
  replace v2 := v2.dn d'
  replace v3 := v3.dn d'
  replace v5 := v5.dn d'
  replace HD := Lib.hid (HD.out.trans d')
  clear d'
  have HN := Lib.hid hb
  obtain ⟨n1, hn1⟩ : ∃ n1 : Nat, m.ys.length + 1 = n1 := ⟨_, rfl⟩
  rw [hn1]
  have HC5 : Hid (n1 ≤ cap) := Lib.hid (by have := hb.1; rw [← hn1]; simpa using this)
  have hn2 : (m.ys.length : Int) < n1 := by omega
  have HL5 : Hid (m.ys.length ≤ n1) := Lib.hid (by omega)
  clear hb hn1
  have kk := v2.out hl
  obtain ⟨mo, hmo⟩ : ∃ mo : Mc, mo = { m with B := some ⟨g_, 0, none⟩, q := cap } := ⟨_, rfl⟩
  have lo5 : mo.c.length = 29 := by rw [hmo]; exact hl
  replace hmo := Lib.hid hmo
  go_wp2_with (first | ((with_reducible refine wpList_upto (A := some ⟨g_, 0, none⟩) (len := n1) (c := cap) (l := m.ys.length) (k := .i64) HL5.out HC5.out ?_ ?_ ?_ ?_); rfl; rfl; rfl; simp only [Act.put, List.setIfInBounds_toArray, List.set_cons_succ, List.set_cons_zero]) | ((with_reducible refine storeOut (B' := some ⟨g_, 0, none⟩) (q' := cap) (n' := m.ys.length) (zs := m.ys) v5 hl rfl ?_ ?_ ?_ ?_); rfl; rfl; rfl; intro w' r' t'; refine Hid.out ?_))
  refine Lib.hid ?_
  replace HN := Lib.hid (HN.out.trn v5 (NoU8.mach _) t')
  replace v2 := v2.trn t' n_v2_v5.out
  replace v3 := v3.trn t' n_v3_v5.out
  replace r' : Blk w' b_v5 30 (mach mo) := by rw [hmo.out]; exact r'
  replace HD := Lib.hid (HD.out.trn HL_v5.out t')
  clear t' v5
  have v5 := r'
  clear r'
  clear kk HL5
  have omo : Hid (mo.Ok w') := Lib.hid (by have o := hm.dn HD.out; rw [hmo.out]; exact ⟨hc, o.mem, HN.out.front, o.t0, o.t1⟩)
  go_wp2_with (first | ((with_reducible refine load33 v5 lo5 ?_ ?_ ?_); rfl; rfl; simp only [Act.put, List.setIfInBounds_toArray, List.set_cons_succ, List.set_cons_zero]) | ((with_reducible refine loadI v3 ?_ ?_ ?_); rfl; rfl; simp only [Act.put, List.setIfInBounds_toArray, List.set_cons_succ, List.set_cons_zero]) | (go_at_call 19; (with_reducible refine (C1.out _ mo g_ cap hmo.out omo.out (T.dn HD.out)).mono ?_); rintro e w' ⟨ma, rfl, oa', ea, d'⟩; dsimp only; refine Hid.out ?_))
  refine Lib.hid ?_
  replace v2 := v2.dn d'
  replace v3 := v3.dn d'
  replace v5 := v5.dn d'
  replace omo := Lib.hid (omo.out.dn d')
  replace HN := Lib.hid (HN.out.dn d')
  replace HD := Lib.hid (HD.out.trans d')
  clear d'
  have l7 := oa'.out.len
  have lmo := hmo
  have nt : ma.t = m.t := ea.out.t.trans (by rw [hmo.out])
  have nh : ma.h = m.h := by rw [ea.out.h]; exact HB1.out
  have na : ma.c.getD 16 0 = q := by rw [ea.out.c]; exact HQ.out
  have nx : ma.xs = m.xs := ea.out.xs.trans (by rw [hmo.out])
  have nxl : ma.xs.length = m.xs.length := by rw [nx]
  have nyl : ma.ys.length = m.ys.length := by rw [ea.out.ys]; exact HY1.out
  have nyt : ma.ys.take m.ys.length = m.ys := by rw [ea.out.ys]; exact HYT.out
  have hcap : (m.ys.length : Int) ≤ ma.q := by have := oa'.out.out.1; omega
  have hcap2 : m.ys.length ≤ ma.q := by omega
  replace nx := Lib.hid nx
  replace nyt := Lib.hid nyt
  clear lmo
  have RA := Lib.hid (fun j hj => by rw [ea.out.c]; exact HR.out j hj : ∀ j : Nat, j < 16 → ma.c.getD j 0 = m.c.getD j 0)
  have RC := Lib.hid (fun j hj => by rw [ea.out.c]; exact HC.out j hj : ∀ j : Nat, j < 12 → (j : Int) ≠ imm → ma.c.getD (17 + j) 0 = m.c.getD (17 + j) 0)
  have oa := Lib.hid oa'.out
  go_wp2_with (first | ((with_reducible refine wpList_alloc zeroMach ?_ ?_); rfl; intro b_v7 w' nn; simp only [Act.put, List.setIfInBounds_toArray, List.set_cons_succ, List.set_cons_zero]; refine Hid.out ?_))
  refine Lib.hid ?_
  have n_v2_v7 := Lib.hid (nn.ne _ v2.lt)
  have n_v3_v7 := Lib.hid (nn.ne _ v3.lt)
  have n_v5_v7 := Lib.hid (nn.ne _ v5.lt)
  have HL_v7 : Hid (W.heap.size ≤ b_v7) := Lib.hid (Blk.hi nn HD.out.size)
  have d' := nn.dn
  replace v2 := v2.dn d'
  replace v3 := v3.dn d'
  replace v5 := v5.dn d'
  replace omo := Lib.hid (omo.out.dn d')
  replace oa := Lib.hid (oa.out.dn d')
  replace HN := Lib.hid (HN.out.dn d')
  replace HD := Lib.hid (HD.out.trans d')
  have v7 := nn.blk
  clear d' nn
  go_wp2_with (first | ((with_reducible refine store33 ma l7 v7 zlen ?_ ?_ ?_ ?_); rfl; rfl; rfl; intro w' r' t'; refine Hid.out ?_))
  refine Lib.hid ?_
  replace omo := Lib.hid (omo.out.trn v7 (NoU8.mach _) t')
  replace oa := Lib.hid (oa.out.trn v7 (NoU8.mach _) t')
  replace HN := Lib.hid (HN.out.trn v7 (NoU8.mach _) t')
  replace v2 := v2.trn t' n_v2_v7.out
  replace v3 := v3.trn t' n_v3_v7.out
  replace v5 := v5.trn t' n_v5_v7.out
  replace HD := Lib.hid (HD.out.trn HL_v7.out t')
  clear t' v7
  have v7 := r'
  clear r'
  go_wp2_with fail
  have ck0 := v7.mem l7
  rw [nxl] at ck0
  have ck1 := v2.mem hl
  have ck2 := v7.time l7
  rw [nt] at ck2
  have ck3 := v2.time hl
  have ck4 := v7.out l7
  rw [nyl] at ck4
  have ck5 := v2.out hl
  have ck6 := HN.out.last
  have hn3 : (0 : Int) ≤ (m.ys.length : Int) := by omega
  have ck7 := v3.iop
  have QM := Lib.hid fun p q => Calls.regrown_of (same_yes ma.A m.A ma.k m.k m.xs.length m.xs.length ma.xs m.xs _ (oa.out.mem.dn (below_regrown w' p q)) ((hm.dn HD.out).mem.dn (below_regrown w' p q)) nxl.symm rfl nx.out (by omega))
  have QO := Lib.hid fun p q => Calls.regrown_of (same_yes ma.B m.B ma.q m.q m.ys.length m.ys.length (ma.ys.take m.ys.length) m.ys _ ((oa.out.out.take (A' := ma.B) (by omega) rfl).dn (below_regrown w' p q)) ((hm.dn HD.out).out.dn (below_regrown w' p q)) (by rw [List.length_take]; omega) rfl nyt.out (by rw [List.length_take]; omega))
  have HCP := Lib.hid hcap2
  have lck0 := fun d os => cell_regrown ck0 d os
  have lck1 := fun d os => cell_regrown ck1 d os
  have lck2 := fun d os => cell_regrown ck2 d os
  have lck3 := fun d os => cell_regrown ck3 d os
  have lck4 := fun d os => cell_regrown ck4 d os
  have lck5 := fun d os => cell_regrown ck5 d os
  have lck6 := fun d os => cell_regrown ck6 d os
  have lck7 := fun d os => cell_regrown ck7 d os
  refine wp_region_quiet_below (by kernel_rfl) (by kernel_rfl) ?_
  simp only [List.append]
  repeat (first | go_big_quiet_skip | (go_big_quiet_want; first | ((with_reducible refine qop_upto (l := m.ys.length) HCP.out ?_ ?_ ?_); rfl; rfl; simp only [Act.put, List.setIfInBounds_toArray, List.set_cons_succ, List.set_cons_zero]; go_big_quiet_on) | (go_big_quiet_op; first | go_big_quiet_on | go_big_quiet_call (first | (with_reducible exact QM.out _ _) | (with_reducible exact QO.out _ _)))))
  refine wpQuiet_nil ?_
  intro _ hw'
  obtain ⟨⟨dq, osq⟩, hw''⟩ := hw'
  subst hw''
  have d' := below_regrown w' dq osq
  clear QM QO HCP lck0 lck1 lck2 lck3 lck4 lck5 lck6 lck7 ck0 ck1 ck2 ck3 ck4 ck5 ck6 ck7
  replace v2 := v2.dn d'
  replace v3 := v3.dn d'
  replace v5 := v5.dn d'
  replace v7 := v7.dn d'
  replace omo := Lib.hid (omo.out.dn d')
  replace oa := Lib.hid (oa.out.dn d')
  replace HN := Lib.hid (HN.out.dn d')
  replace HD := Lib.hid (HD.out.trans d')
  clear d'
  generalize grow (redrawn w' dq) osq = w' at v2 v3 v5 v7 omo oa HN HD ⊢
  go_wp2_with fail
  go_loopw [8] (fun k w => FrRel 16 w' k w) (fun k _ => 16 - (intOf k).toNat)
  case atStart => exact ⟨0, by decide, rfl, Dn.refl _⟩
  case round =>
    obtain ⟨j, hj, rfl, dn⟩ := hrel
    replace v2 := v2.dn dn
    replace v3 := v3.dn dn
    replace v5 := v5.dn dn
    replace v7 := v7.dn dn
    replace omo := Lib.hid (omo.out.dn dn)
    replace oa := Lib.hid (oa.out.dn dn)
    replace HN := Lib.hid (HN.out.dn dn)
    have HW := Lib.hid (HD.out.trans dn)
    have DJ := Lib.hid dn
    clear HD dn
    by_cases hlt : j < 16
    · have hlt2 : (j : Int) < 16 := by omega
      have hz := RA.out j hlt
      have HD := Lib.hid (Dn.refl wr)
      have lo0 : (0 : Int) ≤ (j : Int) := by omega
      go_wp2_with fail
      have ck0 := v7.word l7 j (by simp; omega)
      have ck1 := v2.word hl j (by simp; omega)
      rw [hz] at ck0
      generalize m.c.getD j 0 = z at ck0 ck1
      have ck2 := v3.iop
      have ck3 := v3.ird
      have ck4 := v3.iimm
      have lck0 := fun d os => cell_regrown ck0 d os
      have lck1 := fun d os => cell_regrown ck1 d os
      have lck2 := fun d os => cell_regrown ck2 d os
      have lck3 := fun d os => cell_regrown ck3 d os
      have lck4 := fun d os => cell_regrown ck4 d os
      refine wp_region_quiet_below (by kernel_rfl) (by kernel_rfl) ?_
      repeat (first | go_big_quiet_skip | (go_big_quiet_want; (go_big_quiet_op; go_big_quiet_on)))
      refine wpQuiet_nil ?_
      intro _ hw'
      obtain ⟨⟨dq, osq⟩, hw''⟩ := hw'
      subst hw''
      have d' := below_regrown wr dq osq
      clear lck0 lck1 lck2 lck3 lck4 ck0 ck1 ck2 ck3 ck4
      replace v2 := v2.dn d'
      replace v3 := v3.dn d'
      replace v5 := v5.dn d'
      replace v7 := v7.dn d'
      replace omo := Lib.hid (omo.out.dn d')
      replace oa := Lib.hid (oa.out.dn d')
      replace HN := Lib.hid (HN.out.dn d')
      replace HD := Lib.hid (HD.out.trans d')
      clear d'
      generalize grow (redrawn wr dq) osq = w' at v2 v3 v5 v7 omo oa HN HD ⊢
      go_wp2_with fail
      exact ⟨⟨j + 1, by omega, by go_num, DJ.out.trans HD.out⟩, by simp [intOf]; omega⟩
    · have hlt2 : ¬ (j : Int) < 16 := by omega
      have HD := HW
      go_wp2_with fail
      go_loopw [9] (fun k w => FrRel 12 wr k w) (fun k _ => 12 - (intOf k).toNat)
      case atStart => exact ⟨0, by decide, rfl, Dn.refl _⟩
      case round =>
        obtain ⟨j, hj, rfl, dn⟩ := hrel
        replace v2 := v2.dn dn
        replace v3 := v3.dn dn
        replace v5 := v5.dn dn
        replace v7 := v7.dn dn
        replace omo := Lib.hid (omo.out.dn dn)
        replace oa := Lib.hid (oa.out.dn dn)
        replace HN := Lib.hid (HN.out.dn dn)
        have HW := Lib.hid (HD.out.trans dn)
        have DJ := Lib.hid dn
        clear HD dn
        by_cases hlt : j < 12
        · have hlt2 : (j : Int) < 12 := by omega
          by_cases hjr : (j : Int) ≠ imm
          · have hz := RC.out j hlt hjr
            clear hjr
            have HD := Lib.hid (Dn.refl wr)
            have lo0 : (0 : Int) ≤ (j : Int) := by omega
            go_wp2_with fail
            have ck0 := v7.word l7 (17 + j) (by simp; omega)
            have ck1 := v2.word hl (17 + j) (by simp; omega)
            rw [hz] at ck0
            generalize m.c.getD (17 + j) 0 = z at ck0 ck1
            have ck2 := v3.iop
            have ck3 := v3.ird
            have ck4 := v3.iimm
            have lck0 := fun d os => cell_regrown ck0 d os
            have lck1 := fun d os => cell_regrown ck1 d os
            have lck2 := fun d os => cell_regrown ck2 d os
            have lck3 := fun d os => cell_regrown ck3 d os
            have lck4 := fun d os => cell_regrown ck4 d os
            refine wp_region_quiet_below (by kernel_rfl) (by kernel_rfl) ?_
            repeat (first | go_big_quiet_skip | (go_big_quiet_want; (go_big_quiet_op; go_big_quiet_on)))
            refine wpQuiet_nil ?_
            intro _ hw'
            obtain ⟨⟨dq, osq⟩, hw''⟩ := hw'
            subst hw''
            have d' := below_regrown wr dq osq
            clear lck0 lck1 lck2 lck3 lck4 ck0 ck1 ck2 ck3 ck4
            replace v2 := v2.dn d'
            replace v3 := v3.dn d'
            replace v5 := v5.dn d'
            replace v7 := v7.dn d'
            replace omo := Lib.hid (omo.out.dn d')
            replace oa := Lib.hid (oa.out.dn d')
            replace HN := Lib.hid (HN.out.dn d')
            replace HD := Lib.hid (HD.out.trans d')
            clear d'
            generalize grow (redrawn wr dq) osq = w' at v2 v3 v5 v7 omo oa HN HD ⊢
            go_wp2_with fail
            exact ⟨⟨j + 1, by omega, by go_num, DJ.out.trans HD.out⟩, by simp [intOf]; omega⟩
          · have hj1 : (j : Int) = imm := by omega
            clear hjr
            by_cases hz : ma.c.getD (17 + j) 0 = m.c.getD (17 + j) 0
            · clear hj1
              have HD := Lib.hid (Dn.refl wr)
              have lo0 : (0 : Int) ≤ (j : Int) := by omega
              go_wp2_with fail
              have ck0 := v7.word l7 (17 + j) (by simp; omega)
              have ck1 := v2.word hl (17 + j) (by simp; omega)
              rw [hz] at ck0
              generalize m.c.getD (17 + j) 0 = z at ck0 ck1
              have ck2 := v3.iop
              have ck3 := v3.ird
              have ck4 := v3.iimm
              have lck0 := fun d os => cell_regrown ck0 d os
              have lck1 := fun d os => cell_regrown ck1 d os
              have lck2 := fun d os => cell_regrown ck2 d os
              have lck3 := fun d os => cell_regrown ck3 d os
              have lck4 := fun d os => cell_regrown ck4 d os
              refine wp_region_quiet_below (by kernel_rfl) (by kernel_rfl) ?_
              repeat (first | go_big_quiet_skip | (go_big_quiet_want; (go_big_quiet_op; go_big_quiet_on)))
              refine wpQuiet_nil ?_
              intro _ hw'
              obtain ⟨⟨dq, osq⟩, hw''⟩ := hw'
              subst hw''
              have d' := below_regrown wr dq osq
              clear lck0 lck1 lck2 lck3 lck4 ck0 ck1 ck2 ck3 ck4
              replace v2 := v2.dn d'
              replace v3 := v3.dn d'
              replace v5 := v5.dn d'
              replace v7 := v7.dn d'
              replace omo := Lib.hid (omo.out.dn d')
              replace oa := Lib.hid (oa.out.dn d')
              replace HN := Lib.hid (HN.out.dn d')
              replace HD := Lib.hid (HD.out.trans d')
              clear d'
              generalize grow (redrawn wr dq) osq = w' at v2 v3 v5 v7 omo oa HN HD ⊢
              go_wp2_with fail
              exact ⟨⟨j + 1, by omega, by go_num, DJ.out.trans HD.out⟩, by simp [intOf]; omega⟩
            · have hje : ((j : Int) == imm) = true := by rw [beq_iff_eq]; exact hj1
              have hjn : ((j : Int) != imm) = false := by rw [bne_eq_false_iff_eq]; exact hj1
              have hzb : (ma.c.getD (17 + j) 0 == m.c.getD (17 + j) 0) = false := by rw [beq_eq_false_iff_ne]; exact hz
              have hzn : (ma.c.getD (17 + j) 0 != m.c.getD (17 + j) 0) = true := by rw [bne_iff_ne]; exact hz
              clear hz hj1
              have HD := Lib.hid (Dn.refl wr)
              have lo0 : (0 : Int) ≤ (j : Int) := by omega
              go_wp2_with fail
              have ck0 := v7.word l7 (17 + j) (by simp; omega)
              have ck1 := v2.word hl (17 + j) (by simp; omega)
              generalize ma.c.getD (17 + j) 0 = y, m.c.getD (17 + j) 0 = z at ck0 ck1 hzb hzn
              have ck2 := v3.iop
              have ck3 := v3.ird
              have ck4 := v3.iimm
              have lck0 := fun d os => cell_regrown ck0 d os
              have lck1 := fun d os => cell_regrown ck1 d os
              have lck2 := fun d os => cell_regrown ck2 d os
              have lck3 := fun d os => cell_regrown ck3 d os
              have lck4 := fun d os => cell_regrown ck4 d os
              refine wp_region_quiet_below (by kernel_rfl) (by kernel_rfl) ?_
              repeat (first | go_big_quiet_skip | (go_big_quiet_want; (go_big_quiet_op; go_big_quiet_on)))
              refine wpQuiet_nil ?_
              intro _ hw'
              obtain ⟨⟨dq, osq⟩, hw''⟩ := hw'
              subst hw''
              have d' := below_regrown wr dq osq
              clear lck0 lck1 lck2 lck3 lck4 ck0 ck1 ck2 ck3 ck4
              replace v2 := v2.dn d'
              replace v3 := v3.dn d'
              replace v5 := v5.dn d'
              replace v7 := v7.dn d'
              replace omo := Lib.hid (omo.out.dn d')
              replace oa := Lib.hid (oa.out.dn d')
              replace HN := Lib.hid (HN.out.dn d')
              replace HD := Lib.hid (HD.out.trans d')
              clear d'
              generalize grow (redrawn wr dq) osq = w' at v2 v3 v5 v7 omo oa HN HD ⊢
              go_wp2_with fail
              exact ⟨⟨j + 1, by omega, by go_num, DJ.out.trans HD.out⟩, by simp [intOf]; omega⟩
        · have hlt2 : ¬ (j : Int) < 12 := by omega
          have HD := HW
          cases hmh : m.h
          all_goals
            rw [hmh] at nh
            have ck0 := v7.halted l7
            rw [nh] at ck0
            have ck1 := v2.halted hl
            rw [hmh] at ck1
            have ck2 := v3.iop
            have ck3 := v7.word l7 16 rfl
            rw [na] at ck3
            have ck4 := v2.word hl 16 rfl
            rw [hpc] at ck4
            go_wp2_with fail
            go_ret
            exact ⟨rfl, HD.out⟩
end Go.Proofs.YthkhahfhbhgfhaaDoor
namespace Go.Proofs.YthkhahfhbhgfhaaDoor
open Go.ChangeShapes Go.WideShapes Go.ChangeAt Go.RowKit Go.Sort
set_option linter.unusedVariables false

set_option maxRecDepth 100000 in
set_option maxHeartbeats 2000000 in
theorem pf_23 (m : Mc) (rd ra rb imm : Int) (W : World) (hm : m.Ok W) (T : Cs.CsrTabs W) (i0 : -2147483648 ≤ imm) (i1 : imm < 2147483648) (hx : m.xs.length ≤ 9223372036854775807) (hy : m.ys.length ≤ 9223372036854775807) (hf : decide (m.xs.length ≤ 600 ∧ m.ys.length ≤ 600) = true) (hpl : (Is.M.ok 23 rd ra rb imm && Is.M.priv 23) = true) (c1 y1 : List Int) (b1 : Bool) (p q : Int) (h1 : M.px m.c m.ys m.h m.t 23 rd ra imm = ⟨c1, y1, b1⟩) (hpc : m.c.getD 16 0 = p) (hq : c1.getD 16 0 = q) (hb : b1 = m.h) (hy1 : y1.length = m.ys.length) (hyt : y1.take m.ys.length = m.ys) (hr : ∀ j : Nat, j < 16 → c1.getD j 0 = m.c.getD j 0) (hcs : ∀ j : Nat, j < 12 → j ≠ 0 → c1.getD (17 + j) 0 = m.c.getD (17 + j) 0) (hep : m.c.getD 18 0 = q) :
    Calls Tryd.prog 5 #[.agg (mach m), .agg (ins 23 rd ra rb imm)] W fun e W' => e = .returned (.bool true) ∧ Dn W W' := by
  have hl := hm.len
  have hc := hm.core
  have hs : m.xs.length ≤ 600 := by simp only [decide_eq_true_eq] at hf; omega
  have hn : m.ys.length ≤ 600 := by simp only [decide_eq_true_eq] at hf; omega
  have C0 := Lib.hid fun w => fun (t : Cs.CsrTabs w) => awakeP w t
  have CF := Lib.hid fun w => fun (ow : m.Ok w) => rfew m true w ow hx hy hf
  have hvp : Is.M.ok 23 rd ra rb imm = true ∧ Is.M.priv 23 = true := by simpa using hpl
  have CP := Lib.hid (rRight 23 rd ra rb imm true i0 i1 hpl)
  have HO := Lib.hid hm.out
  have C1 := Lib.hid fun (w : World) (mo : Mc) (g cap : Nat) (e : mo = { m with B := some ⟨g, 0, none⟩, q := cap }) (ow : mo.Ok w) (t : Cs.CsrTabs w) => (by exact xRunP mo 23 rd ra rb imm m.c m.ys m.h m.t (by rw [e]) (by rw [e]) (by rw [e]) (by rw [e]) ⟨c1, y1, b1⟩ h1 (by omega) i0 i1 (by decide) w ow t : Calls Tryd.prog 19 #[.agg (mach mo), .agg (ins 23 rd ra rb imm)] w fun e W' => ∃ m1, e = .returned (.agg (mach m1)) ∧ Hid (m1.Ok W') ∧ Hid (Pd mo ⟨c1, y1, b1⟩ w.heap.size m1) ∧ Dn w W')
  have p0 := (M.core_pc hc).1
  have p1 := (M.core_pc hc).2
  rw [show M.pc m.c = p from hpc] at p0 p1
  have hwr : IntKind.u32.wrap (p + 4) = (p + 4) % 4294967296 := rfl
  have hwi : IntKind.i64.wrap imm = imm := by rw [IntKind.wrap_i64]; omega
  have HQ := Lib.hid hq
  have HB1 := Lib.hid hb
  have HY1 := Lib.hid hy1
  have HYT := Lib.hid hyt
  have HR := Lib.hid hr
  have HC := Lib.hid hcs
  clear hf hpl hvp h1 hq hb hy1 hyt hr hcs
  have HD := Lib.hid (Dn.refl W)
  go_enter Tryd.func5, Tryd.ntmps5
  go_wp2_with (first | ((with_reducible refine wpList_box (vs := (mach m)) ?_ ?_ ?_); rfl; rfl; intro b_v2 w' nn; refine Hid.out ?_))
  refine Lib.hid ?_
  have HL_v2 : Hid (W.heap.size ≤ b_v2) := Lib.hid (Blk.hi nn HD.out.size)
  have d' := nn.dn
  replace HD := Lib.hid (HD.out.trans d')
  have v2 := nn.blk
  clear d' nn
  go_wp2_with (first | ((with_reducible refine wpList_box (vs := (ins 23 rd ra rb imm)) ?_ ?_ ?_); rfl; rfl; intro b_v3 w' nn; refine Hid.out ?_))
  refine Lib.hid ?_
  have n_v2_v3 := Lib.hid (nn.ne _ v2.lt)
  have HL_v3 : Hid (W.heap.size ≤ b_v3) := Lib.hid (Blk.hi nn HD.out.size)
  have d' := nn.dn
  replace v2 := v2.dn d'
  replace HD := Lib.hid (HD.out.trans d')
  have v3 := nn.blk
  clear d' nn
  go_wp2_with (first | (go_at_call 15; (with_reducible refine (C0.out _ (T.dn HD.out)).mono ?_); rintro e w' ⟨rfl, d'⟩; refine Hid.out ?_))
  refine Lib.hid ?_
  replace v2 := v2.dn d'
  replace v3 := v3.dn d'
  replace HD := Lib.hid (HD.out.trans d')
  clear d'
  go_wp2_with (first | ((with_reducible refine load33 v2 hl ?_ ?_ ?_); rfl; rfl) | (go_at_call 10; (with_reducible refine (CF.out _ (hm.dn HD.out)).mono ?_); rintro e w' ⟨rfl, d'⟩; refine Hid.out ?_))
  refine Lib.hid ?_
  replace v2 := v2.dn d'
  replace v3 := v3.dn d'
  replace HD := Lib.hid (HD.out.trans d')
  clear d'
  go_wp2_with (first | ((with_reducible refine loadI v3 ?_ ?_ ?_); rfl; rfl) | (go_at_call 18; (with_reducible refine (CP.out _).mono ?_); rintro e w' ⟨rfl, d'⟩; refine Hid.out ?_))
  refine Lib.hid ?_
  replace v2 := v2.dn d'
  replace v3 := v3.dn d'
  replace HD := Lib.hid (HD.out.trans d')
  clear d'
  go_wp2_with (first | ((with_reducible refine load33 v2 hl ?_ ?_ ?_); rfl; rfl) | ((with_reducible refine wpList_alloc zeroMach ?_ ?_); rfl; intro b_v5 w' nn; refine Hid.out ?_))
  refine Lib.hid ?_
  have n_v2_v5 := Lib.hid (nn.ne _ v2.lt)
  have n_v3_v5 := Lib.hid (nn.ne _ v3.lt)
  have HL_v5 : Hid (W.heap.size ≤ b_v5) := Lib.hid (Blk.hi nn HD.out.size)
  have d' := nn.dn
  replace v2 := v2.dn d'
  replace v3 := v3.dn d'
  replace HD := Lib.hid (HD.out.trans d')
  have v5 := nn.blk
  clear d' nn
  go_wp2_with (first | ((with_reducible refine store33 m hl v5 zlen ?_ ?_ ?_ ?_); rfl; rfl; rfl; intro w' r' t'; refine Hid.out ?_))
  refine Lib.hid ?_
  replace v2 := v2.trn t' n_v2_v5.out
  replace v3 := v3.trn t' n_v3_v5.out
  replace HD := Lib.hid (HD.out.trn HL_v5.out t')
  clear t' v5
  have v5 := r'
  clear r'
  have kk := v2.out hl
  have vlt := v2.lt
  have OWN := Lib.hid (own_zero w')
  have D0 : Hid (Dn w' (w'.alloc (Obj.cells #[] 5))) := Lib.hid ((Dn.refl w').alloc _)
  have HB := Lib.hid ((HO.out.dn HD.out).dn D0.out)
  go_wp2_with (at_builtin; (refine wpList_append8 rfl _ _ rfl w'.heap.size (.slice (some ⟨w'.heap.size, 0, none⟩) 0 0) 0 [] rfl OWN.out m.B m.q m.ys rfl HB.out (by omega) D0.out.size ?_); intro r w2 own1 gr1; refine Hid.out ?_)
  refine Lib.hid ?_
  have hown : w2.ownsRow w'.heap.size 5 1 r m.ys.length (m.ys.map (Value.int .u8)) := by simpa using own1
  have d1 : Dn w' w2 := below_keep D0.out gr1 D0.out.size (fun q e => (OWN.out.lt q e).1)
  clear own1 gr1 OWN HB kk vlt
  have OWN2 : Hid ((w2.alloc (.cells #[.int .u8 77] 5)).ownsRow w'.heap.size 5 1 r m.ys.length (m.ys.map (Value.int .u8))) := Lib.hid (hown.alloc _)
  have H1 := Lib.hid (byte_bs w2 77 (by decide) (by decide))
  replace d1 := Lib.hid d1
  clear hown
  go_wp2_with (at_builtin; (refine wpList_append8 rfl _ _ rfl w'.heap.size r m.ys.length _ rfl OWN2.out _ 1 [77] rfl H1.out (by simp; omega) (Nat.le_trans d1.out.size (by simp)) ?_); intro r2 w3 own2 gr2; refine Hid.out ?_)
  refine Lib.hid ?_
  have own3 : w3.ownsRow w'.heap.size 5 1 r2 (m.ys.length + 1) ((m.ys ++ [77]).map (Value.int .u8)) := by simpa using own2
  have d' : Dn w' w3 := below_keep (d1.out.alloc _) gr2 (Nat.le_trans d1.out.size (by simp)) (fun q e => (OWN2.out.lt q e).1)
  obtain ⟨g_, cap, rfl, hg, _⟩ := own_shape own3 (by omega)
  obtain ⟨A', c', e1, hb⟩ := Bs.of_own (n := m.ys.length + 1) (xs := m.ys ++ [77]) (by simp) (by_77 HO.out.2.1) own3
  simp only [Value.slice.injEq] at e1
  obtain ⟨rfl, _, rfl⟩ := e1
  clear own2 own3 gr2 H1 OWN2 d1 D0 hg
  replace v2 := v2.dn d'
  replace v3 := v3.dn d'
  replace v5 := v5.dn d'
  replace HD := Lib.hid (HD.out.trans d')
  clear d'
  have HN := Lib.hid hb
  obtain ⟨n1, hn1⟩ : ∃ n1 : Nat, m.ys.length + 1 = n1 := ⟨_, rfl⟩
  rw [hn1]
  have HC5 : Hid (n1 ≤ cap) := Lib.hid (by have := hb.1; rw [← hn1]; simpa using this)
  have hn2 : (m.ys.length : Int) < n1 := by omega
  have HL5 : Hid (m.ys.length ≤ n1) := Lib.hid (by omega)
  clear hb hn1
  have kk := v2.out hl
  obtain ⟨mo, hmo⟩ : ∃ mo : Mc, mo = { m with B := some ⟨g_, 0, none⟩, q := cap } := ⟨_, rfl⟩
  have lo5 : mo.c.length = 29 := by rw [hmo]; exact hl
  replace hmo := Lib.hid hmo
  go_wp2_with (first | ((with_reducible refine wpList_upto (A := some ⟨g_, 0, none⟩) (len := n1) (c := cap) (l := m.ys.length) (k := .i64) HL5.out HC5.out ?_ ?_ ?_ ?_); rfl; rfl; rfl; simp only [Act.put, List.setIfInBounds_toArray, List.set_cons_succ, List.set_cons_zero]) | ((with_reducible refine storeOut (B' := some ⟨g_, 0, none⟩) (q' := cap) (n' := m.ys.length) (zs := m.ys) v5 hl rfl ?_ ?_ ?_ ?_); rfl; rfl; rfl; intro w' r' t'; refine Hid.out ?_))
  refine Lib.hid ?_
  replace HN := Lib.hid (HN.out.trn v5 (NoU8.mach _) t')
  replace v2 := v2.trn t' n_v2_v5.out
  replace v3 := v3.trn t' n_v3_v5.out
  replace r' : Blk w' b_v5 30 (mach mo) := by rw [hmo.out]; exact r'
  replace HD := Lib.hid (HD.out.trn HL_v5.out t')
  clear t' v5
  have v5 := r'
  clear r'
  clear kk HL5
  have omo : Hid (mo.Ok w') := Lib.hid (by have o := hm.dn HD.out; rw [hmo.out]; exact ⟨hc, o.mem, HN.out.front, o.t0, o.t1⟩)
  go_wp2_with (first | ((with_reducible refine load33 v5 lo5 ?_ ?_ ?_); rfl; rfl; simp only [Act.put, List.setIfInBounds_toArray, List.set_cons_succ, List.set_cons_zero]) | ((with_reducible refine loadI v3 ?_ ?_ ?_); rfl; rfl; simp only [Act.put, List.setIfInBounds_toArray, List.set_cons_succ, List.set_cons_zero]) | (go_at_call 19; (with_reducible refine (C1.out _ mo g_ cap hmo.out omo.out (T.dn HD.out)).mono ?_); rintro e w' ⟨ma, rfl, oa', ea, d'⟩; dsimp only; refine Hid.out ?_))
  refine Lib.hid ?_
  replace v2 := v2.dn d'
  replace v3 := v3.dn d'
  replace v5 := v5.dn d'
  replace omo := Lib.hid (omo.out.dn d')
  replace HN := Lib.hid (HN.out.dn d')
  replace HD := Lib.hid (HD.out.trans d')
  clear d'
  have l7 := oa'.out.len
  have lmo := hmo
  have nt : ma.t = m.t := ea.out.t.trans (by rw [hmo.out])
  have nh : ma.h = m.h := by rw [ea.out.h]; exact HB1.out
  have na : ma.c.getD 16 0 = q := by rw [ea.out.c]; exact HQ.out
  have nx : ma.xs = m.xs := ea.out.xs.trans (by rw [hmo.out])
  have nxl : ma.xs.length = m.xs.length := by rw [nx]
  have nyl : ma.ys.length = m.ys.length := by rw [ea.out.ys]; exact HY1.out
  have nyt : ma.ys.take m.ys.length = m.ys := by rw [ea.out.ys]; exact HYT.out
  have hcap : (m.ys.length : Int) ≤ ma.q := by have := oa'.out.out.1; omega
  have hcap2 : m.ys.length ≤ ma.q := by omega
  replace nx := Lib.hid nx
  replace nyt := Lib.hid nyt
  clear lmo
  have RA := Lib.hid (fun j hj => by rw [ea.out.c]; exact HR.out j hj : ∀ j : Nat, j < 16 → ma.c.getD j 0 = m.c.getD j 0)
  have RC := Lib.hid (fun j hj => by rw [ea.out.c]; exact HC.out j hj : ∀ j : Nat, j < 12 → j ≠ 0 → ma.c.getD (17 + j) 0 = m.c.getD (17 + j) 0)
  have oa := Lib.hid oa'.out
  go_wp2_with (first | ((with_reducible refine wpList_alloc zeroMach ?_ ?_); rfl; intro b_v7 w' nn; simp only [Act.put, List.setIfInBounds_toArray, List.set_cons_succ, List.set_cons_zero]; refine Hid.out ?_))
  refine Lib.hid ?_
  have n_v2_v7 := Lib.hid (nn.ne _ v2.lt)
  have n_v3_v7 := Lib.hid (nn.ne _ v3.lt)
  have n_v5_v7 := Lib.hid (nn.ne _ v5.lt)
  have HL_v7 : Hid (W.heap.size ≤ b_v7) := Lib.hid (Blk.hi nn HD.out.size)
  have d' := nn.dn
  replace v2 := v2.dn d'
  replace v3 := v3.dn d'
  replace v5 := v5.dn d'
  replace omo := Lib.hid (omo.out.dn d')
  replace oa := Lib.hid (oa.out.dn d')
  replace HN := Lib.hid (HN.out.dn d')
  replace HD := Lib.hid (HD.out.trans d')
  have v7 := nn.blk
  clear d' nn
  go_wp2_with (first | ((with_reducible refine store33 ma l7 v7 zlen ?_ ?_ ?_ ?_); rfl; rfl; rfl; intro w' r' t'; refine Hid.out ?_))
  refine Lib.hid ?_
  replace omo := Lib.hid (omo.out.trn v7 (NoU8.mach _) t')
  replace oa := Lib.hid (oa.out.trn v7 (NoU8.mach _) t')
  replace HN := Lib.hid (HN.out.trn v7 (NoU8.mach _) t')
  replace v2 := v2.trn t' n_v2_v7.out
  replace v3 := v3.trn t' n_v3_v7.out
  replace v5 := v5.trn t' n_v5_v7.out
  replace HD := Lib.hid (HD.out.trn HL_v7.out t')
  clear t' v7
  have v7 := r'
  clear r'
  go_wp2_with fail
  have ck0 := v7.mem l7
  rw [nxl] at ck0
  have ck1 := v2.mem hl
  have ck2 := v7.time l7
  rw [nt] at ck2
  have ck3 := v2.time hl
  have ck4 := v7.out l7
  rw [nyl] at ck4
  have ck5 := v2.out hl
  have ck6 := HN.out.last
  have hn3 : (0 : Int) ≤ (m.ys.length : Int) := by omega
  have ck7 := v3.iop
  have QM := Lib.hid fun p q => Calls.regrown_of (same_yes ma.A m.A ma.k m.k m.xs.length m.xs.length ma.xs m.xs _ (oa.out.mem.dn (below_regrown w' p q)) ((hm.dn HD.out).mem.dn (below_regrown w' p q)) nxl.symm rfl nx.out (by omega))
  have QO := Lib.hid fun p q => Calls.regrown_of (same_yes ma.B m.B ma.q m.q m.ys.length m.ys.length (ma.ys.take m.ys.length) m.ys _ ((oa.out.out.take (A' := ma.B) (by omega) rfl).dn (below_regrown w' p q)) ((hm.dn HD.out).out.dn (below_regrown w' p q)) (by rw [List.length_take]; omega) rfl nyt.out (by rw [List.length_take]; omega))
  have HCP := Lib.hid hcap2
  have lck0 := fun d os => cell_regrown ck0 d os
  have lck1 := fun d os => cell_regrown ck1 d os
  have lck2 := fun d os => cell_regrown ck2 d os
  have lck3 := fun d os => cell_regrown ck3 d os
  have lck4 := fun d os => cell_regrown ck4 d os
  have lck5 := fun d os => cell_regrown ck5 d os
  have lck6 := fun d os => cell_regrown ck6 d os
  have lck7 := fun d os => cell_regrown ck7 d os
  refine wp_region_quiet_below (by kernel_rfl) (by kernel_rfl) ?_
  simp only [List.append]
  repeat (first | go_big_quiet_skip | (go_big_quiet_want; first | ((with_reducible refine qop_upto (l := m.ys.length) HCP.out ?_ ?_ ?_); rfl; rfl; simp only [Act.put, List.setIfInBounds_toArray, List.set_cons_succ, List.set_cons_zero]; go_big_quiet_on) | (go_big_quiet_op; first | go_big_quiet_on | go_big_quiet_call (first | (with_reducible exact QM.out _ _) | (with_reducible exact QO.out _ _)))))
  refine wpQuiet_nil ?_
  intro _ hw'
  obtain ⟨⟨dq, osq⟩, hw''⟩ := hw'
  subst hw''
  have d' := below_regrown w' dq osq
  clear QM QO HCP lck0 lck1 lck2 lck3 lck4 lck5 lck6 lck7 ck0 ck1 ck2 ck3 ck4 ck5 ck6 ck7
  replace v2 := v2.dn d'
  replace v3 := v3.dn d'
  replace v5 := v5.dn d'
  replace v7 := v7.dn d'
  replace omo := Lib.hid (omo.out.dn d')
  replace oa := Lib.hid (oa.out.dn d')
  replace HN := Lib.hid (HN.out.dn d')
  replace HD := Lib.hid (HD.out.trans d')
  clear d'
  generalize grow (redrawn w' dq) osq = w' at v2 v3 v5 v7 omo oa HN HD ⊢
  go_wp2_with fail
  go_loopw [8] (fun k w => FrRel 16 w' k w) (fun k _ => 16 - (intOf k).toNat)
  case atStart => exact ⟨0, by decide, rfl, Dn.refl _⟩
  case round =>
    obtain ⟨j, hj, rfl, dn⟩ := hrel
    replace v2 := v2.dn dn
    replace v3 := v3.dn dn
    replace v5 := v5.dn dn
    replace v7 := v7.dn dn
    replace omo := Lib.hid (omo.out.dn dn)
    replace oa := Lib.hid (oa.out.dn dn)
    replace HN := Lib.hid (HN.out.dn dn)
    have HW := Lib.hid (HD.out.trans dn)
    have DJ := Lib.hid dn
    clear HD dn
    by_cases hlt : j < 16
    · have hlt2 : (j : Int) < 16 := by omega
      have hz := RA.out j hlt
      have HD := Lib.hid (Dn.refl wr)
      have lo0 : (0 : Int) ≤ (j : Int) := by omega
      go_wp2_with fail
      have ck0 := v7.word l7 j (by simp; omega)
      have ck1 := v2.word hl j (by simp; omega)
      rw [hz] at ck0
      generalize m.c.getD j 0 = z at ck0 ck1
      have ck2 := v3.iop
      have ck3 := v3.ird
      have ck4 := v3.iimm
      have lck0 := fun d os => cell_regrown ck0 d os
      have lck1 := fun d os => cell_regrown ck1 d os
      have lck2 := fun d os => cell_regrown ck2 d os
      have lck3 := fun d os => cell_regrown ck3 d os
      have lck4 := fun d os => cell_regrown ck4 d os
      refine wp_region_quiet_below (by kernel_rfl) (by kernel_rfl) ?_
      repeat (first | go_big_quiet_skip | (go_big_quiet_want; (go_big_quiet_op; go_big_quiet_on)))
      refine wpQuiet_nil ?_
      intro _ hw'
      obtain ⟨⟨dq, osq⟩, hw''⟩ := hw'
      subst hw''
      have d' := below_regrown wr dq osq
      clear lck0 lck1 lck2 lck3 lck4 ck0 ck1 ck2 ck3 ck4
      replace v2 := v2.dn d'
      replace v3 := v3.dn d'
      replace v5 := v5.dn d'
      replace v7 := v7.dn d'
      replace omo := Lib.hid (omo.out.dn d')
      replace oa := Lib.hid (oa.out.dn d')
      replace HN := Lib.hid (HN.out.dn d')
      replace HD := Lib.hid (HD.out.trans d')
      clear d'
      generalize grow (redrawn wr dq) osq = w' at v2 v3 v5 v7 omo oa HN HD ⊢
      go_wp2_with fail
      exact ⟨⟨j + 1, by omega, by go_num, DJ.out.trans HD.out⟩, by simp [intOf]; omega⟩
    · have hlt2 : ¬ (j : Int) < 16 := by omega
      have HD := HW
      go_wp2_with fail
      go_loopw [9] (fun k w => FrRel 12 wr k w) (fun k _ => 12 - (intOf k).toNat)
      case atStart => exact ⟨0, by decide, rfl, Dn.refl _⟩
      case round =>
        obtain ⟨j, hj, rfl, dn⟩ := hrel
        replace v2 := v2.dn dn
        replace v3 := v3.dn dn
        replace v5 := v5.dn dn
        replace v7 := v7.dn dn
        replace omo := Lib.hid (omo.out.dn dn)
        replace oa := Lib.hid (oa.out.dn dn)
        replace HN := Lib.hid (HN.out.dn dn)
        have HW := Lib.hid (HD.out.trans dn)
        have DJ := Lib.hid dn
        clear HD dn
        by_cases hlt : j < 12
        · have hlt2 : (j : Int) < 12 := by omega
          by_cases hjr : j ≠ 0
          · have hz := RC.out j hlt hjr
            clear hjr
            have HD := Lib.hid (Dn.refl wr)
            have lo0 : (0 : Int) ≤ (j : Int) := by omega
            go_wp2_with fail
            have ck0 := v7.word l7 (17 + j) (by simp; omega)
            have ck1 := v2.word hl (17 + j) (by simp; omega)
            rw [hz] at ck0
            generalize m.c.getD (17 + j) 0 = z at ck0 ck1
            have ck2 := v3.iop
            have ck3 := v3.ird
            have ck4 := v3.iimm
            have lck0 := fun d os => cell_regrown ck0 d os
            have lck1 := fun d os => cell_regrown ck1 d os
            have lck2 := fun d os => cell_regrown ck2 d os
            have lck3 := fun d os => cell_regrown ck3 d os
            have lck4 := fun d os => cell_regrown ck4 d os
            refine wp_region_quiet_below (by kernel_rfl) (by kernel_rfl) ?_
            repeat (first | go_big_quiet_skip | (go_big_quiet_want; (go_big_quiet_op; go_big_quiet_on)))
            refine wpQuiet_nil ?_
            intro _ hw'
            obtain ⟨⟨dq, osq⟩, hw''⟩ := hw'
            subst hw''
            have d' := below_regrown wr dq osq
            clear lck0 lck1 lck2 lck3 lck4 ck0 ck1 ck2 ck3 ck4
            replace v2 := v2.dn d'
            replace v3 := v3.dn d'
            replace v5 := v5.dn d'
            replace v7 := v7.dn d'
            replace omo := Lib.hid (omo.out.dn d')
            replace oa := Lib.hid (oa.out.dn d')
            replace HN := Lib.hid (HN.out.dn d')
            replace HD := Lib.hid (HD.out.trans d')
            clear d'
            generalize grow (redrawn wr dq) osq = w' at v2 v3 v5 v7 omo oa HN HD ⊢
            go_wp2_with fail
            exact ⟨⟨j + 1, by omega, by go_num, DJ.out.trans HD.out⟩, by simp [intOf]; omega⟩
          · have hj1 : (j : Int) = 0 := by omega
            clear hjr
            by_cases hz : ma.c.getD (17 + j) 0 = m.c.getD (17 + j) 0
            · clear hj1
              have HD := Lib.hid (Dn.refl wr)
              have lo0 : (0 : Int) ≤ (j : Int) := by omega
              go_wp2_with fail
              have ck0 := v7.word l7 (17 + j) (by simp; omega)
              have ck1 := v2.word hl (17 + j) (by simp; omega)
              rw [hz] at ck0
              generalize m.c.getD (17 + j) 0 = z at ck0 ck1
              have ck2 := v3.iop
              have ck3 := v3.ird
              have ck4 := v3.iimm
              have lck0 := fun d os => cell_regrown ck0 d os
              have lck1 := fun d os => cell_regrown ck1 d os
              have lck2 := fun d os => cell_regrown ck2 d os
              have lck3 := fun d os => cell_regrown ck3 d os
              have lck4 := fun d os => cell_regrown ck4 d os
              refine wp_region_quiet_below (by kernel_rfl) (by kernel_rfl) ?_
              repeat (first | go_big_quiet_skip | (go_big_quiet_want; (go_big_quiet_op; go_big_quiet_on)))
              refine wpQuiet_nil ?_
              intro _ hw'
              obtain ⟨⟨dq, osq⟩, hw''⟩ := hw'
              subst hw''
              have d' := below_regrown wr dq osq
              clear lck0 lck1 lck2 lck3 lck4 ck0 ck1 ck2 ck3 ck4
              replace v2 := v2.dn d'
              replace v3 := v3.dn d'
              replace v5 := v5.dn d'
              replace v7 := v7.dn d'
              replace omo := Lib.hid (omo.out.dn d')
              replace oa := Lib.hid (oa.out.dn d')
              replace HN := Lib.hid (HN.out.dn d')
              replace HD := Lib.hid (HD.out.trans d')
              clear d'
              generalize grow (redrawn wr dq) osq = w' at v2 v3 v5 v7 omo oa HN HD ⊢
              go_wp2_with fail
              exact ⟨⟨j + 1, by omega, by go_num, DJ.out.trans HD.out⟩, by simp [intOf]; omega⟩
            · have hje : ((j : Int) == 0) = true := by rw [beq_iff_eq]; exact hj1
              have hjn : ((j : Int) != 0) = false := by rw [bne_eq_false_iff_eq]; exact hj1
              have hzb : (ma.c.getD (17 + j) 0 == m.c.getD (17 + j) 0) = false := by rw [beq_eq_false_iff_ne]; exact hz
              have hzn : (ma.c.getD (17 + j) 0 != m.c.getD (17 + j) 0) = true := by rw [bne_iff_ne]; exact hz
              clear hz hj1
              have HD := Lib.hid (Dn.refl wr)
              have lo0 : (0 : Int) ≤ (j : Int) := by omega
              go_wp2_with fail
              have ck0 := v7.word l7 (17 + j) (by simp; omega)
              have ck1 := v2.word hl (17 + j) (by simp; omega)
              generalize ma.c.getD (17 + j) 0 = y, m.c.getD (17 + j) 0 = z at ck0 ck1 hzb hzn
              have ck2 := v3.iop
              have ck3 := v3.ird
              have ck4 := v3.iimm
              have lck0 := fun d os => cell_regrown ck0 d os
              have lck1 := fun d os => cell_regrown ck1 d os
              have lck2 := fun d os => cell_regrown ck2 d os
              have lck3 := fun d os => cell_regrown ck3 d os
              have lck4 := fun d os => cell_regrown ck4 d os
              refine wp_region_quiet_below (by kernel_rfl) (by kernel_rfl) ?_
              repeat (first | go_big_quiet_skip | (go_big_quiet_want; (go_big_quiet_op; go_big_quiet_on)))
              refine wpQuiet_nil ?_
              intro _ hw'
              obtain ⟨⟨dq, osq⟩, hw''⟩ := hw'
              subst hw''
              have d' := below_regrown wr dq osq
              clear lck0 lck1 lck2 lck3 lck4 ck0 ck1 ck2 ck3 ck4
              replace v2 := v2.dn d'
              replace v3 := v3.dn d'
              replace v5 := v5.dn d'
              replace v7 := v7.dn d'
              replace omo := Lib.hid (omo.out.dn d')
              replace oa := Lib.hid (oa.out.dn d')
              replace HN := Lib.hid (HN.out.dn d')
              replace HD := Lib.hid (HD.out.trans d')
              clear d'
              generalize grow (redrawn wr dq) osq = w' at v2 v3 v5 v7 omo oa HN HD ⊢
              go_wp2_with fail
              exact ⟨⟨j + 1, by omega, by go_num, DJ.out.trans HD.out⟩, by simp [intOf]; omega⟩
        · have hlt2 : ¬ (j : Int) < 12 := by omega
          have HD := HW
          cases hmh : m.h
          all_goals
            rw [hmh] at nh
            have ck0 := v7.halted l7
            rw [nh] at ck0
            have ck1 := v2.halted hl
            rw [hmh] at ck1
            have ck2 := v3.iop
            have ck3 := v7.word l7 16 rfl
            rw [na] at ck3
            have ck4 := v2.word hl 18 rfl
            rw [hep] at ck4
            go_wp2_with fail
            go_ret
            exact ⟨rfl, HD.out⟩
end Go.Proofs.YthkhahfhbhgfhaaDoor
namespace Go.Proofs.YthkhahfhbhgfhaaDoor
open Go.ChangeShapes Go.WideShapes Go.ChangeAt Go.RowKit Go.Sort
set_option linter.unusedVariables false

set_option maxRecDepth 100000 in
set_option maxHeartbeats 2000000 in
theorem pf_24 (m : Mc) (rd ra rb imm : Int) (W : World) (hm : m.Ok W) (T : Cs.CsrTabs W) (i0 : -2147483648 ≤ imm) (i1 : imm < 2147483648) (hx : m.xs.length ≤ 9223372036854775807) (hy : m.ys.length ≤ 9223372036854775807) (hf : decide (m.xs.length ≤ 600 ∧ m.ys.length ≤ 600) = true) (hpl : (Is.M.ok 24 rd ra rb imm && Is.M.priv 24) = true) (c1 y1 : List Int) (b1 : Bool) (p q : Int) (h1 : M.px m.c m.ys m.h m.t 24 rd ra imm = ⟨c1, y1, b1⟩) (hpc : m.c.getD 16 0 = p) (hq : c1.getD 16 0 = q) (hb : b1 = true) (hy1 : y1.length = m.ys.length) (hyt : y1.take m.ys.length = m.ys) (hr : ∀ j : Nat, j < 16 → c1.getD j 0 = m.c.getD j 0) (hcs : ∀ j : Nat, j < 12 → c1.getD (17 + j) 0 = m.c.getD (17 + j) 0) (hq5 : (q == (p + 4) % 4294967296) = true) :
    Calls Tryd.prog 5 #[.agg (mach m), .agg (ins 24 rd ra rb imm)] W fun e W' => e = .returned (.bool true) ∧ Dn W W' := by
  have hl := hm.len
  have hc := hm.core
  have hs : m.xs.length ≤ 600 := by simp only [decide_eq_true_eq] at hf; omega
  have hn : m.ys.length ≤ 600 := by simp only [decide_eq_true_eq] at hf; omega
  have C0 := Lib.hid fun w => fun (t : Cs.CsrTabs w) => awakeP w t
  have CF := Lib.hid fun w => fun (ow : m.Ok w) => rfew m true w ow hx hy hf
  have hvp : Is.M.ok 24 rd ra rb imm = true ∧ Is.M.priv 24 = true := by simpa using hpl
  have CP := Lib.hid (rRight 24 rd ra rb imm true i0 i1 hpl)
  have HO := Lib.hid hm.out
  have C1 := Lib.hid fun (w : World) (mo : Mc) (g cap : Nat) (e : mo = { m with B := some ⟨g, 0, none⟩, q := cap }) (ow : mo.Ok w) (t : Cs.CsrTabs w) => (by exact xRunP mo 24 rd ra rb imm m.c m.ys m.h m.t (by rw [e]) (by rw [e]) (by rw [e]) (by rw [e]) ⟨c1, y1, b1⟩ h1 (by omega) i0 i1 (by decide) w ow t : Calls Tryd.prog 19 #[.agg (mach mo), .agg (ins 24 rd ra rb imm)] w fun e W' => ∃ m1, e = .returned (.agg (mach m1)) ∧ Hid (m1.Ok W') ∧ Hid (Pd mo ⟨c1, y1, b1⟩ w.heap.size m1) ∧ Dn w W')
  have p0 := (M.core_pc hc).1
  have p1 := (M.core_pc hc).2
  rw [show M.pc m.c = p from hpc] at p0 p1
  have hwr : IntKind.u32.wrap (p + 4) = (p + 4) % 4294967296 := rfl
  have hwi : IntKind.i64.wrap imm = imm := by rw [IntKind.wrap_i64]; omega
  have HQ := Lib.hid hq
  have HB1 := Lib.hid hb
  have HY1 := Lib.hid hy1
  have HYT := Lib.hid hyt
  have HR := Lib.hid hr
  have HC := Lib.hid hcs
  clear hf hpl hvp h1 hq hb hy1 hyt hr hcs
  have HD := Lib.hid (Dn.refl W)
  go_enter Tryd.func5, Tryd.ntmps5
  go_wp2_with (first | ((with_reducible refine wpList_box (vs := (mach m)) ?_ ?_ ?_); rfl; rfl; intro b_v2 w' nn; refine Hid.out ?_))
  refine Lib.hid ?_
  have HL_v2 : Hid (W.heap.size ≤ b_v2) := Lib.hid (Blk.hi nn HD.out.size)
  have d' := nn.dn
  replace HD := Lib.hid (HD.out.trans d')
  have v2 := nn.blk
  clear d' nn
  go_wp2_with (first | ((with_reducible refine wpList_box (vs := (ins 24 rd ra rb imm)) ?_ ?_ ?_); rfl; rfl; intro b_v3 w' nn; refine Hid.out ?_))
  refine Lib.hid ?_
  have n_v2_v3 := Lib.hid (nn.ne _ v2.lt)
  have HL_v3 : Hid (W.heap.size ≤ b_v3) := Lib.hid (Blk.hi nn HD.out.size)
  have d' := nn.dn
  replace v2 := v2.dn d'
  replace HD := Lib.hid (HD.out.trans d')
  have v3 := nn.blk
  clear d' nn
  go_wp2_with (first | (go_at_call 15; (with_reducible refine (C0.out _ (T.dn HD.out)).mono ?_); rintro e w' ⟨rfl, d'⟩; refine Hid.out ?_))
  refine Lib.hid ?_
  replace v2 := v2.dn d'
  replace v3 := v3.dn d'
  replace HD := Lib.hid (HD.out.trans d')
  clear d'
  go_wp2_with (first | ((with_reducible refine load33 v2 hl ?_ ?_ ?_); rfl; rfl) | (go_at_call 10; (with_reducible refine (CF.out _ (hm.dn HD.out)).mono ?_); rintro e w' ⟨rfl, d'⟩; refine Hid.out ?_))
  refine Lib.hid ?_
  replace v2 := v2.dn d'
  replace v3 := v3.dn d'
  replace HD := Lib.hid (HD.out.trans d')
  clear d'
  go_wp2_with (first | ((with_reducible refine loadI v3 ?_ ?_ ?_); rfl; rfl) | (go_at_call 18; (with_reducible refine (CP.out _).mono ?_); rintro e w' ⟨rfl, d'⟩; refine Hid.out ?_))
  refine Lib.hid ?_
  replace v2 := v2.dn d'
  replace v3 := v3.dn d'
  replace HD := Lib.hid (HD.out.trans d')
  clear d'
  go_wp2_with (first | ((with_reducible refine load33 v2 hl ?_ ?_ ?_); rfl; rfl) | ((with_reducible refine wpList_alloc zeroMach ?_ ?_); rfl; intro b_v5 w' nn; refine Hid.out ?_))
  refine Lib.hid ?_
  have n_v2_v5 := Lib.hid (nn.ne _ v2.lt)
  have n_v3_v5 := Lib.hid (nn.ne _ v3.lt)
  have HL_v5 : Hid (W.heap.size ≤ b_v5) := Lib.hid (Blk.hi nn HD.out.size)
  have d' := nn.dn
  replace v2 := v2.dn d'
  replace v3 := v3.dn d'
  replace HD := Lib.hid (HD.out.trans d')
  have v5 := nn.blk
  clear d' nn
  go_wp2_with (first | ((with_reducible refine store33 m hl v5 zlen ?_ ?_ ?_ ?_); rfl; rfl; rfl; intro w' r' t'; refine Hid.out ?_))
  refine Lib.hid ?_
  replace v2 := v2.trn t' n_v2_v5.out
  replace v3 := v3.trn t' n_v3_v5.out
  replace HD := Lib.hid (HD.out.trn HL_v5.out t')
  clear t' v5
  have v5 := r'
  clear r'
  have kk := v2.out hl
  have vlt := v2.lt
  have OWN := Lib.hid (own_zero w')
  have D0 : Hid (Dn w' (w'.alloc (Obj.cells #[] 5))) := Lib.hid ((Dn.refl w').alloc _)
  have HB := Lib.hid ((HO.out.dn HD.out).dn D0.out)
  go_wp2_with (at_builtin; (refine wpList_append8 rfl _ _ rfl w'.heap.size (.slice (some ⟨w'.heap.size, 0, none⟩) 0 0) 0 [] rfl OWN.out m.B m.q m.ys rfl HB.out (by omega) D0.out.size ?_); intro r w2 own1 gr1; refine Hid.out ?_)
  refine Lib.hid ?_
  have hown : w2.ownsRow w'.heap.size 5 1 r m.ys.length (m.ys.map (Value.int .u8)) := by simpa using own1
  have d1 : Dn w' w2 := below_keep D0.out gr1 D0.out.size (fun q e => (OWN.out.lt q e).1)
  clear own1 gr1 OWN HB kk vlt
  have OWN2 : Hid ((w2.alloc (.cells #[.int .u8 77] 5)).ownsRow w'.heap.size 5 1 r m.ys.length (m.ys.map (Value.int .u8))) := Lib.hid (hown.alloc _)
  have H1 := Lib.hid (byte_bs w2 77 (by decide) (by decide))
  replace d1 := Lib.hid d1
  clear hown
  go_wp2_with (at_builtin; (refine wpList_append8 rfl _ _ rfl w'.heap.size r m.ys.length _ rfl OWN2.out _ 1 [77] rfl H1.out (by simp; omega) (Nat.le_trans d1.out.size (by simp)) ?_); intro r2 w3 own2 gr2; refine Hid.out ?_)
  refine Lib.hid ?_
  have own3 : w3.ownsRow w'.heap.size 5 1 r2 (m.ys.length + 1) ((m.ys ++ [77]).map (Value.int .u8)) := by simpa using own2
  have d' : Dn w' w3 := below_keep (d1.out.alloc _) gr2 (Nat.le_trans d1.out.size (by simp)) (fun q e => (OWN2.out.lt q e).1)
  obtain ⟨g_, cap, rfl, hg, _⟩ := own_shape own3 (by omega)
  obtain ⟨A', c', e1, hb⟩ := Bs.of_own (n := m.ys.length + 1) (xs := m.ys ++ [77]) (by simp) (by_77 HO.out.2.1) own3
  simp only [Value.slice.injEq] at e1
  obtain ⟨rfl, _, rfl⟩ := e1
  clear own2 own3 gr2 H1 OWN2 d1 D0 hg
  replace v2 := v2.dn d'
  replace v3 := v3.dn d'
  replace v5 := v5.dn d'
  replace HD := Lib.hid (HD.out.trans d')
  clear d'
  have HN := Lib.hid hb
  obtain ⟨n1, hn1⟩ : ∃ n1 : Nat, m.ys.length + 1 = n1 := ⟨_, rfl⟩
  rw [hn1]
  have HC5 : Hid (n1 ≤ cap) := Lib.hid (by have := hb.1; rw [← hn1]; simpa using this)
  have hn2 : (m.ys.length : Int) < n1 := by omega
  have HL5 : Hid (m.ys.length ≤ n1) := Lib.hid (by omega)
  clear hb hn1
  have kk := v2.out hl
  obtain ⟨mo, hmo⟩ : ∃ mo : Mc, mo = { m with B := some ⟨g_, 0, none⟩, q := cap } := ⟨_, rfl⟩
  have lo5 : mo.c.length = 29 := by rw [hmo]; exact hl
  replace hmo := Lib.hid hmo
  go_wp2_with (first | ((with_reducible refine wpList_upto (A := some ⟨g_, 0, none⟩) (len := n1) (c := cap) (l := m.ys.length) (k := .i64) HL5.out HC5.out ?_ ?_ ?_ ?_); rfl; rfl; rfl; simp only [Act.put, List.setIfInBounds_toArray, List.set_cons_succ, List.set_cons_zero]) | ((with_reducible refine storeOut (B' := some ⟨g_, 0, none⟩) (q' := cap) (n' := m.ys.length) (zs := m.ys) v5 hl rfl ?_ ?_ ?_ ?_); rfl; rfl; rfl; intro w' r' t'; refine Hid.out ?_))
  refine Lib.hid ?_
  replace HN := Lib.hid (HN.out.trn v5 (NoU8.mach _) t')
  replace v2 := v2.trn t' n_v2_v5.out
  replace v3 := v3.trn t' n_v3_v5.out
  replace r' : Blk w' b_v5 30 (mach mo) := by rw [hmo.out]; exact r'
  replace HD := Lib.hid (HD.out.trn HL_v5.out t')
  clear t' v5
  have v5 := r'
  clear r'
  clear kk HL5
  have omo : Hid (mo.Ok w') := Lib.hid (by have o := hm.dn HD.out; rw [hmo.out]; exact ⟨hc, o.mem, HN.out.front, o.t0, o.t1⟩)
  go_wp2_with (first | ((with_reducible refine load33 v5 lo5 ?_ ?_ ?_); rfl; rfl; simp only [Act.put, List.setIfInBounds_toArray, List.set_cons_succ, List.set_cons_zero]) | ((with_reducible refine loadI v3 ?_ ?_ ?_); rfl; rfl; simp only [Act.put, List.setIfInBounds_toArray, List.set_cons_succ, List.set_cons_zero]) | (go_at_call 19; (with_reducible refine (C1.out _ mo g_ cap hmo.out omo.out (T.dn HD.out)).mono ?_); rintro e w' ⟨ma, rfl, oa', ea, d'⟩; dsimp only; refine Hid.out ?_))
  refine Lib.hid ?_
  replace v2 := v2.dn d'
  replace v3 := v3.dn d'
  replace v5 := v5.dn d'
  replace omo := Lib.hid (omo.out.dn d')
  replace HN := Lib.hid (HN.out.dn d')
  replace HD := Lib.hid (HD.out.trans d')
  clear d'
  have l7 := oa'.out.len
  have lmo := hmo
  have nt : ma.t = m.t := ea.out.t.trans (by rw [hmo.out])
  have nh : ma.h = true := by rw [ea.out.h]; exact HB1.out
  have na : ma.c.getD 16 0 = q := by rw [ea.out.c]; exact HQ.out
  have nx : ma.xs = m.xs := ea.out.xs.trans (by rw [hmo.out])
  have nxl : ma.xs.length = m.xs.length := by rw [nx]
  have nyl : ma.ys.length = m.ys.length := by rw [ea.out.ys]; exact HY1.out
  have nyt : ma.ys.take m.ys.length = m.ys := by rw [ea.out.ys]; exact HYT.out
  have hcap : (m.ys.length : Int) ≤ ma.q := by have := oa'.out.out.1; omega
  have hcap2 : m.ys.length ≤ ma.q := by omega
  replace nx := Lib.hid nx
  replace nyt := Lib.hid nyt
  clear lmo
  have RA := Lib.hid (fun j hj => by rw [ea.out.c]; exact HR.out j hj : ∀ j : Nat, j < 16 → ma.c.getD j 0 = m.c.getD j 0)
  have RC := Lib.hid (fun j hj => by rw [ea.out.c]; exact HC.out j hj : ∀ j : Nat, j < 12 → ma.c.getD (17 + j) 0 = m.c.getD (17 + j) 0)
  have oa := Lib.hid oa'.out
  go_wp2_with (first | ((with_reducible refine wpList_alloc zeroMach ?_ ?_); rfl; intro b_v7 w' nn; simp only [Act.put, List.setIfInBounds_toArray, List.set_cons_succ, List.set_cons_zero]; refine Hid.out ?_))
  refine Lib.hid ?_
  have n_v2_v7 := Lib.hid (nn.ne _ v2.lt)
  have n_v3_v7 := Lib.hid (nn.ne _ v3.lt)
  have n_v5_v7 := Lib.hid (nn.ne _ v5.lt)
  have HL_v7 : Hid (W.heap.size ≤ b_v7) := Lib.hid (Blk.hi nn HD.out.size)
  have d' := nn.dn
  replace v2 := v2.dn d'
  replace v3 := v3.dn d'
  replace v5 := v5.dn d'
  replace omo := Lib.hid (omo.out.dn d')
  replace oa := Lib.hid (oa.out.dn d')
  replace HN := Lib.hid (HN.out.dn d')
  replace HD := Lib.hid (HD.out.trans d')
  have v7 := nn.blk
  clear d' nn
  go_wp2_with (first | ((with_reducible refine store33 ma l7 v7 zlen ?_ ?_ ?_ ?_); rfl; rfl; rfl; intro w' r' t'; refine Hid.out ?_))
  refine Lib.hid ?_
  replace omo := Lib.hid (omo.out.trn v7 (NoU8.mach _) t')
  replace oa := Lib.hid (oa.out.trn v7 (NoU8.mach _) t')
  replace HN := Lib.hid (HN.out.trn v7 (NoU8.mach _) t')
  replace v2 := v2.trn t' n_v2_v7.out
  replace v3 := v3.trn t' n_v3_v7.out
  replace v5 := v5.trn t' n_v5_v7.out
  replace HD := Lib.hid (HD.out.trn HL_v7.out t')
  clear t' v7
  have v7 := r'
  clear r'
  go_wp2_with fail
  have ck0 := v7.mem l7
  rw [nxl] at ck0
  have ck1 := v2.mem hl
  have ck2 := v7.time l7
  rw [nt] at ck2
  have ck3 := v2.time hl
  have ck4 := v7.out l7
  rw [nyl] at ck4
  have ck5 := v2.out hl
  have ck6 := HN.out.last
  have hn3 : (0 : Int) ≤ (m.ys.length : Int) := by omega
  have ck7 := v3.iop
  have QM := Lib.hid fun p q => Calls.regrown_of (same_yes ma.A m.A ma.k m.k m.xs.length m.xs.length ma.xs m.xs _ (oa.out.mem.dn (below_regrown w' p q)) ((hm.dn HD.out).mem.dn (below_regrown w' p q)) nxl.symm rfl nx.out (by omega))
  have QO := Lib.hid fun p q => Calls.regrown_of (same_yes ma.B m.B ma.q m.q m.ys.length m.ys.length (ma.ys.take m.ys.length) m.ys _ ((oa.out.out.take (A' := ma.B) (by omega) rfl).dn (below_regrown w' p q)) ((hm.dn HD.out).out.dn (below_regrown w' p q)) (by rw [List.length_take]; omega) rfl nyt.out (by rw [List.length_take]; omega))
  have HCP := Lib.hid hcap2
  have lck0 := fun d os => cell_regrown ck0 d os
  have lck1 := fun d os => cell_regrown ck1 d os
  have lck2 := fun d os => cell_regrown ck2 d os
  have lck3 := fun d os => cell_regrown ck3 d os
  have lck4 := fun d os => cell_regrown ck4 d os
  have lck5 := fun d os => cell_regrown ck5 d os
  have lck6 := fun d os => cell_regrown ck6 d os
  have lck7 := fun d os => cell_regrown ck7 d os
  refine wp_region_quiet_below (by kernel_rfl) (by kernel_rfl) ?_
  simp only [List.append]
  repeat (first | go_big_quiet_skip | (go_big_quiet_want; first | ((with_reducible refine qop_upto (l := m.ys.length) HCP.out ?_ ?_ ?_); rfl; rfl; simp only [Act.put, List.setIfInBounds_toArray, List.set_cons_succ, List.set_cons_zero]; go_big_quiet_on) | (go_big_quiet_op; first | go_big_quiet_on | go_big_quiet_call (first | (with_reducible exact QM.out _ _) | (with_reducible exact QO.out _ _)))))
  refine wpQuiet_nil ?_
  intro _ hw'
  obtain ⟨⟨dq, osq⟩, hw''⟩ := hw'
  subst hw''
  have d' := below_regrown w' dq osq
  clear QM QO HCP lck0 lck1 lck2 lck3 lck4 lck5 lck6 lck7 ck0 ck1 ck2 ck3 ck4 ck5 ck6 ck7
  replace v2 := v2.dn d'
  replace v3 := v3.dn d'
  replace v5 := v5.dn d'
  replace v7 := v7.dn d'
  replace omo := Lib.hid (omo.out.dn d')
  replace oa := Lib.hid (oa.out.dn d')
  replace HN := Lib.hid (HN.out.dn d')
  replace HD := Lib.hid (HD.out.trans d')
  clear d'
  generalize grow (redrawn w' dq) osq = w' at v2 v3 v5 v7 omo oa HN HD ⊢
  go_wp2_with fail
  go_loopw [8] (fun k w => FrRel 16 w' k w) (fun k _ => 16 - (intOf k).toNat)
  case atStart => exact ⟨0, by decide, rfl, Dn.refl _⟩
  case round =>
    obtain ⟨j, hj, rfl, dn⟩ := hrel
    replace v2 := v2.dn dn
    replace v3 := v3.dn dn
    replace v5 := v5.dn dn
    replace v7 := v7.dn dn
    replace omo := Lib.hid (omo.out.dn dn)
    replace oa := Lib.hid (oa.out.dn dn)
    replace HN := Lib.hid (HN.out.dn dn)
    have HW := Lib.hid (HD.out.trans dn)
    have DJ := Lib.hid dn
    clear HD dn
    by_cases hlt : j < 16
    · have hlt2 : (j : Int) < 16 := by omega
      have hz := RA.out j hlt
      have HD := Lib.hid (Dn.refl wr)
      have lo0 : (0 : Int) ≤ (j : Int) := by omega
      go_wp2_with fail
      have ck0 := v7.word l7 j (by simp; omega)
      have ck1 := v2.word hl j (by simp; omega)
      rw [hz] at ck0
      generalize m.c.getD j 0 = z at ck0 ck1
      have ck2 := v3.iop
      have ck3 := v3.ird
      have ck4 := v3.iimm
      have lck0 := fun d os => cell_regrown ck0 d os
      have lck1 := fun d os => cell_regrown ck1 d os
      have lck2 := fun d os => cell_regrown ck2 d os
      have lck3 := fun d os => cell_regrown ck3 d os
      have lck4 := fun d os => cell_regrown ck4 d os
      refine wp_region_quiet_below (by kernel_rfl) (by kernel_rfl) ?_
      repeat (first | go_big_quiet_skip | (go_big_quiet_want; (go_big_quiet_op; go_big_quiet_on)))
      refine wpQuiet_nil ?_
      intro _ hw'
      obtain ⟨⟨dq, osq⟩, hw''⟩ := hw'
      subst hw''
      have d' := below_regrown wr dq osq
      clear lck0 lck1 lck2 lck3 lck4 ck0 ck1 ck2 ck3 ck4
      replace v2 := v2.dn d'
      replace v3 := v3.dn d'
      replace v5 := v5.dn d'
      replace v7 := v7.dn d'
      replace omo := Lib.hid (omo.out.dn d')
      replace oa := Lib.hid (oa.out.dn d')
      replace HN := Lib.hid (HN.out.dn d')
      replace HD := Lib.hid (HD.out.trans d')
      clear d'
      generalize grow (redrawn wr dq) osq = w' at v2 v3 v5 v7 omo oa HN HD ⊢
      go_wp2_with fail
      exact ⟨⟨j + 1, by omega, by go_num, DJ.out.trans HD.out⟩, by simp [intOf]; omega⟩
    · have hlt2 : ¬ (j : Int) < 16 := by omega
      have HD := HW
      go_wp2_with fail
      go_loopw [9] (fun k w => FrRel 12 wr k w) (fun k _ => 12 - (intOf k).toNat)
      case atStart => exact ⟨0, by decide, rfl, Dn.refl _⟩
      case round =>
        obtain ⟨j, hj, rfl, dn⟩ := hrel
        replace v2 := v2.dn dn
        replace v3 := v3.dn dn
        replace v5 := v5.dn dn
        replace v7 := v7.dn dn
        replace omo := Lib.hid (omo.out.dn dn)
        replace oa := Lib.hid (oa.out.dn dn)
        replace HN := Lib.hid (HN.out.dn dn)
        have HW := Lib.hid (HD.out.trans dn)
        have DJ := Lib.hid dn
        clear HD dn
        by_cases hlt : j < 12
        · have hlt2 : (j : Int) < 12 := by omega
          have hz := RC.out j hlt
          have HD := Lib.hid (Dn.refl wr)
          have lo0 : (0 : Int) ≤ (j : Int) := by omega
          go_wp2_with fail
          have ck0 := v7.word l7 (17 + j) (by simp; omega)
          have ck1 := v2.word hl (17 + j) (by simp; omega)
          rw [hz] at ck0
          generalize m.c.getD (17 + j) 0 = z at ck0 ck1
          have ck2 := v3.iop
          have ck3 := v3.ird
          have ck4 := v3.iimm
          have lck0 := fun d os => cell_regrown ck0 d os
          have lck1 := fun d os => cell_regrown ck1 d os
          have lck2 := fun d os => cell_regrown ck2 d os
          have lck3 := fun d os => cell_regrown ck3 d os
          have lck4 := fun d os => cell_regrown ck4 d os
          refine wp_region_quiet_below (by kernel_rfl) (by kernel_rfl) ?_
          repeat (first | go_big_quiet_skip | (go_big_quiet_want; (go_big_quiet_op; go_big_quiet_on)))
          refine wpQuiet_nil ?_
          intro _ hw'
          obtain ⟨⟨dq, osq⟩, hw''⟩ := hw'
          subst hw''
          have d' := below_regrown wr dq osq
          clear lck0 lck1 lck2 lck3 lck4 ck0 ck1 ck2 ck3 ck4
          replace v2 := v2.dn d'
          replace v3 := v3.dn d'
          replace v5 := v5.dn d'
          replace v7 := v7.dn d'
          replace omo := Lib.hid (omo.out.dn d')
          replace oa := Lib.hid (oa.out.dn d')
          replace HN := Lib.hid (HN.out.dn d')
          replace HD := Lib.hid (HD.out.trans d')
          clear d'
          generalize grow (redrawn wr dq) osq = w' at v2 v3 v5 v7 omo oa HN HD ⊢
          go_wp2_with fail
          exact ⟨⟨j + 1, by omega, by go_num, DJ.out.trans HD.out⟩, by simp [intOf]; omega⟩
        · have hlt2 : ¬ (j : Int) < 12 := by omega
          have HD := HW
          cases hmh : m.h
          all_goals
            have ck0 := v7.halted l7
            rw [nh] at ck0
            have ck1 := v2.halted hl
            rw [hmh] at ck1
            have ck2 := v3.iop
            have ck3 := v7.word l7 16 rfl
            rw [na] at ck3
            have ck4 := v2.word hl 16 rfl
            rw [hpc] at ck4
            go_wp2_with fail
            go_ret
            exact ⟨rfl, HD.out⟩
end Go.Proofs.YthkhahfhbhgfhaaDoor
namespace Go.Proofs.YthkhahfhbhgfhaaDoor
open Go.ChangeShapes Go.WideShapes Go.ChangeAt Go.RowKit Go.Sort
set_option linter.unusedVariables false

set_option maxRecDepth 100000 in
set_option maxHeartbeats 2000000 in
theorem pf_25 (m : Mc) (rd ra rb imm : Int) (W : World) (hm : m.Ok W) (T : Cs.CsrTabs W) (i0 : -2147483648 ≤ imm) (i1 : imm < 2147483648) (hx : m.xs.length ≤ 9223372036854775807) (hy : m.ys.length ≤ 9223372036854775807) (hf : decide (m.xs.length ≤ 600 ∧ m.ys.length ≤ 600) = true) (hpl : (Is.M.ok 25 rd ra rb imm && Is.M.priv 25) = true) (c1 y1 : List Int) (b1 : Bool) (p q : Int) (h1 : M.px m.c m.ys m.h m.t 25 rd ra imm = ⟨c1, y1, b1⟩) (hpc : m.c.getD 16 0 = p) (hq : c1.getD 16 0 = q) (hb : b1 = m.h) (hy1 : y1.length = m.ys.length + 1) (hyt : y1.take m.ys.length = m.ys) (hr : ∀ j : Nat, j < 16 → c1.getD j 0 = m.c.getD j 0) (hcs : ∀ j : Nat, j < 12 → c1.getD (17 + j) 0 = m.c.getD (17 + j) 0) (hq5 : (q == (p + 4) % 4294967296) = true) :
    Calls Tryd.prog 5 #[.agg (mach m), .agg (ins 25 rd ra rb imm)] W fun e W' => e = .returned (.bool true) ∧ Dn W W' := by
  have hl := hm.len
  have hc := hm.core
  have hs : m.xs.length ≤ 600 := by simp only [decide_eq_true_eq] at hf; omega
  have hn : m.ys.length ≤ 600 := by simp only [decide_eq_true_eq] at hf; omega
  have C0 := Lib.hid fun w => fun (t : Cs.CsrTabs w) => awakeP w t
  have CF := Lib.hid fun w => fun (ow : m.Ok w) => rfew m true w ow hx hy hf
  have hvp : Is.M.ok 25 rd ra rb imm = true ∧ Is.M.priv 25 = true := by simpa using hpl
  have CP := Lib.hid (rRight 25 rd ra rb imm true i0 i1 hpl)
  have HO := Lib.hid hm.out
  have C1 := Lib.hid fun (w : World) (mo : Mc) (g cap : Nat) (e : mo = { m with B := some ⟨g, 0, none⟩, q := cap }) (ow : mo.Ok w) (t : Cs.CsrTabs w) => (by exact xRunP mo 25 rd ra rb imm m.c m.ys m.h m.t (by rw [e]) (by rw [e]) (by rw [e]) (by rw [e]) ⟨c1, y1, b1⟩ h1 (by omega) i0 i1 (by decide) w ow t : Calls Tryd.prog 19 #[.agg (mach mo), .agg (ins 25 rd ra rb imm)] w fun e W' => ∃ m1, e = .returned (.agg (mach m1)) ∧ Hid (m1.Ok W') ∧ Hid (Pd mo ⟨c1, y1, b1⟩ w.heap.size m1) ∧ Dn w W')
  have p0 := (M.core_pc hc).1
  have p1 := (M.core_pc hc).2
  rw [show M.pc m.c = p from hpc] at p0 p1
  have hwr : IntKind.u32.wrap (p + 4) = (p + 4) % 4294967296 := rfl
  have hwi : IntKind.i64.wrap imm = imm := by rw [IntKind.wrap_i64]; omega
  have HQ := Lib.hid hq
  have HB1 := Lib.hid hb
  have HY1 := Lib.hid hy1
  have HYT := Lib.hid hyt
  have HR := Lib.hid hr
  have HC := Lib.hid hcs
  clear hf hpl hvp h1 hq hb hy1 hyt hr hcs
  have HD := Lib.hid (Dn.refl W)
  go_enter Tryd.func5, Tryd.ntmps5
  go_wp2_with (first | ((with_reducible refine wpList_box (vs := (mach m)) ?_ ?_ ?_); rfl; rfl; intro b_v2 w' nn; refine Hid.out ?_))
  refine Lib.hid ?_
  have HL_v2 : Hid (W.heap.size ≤ b_v2) := Lib.hid (Blk.hi nn HD.out.size)
  have d' := nn.dn
  replace HD := Lib.hid (HD.out.trans d')
  have v2 := nn.blk
  clear d' nn
  go_wp2_with (first | ((with_reducible refine wpList_box (vs := (ins 25 rd ra rb imm)) ?_ ?_ ?_); rfl; rfl; intro b_v3 w' nn; refine Hid.out ?_))
  refine Lib.hid ?_
  have n_v2_v3 := Lib.hid (nn.ne _ v2.lt)
  have HL_v3 : Hid (W.heap.size ≤ b_v3) := Lib.hid (Blk.hi nn HD.out.size)
  have d' := nn.dn
  replace v2 := v2.dn d'
  replace HD := Lib.hid (HD.out.trans d')
  have v3 := nn.blk
  clear d' nn
  go_wp2_with (first | (go_at_call 15; (with_reducible refine (C0.out _ (T.dn HD.out)).mono ?_); rintro e w' ⟨rfl, d'⟩; refine Hid.out ?_))
  refine Lib.hid ?_
  replace v2 := v2.dn d'
  replace v3 := v3.dn d'
  replace HD := Lib.hid (HD.out.trans d')
  clear d'
  go_wp2_with (first | ((with_reducible refine load33 v2 hl ?_ ?_ ?_); rfl; rfl) | (go_at_call 10; (with_reducible refine (CF.out _ (hm.dn HD.out)).mono ?_); rintro e w' ⟨rfl, d'⟩; refine Hid.out ?_))
  refine Lib.hid ?_
  replace v2 := v2.dn d'
  replace v3 := v3.dn d'
  replace HD := Lib.hid (HD.out.trans d')
  clear d'
  go_wp2_with (first | ((with_reducible refine loadI v3 ?_ ?_ ?_); rfl; rfl) | (go_at_call 18; (with_reducible refine (CP.out _).mono ?_); rintro e w' ⟨rfl, d'⟩; refine Hid.out ?_))
  refine Lib.hid ?_
  replace v2 := v2.dn d'
  replace v3 := v3.dn d'
  replace HD := Lib.hid (HD.out.trans d')
  clear d'
  go_wp2_with (first | ((with_reducible refine load33 v2 hl ?_ ?_ ?_); rfl; rfl) | ((with_reducible refine wpList_alloc zeroMach ?_ ?_); rfl; intro b_v5 w' nn; refine Hid.out ?_))
  refine Lib.hid ?_
  have n_v2_v5 := Lib.hid (nn.ne _ v2.lt)
  have n_v3_v5 := Lib.hid (nn.ne _ v3.lt)
  have HL_v5 : Hid (W.heap.size ≤ b_v5) := Lib.hid (Blk.hi nn HD.out.size)
  have d' := nn.dn
  replace v2 := v2.dn d'
  replace v3 := v3.dn d'
  replace HD := Lib.hid (HD.out.trans d')
  have v5 := nn.blk
  clear d' nn
  go_wp2_with (first | ((with_reducible refine store33 m hl v5 zlen ?_ ?_ ?_ ?_); rfl; rfl; rfl; intro w' r' t'; refine Hid.out ?_))
  refine Lib.hid ?_
  replace v2 := v2.trn t' n_v2_v5.out
  replace v3 := v3.trn t' n_v3_v5.out
  replace HD := Lib.hid (HD.out.trn HL_v5.out t')
  clear t' v5
  have v5 := r'
  clear r'
  have kk := v2.out hl
  have vlt := v2.lt
  have OWN := Lib.hid (own_zero w')
  have D0 : Hid (Dn w' (w'.alloc (Obj.cells #[] 5))) := Lib.hid ((Dn.refl w').alloc _)
  have HB := Lib.hid ((HO.out.dn HD.out).dn D0.out)
  go_wp2_with (at_builtin; (refine wpList_append8 rfl _ _ rfl w'.heap.size (.slice (some ⟨w'.heap.size, 0, none⟩) 0 0) 0 [] rfl OWN.out m.B m.q m.ys rfl HB.out (by omega) D0.out.size ?_); intro r w2 own1 gr1; refine Hid.out ?_)
  refine Lib.hid ?_
  have hown : w2.ownsRow w'.heap.size 5 1 r m.ys.length (m.ys.map (Value.int .u8)) := by simpa using own1
  have d1 : Dn w' w2 := below_keep D0.out gr1 D0.out.size (fun q e => (OWN.out.lt q e).1)
  clear own1 gr1 OWN HB kk vlt
  have OWN2 : Hid ((w2.alloc (.cells #[.int .u8 77] 5)).ownsRow w'.heap.size 5 1 r m.ys.length (m.ys.map (Value.int .u8))) := Lib.hid (hown.alloc _)
  have H1 := Lib.hid (byte_bs w2 77 (by decide) (by decide))
  replace d1 := Lib.hid d1
  clear hown
  go_wp2_with (at_builtin; (refine wpList_append8 rfl _ _ rfl w'.heap.size r m.ys.length _ rfl OWN2.out _ 1 [77] rfl H1.out (by simp; omega) (Nat.le_trans d1.out.size (by simp)) ?_); intro r2 w3 own2 gr2; refine Hid.out ?_)
  refine Lib.hid ?_
  have own3 : w3.ownsRow w'.heap.size 5 1 r2 (m.ys.length + 1) ((m.ys ++ [77]).map (Value.int .u8)) := by simpa using own2
  have d' : Dn w' w3 := below_keep (d1.out.alloc _) gr2 (Nat.le_trans d1.out.size (by simp)) (fun q e => (OWN2.out.lt q e).1)
  obtain ⟨g_, cap, rfl, hg, _⟩ := own_shape own3 (by omega)
  obtain ⟨A', c', e1, hb⟩ := Bs.of_own (n := m.ys.length + 1) (xs := m.ys ++ [77]) (by simp) (by_77 HO.out.2.1) own3
  simp only [Value.slice.injEq] at e1
  obtain ⟨rfl, _, rfl⟩ := e1
  clear own2 own3 gr2 H1 OWN2 d1 D0 hg
  replace v2 := v2.dn d'
  replace v3 := v3.dn d'
  replace v5 := v5.dn d'
  replace HD := Lib.hid (HD.out.trans d')
  clear d'
  have HN := Lib.hid hb
  obtain ⟨n1, hn1⟩ : ∃ n1 : Nat, m.ys.length + 1 = n1 := ⟨_, rfl⟩
  rw [hn1]
  have HC5 : Hid (n1 ≤ cap) := Lib.hid (by have := hb.1; rw [← hn1]; simpa using this)
  have hn2 : (m.ys.length : Int) < n1 := by omega
  have HL5 : Hid (m.ys.length ≤ n1) := Lib.hid (by omega)
  clear hb hn1
  have kk := v2.out hl
  obtain ⟨mo, hmo⟩ : ∃ mo : Mc, mo = { m with B := some ⟨g_, 0, none⟩, q := cap } := ⟨_, rfl⟩
  have lo5 : mo.c.length = 29 := by rw [hmo]; exact hl
  replace hmo := Lib.hid hmo
  go_wp2_with (first | ((with_reducible refine wpList_upto (A := some ⟨g_, 0, none⟩) (len := n1) (c := cap) (l := m.ys.length) (k := .i64) HL5.out HC5.out ?_ ?_ ?_ ?_); rfl; rfl; rfl; simp only [Act.put, List.setIfInBounds_toArray, List.set_cons_succ, List.set_cons_zero]) | ((with_reducible refine storeOut (B' := some ⟨g_, 0, none⟩) (q' := cap) (n' := m.ys.length) (zs := m.ys) v5 hl rfl ?_ ?_ ?_ ?_); rfl; rfl; rfl; intro w' r' t'; refine Hid.out ?_))
  refine Lib.hid ?_
  replace HN := Lib.hid (HN.out.trn v5 (NoU8.mach _) t')
  replace v2 := v2.trn t' n_v2_v5.out
  replace v3 := v3.trn t' n_v3_v5.out
  replace r' : Blk w' b_v5 30 (mach mo) := by rw [hmo.out]; exact r'
  replace HD := Lib.hid (HD.out.trn HL_v5.out t')
  clear t' v5
  have v5 := r'
  clear r'
  clear kk HL5
  have omo : Hid (mo.Ok w') := Lib.hid (by have o := hm.dn HD.out; rw [hmo.out]; exact ⟨hc, o.mem, HN.out.front, o.t0, o.t1⟩)
  go_wp2_with (first | ((with_reducible refine load33 v5 lo5 ?_ ?_ ?_); rfl; rfl; simp only [Act.put, List.setIfInBounds_toArray, List.set_cons_succ, List.set_cons_zero]) | ((with_reducible refine loadI v3 ?_ ?_ ?_); rfl; rfl; simp only [Act.put, List.setIfInBounds_toArray, List.set_cons_succ, List.set_cons_zero]) | (go_at_call 19; (with_reducible refine (C1.out _ mo g_ cap hmo.out omo.out (T.dn HD.out)).mono ?_); rintro e w' ⟨ma, rfl, oa', ea, d'⟩; dsimp only; refine Hid.out ?_))
  refine Lib.hid ?_
  replace v2 := v2.dn d'
  replace v3 := v3.dn d'
  replace v5 := v5.dn d'
  replace omo := Lib.hid (omo.out.dn d')
  replace HN := Lib.hid (HN.out.dn d')
  replace HD := Lib.hid (HD.out.trans d')
  clear d'
  have l7 := oa'.out.len
  have lmo := hmo
  have nt : ma.t = m.t := ea.out.t.trans (by rw [hmo.out])
  have nh : ma.h = m.h := by rw [ea.out.h]; exact HB1.out
  have na : ma.c.getD 16 0 = q := by rw [ea.out.c]; exact HQ.out
  have nx : ma.xs = m.xs := ea.out.xs.trans (by rw [hmo.out])
  have nxl : ma.xs.length = m.xs.length := by rw [nx]
  have nyl : ma.ys.length = m.ys.length + 1 := by rw [ea.out.ys]; exact HY1.out
  have nyt : ma.ys.take m.ys.length = m.ys := by rw [ea.out.ys]; exact HYT.out
  have hcap : (m.ys.length : Int) ≤ ma.q := by have := oa'.out.out.1; omega
  have hcap2 : m.ys.length ≤ ma.q := by omega
  replace nx := Lib.hid nx
  replace nyt := Lib.hid nyt
  clear lmo
  obtain ⟨L, hL⟩ : ∃ L, ma.ys.length = L := ⟨_, rfl⟩
  rw [hL] at nyl
  have tl0 : (m.ys.length : Int) < L := by omega
  have tl1 : decide (L < m.ys.length) = false := by simp; omega
  have tl2 : decide (m.ys.length < L) = true := by simp; omega
  have tl3 : decide ((m.ys.length : Int) + 1 < L) = false := by simp; omega
  have tl4 : decide (m.ys.length + 1 < L) = false := by simp; omega
  have hly : m.ys.length ≤ ma.ys.length := by omega
  replace hly := Lib.hid hly
  replace nyl := Lib.hid hL
  clear hL
  have RA := Lib.hid (fun j hj => by rw [ea.out.c]; exact HR.out j hj : ∀ j : Nat, j < 16 → ma.c.getD j 0 = m.c.getD j 0)
  have RC := Lib.hid (fun j hj => by rw [ea.out.c]; exact HC.out j hj : ∀ j : Nat, j < 12 → ma.c.getD (17 + j) 0 = m.c.getD (17 + j) 0)
  have oa := Lib.hid oa'.out
  go_wp2_with (first | ((with_reducible refine wpList_alloc zeroMach ?_ ?_); rfl; intro b_v7 w' nn; simp only [Act.put, List.setIfInBounds_toArray, List.set_cons_succ, List.set_cons_zero]; refine Hid.out ?_))
  refine Lib.hid ?_
  have n_v2_v7 := Lib.hid (nn.ne _ v2.lt)
  have n_v3_v7 := Lib.hid (nn.ne _ v3.lt)
  have n_v5_v7 := Lib.hid (nn.ne _ v5.lt)
  have HL_v7 : Hid (W.heap.size ≤ b_v7) := Lib.hid (Blk.hi nn HD.out.size)
  have d' := nn.dn
  replace v2 := v2.dn d'
  replace v3 := v3.dn d'
  replace v5 := v5.dn d'
  replace omo := Lib.hid (omo.out.dn d')
  replace oa := Lib.hid (oa.out.dn d')
  replace HN := Lib.hid (HN.out.dn d')
  replace HD := Lib.hid (HD.out.trans d')
  have v7 := nn.blk
  clear d' nn
  go_wp2_with (first | ((with_reducible refine store33 ma l7 v7 zlen ?_ ?_ ?_ ?_); rfl; rfl; rfl; intro w' r' t'; refine Hid.out ?_))
  refine Lib.hid ?_
  replace omo := Lib.hid (omo.out.trn v7 (NoU8.mach _) t')
  replace oa := Lib.hid (oa.out.trn v7 (NoU8.mach _) t')
  replace HN := Lib.hid (HN.out.trn v7 (NoU8.mach _) t')
  replace v2 := v2.trn t' n_v2_v7.out
  replace v3 := v3.trn t' n_v3_v7.out
  replace v5 := v5.trn t' n_v5_v7.out
  replace HD := Lib.hid (HD.out.trn HL_v7.out t')
  clear t' v7
  have v7 := r'
  clear r'
  go_wp2_with fail
  have ck0 := v7.mem l7
  rw [nxl] at ck0
  have ck1 := v2.mem hl
  have ck2 := v7.time l7
  rw [nt] at ck2
  have ck3 := v2.time hl
  have ck4 := v7.out l7
  rw [nyl.out] at ck4
  have ck5 := v2.out hl
  have ck6 := HN.out.last
  have hn3 : (0 : Int) ≤ (m.ys.length : Int) := by omega
  have ck7 := v3.iop
  have QM := Lib.hid fun p q => Calls.regrown_of (same_yes ma.A m.A ma.k m.k m.xs.length m.xs.length ma.xs m.xs _ (oa.out.mem.dn (below_regrown w' p q)) ((hm.dn HD.out).mem.dn (below_regrown w' p q)) nxl.symm rfl nx.out (by omega))
  have QO := Lib.hid fun p q => Calls.regrown_of (same_yes ma.B m.B ma.q m.q m.ys.length m.ys.length (ma.ys.take m.ys.length) m.ys _ ((oa.out.out.take (A' := ma.B) (by have := hly.out; omega) rfl).dn (below_regrown w' p q)) ((hm.dn HD.out).out.dn (below_regrown w' p q)) (by rw [List.length_take]; have := hly.out; omega) rfl nyt.out (by rw [List.length_take]; omega))
  have HCP := Lib.hid hcap2
  have lck0 := fun d os => cell_regrown ck0 d os
  have lck1 := fun d os => cell_regrown ck1 d os
  have lck2 := fun d os => cell_regrown ck2 d os
  have lck3 := fun d os => cell_regrown ck3 d os
  have lck4 := fun d os => cell_regrown ck4 d os
  have lck5 := fun d os => cell_regrown ck5 d os
  have lck6 := fun d os => cell_regrown ck6 d os
  have lck7 := fun d os => cell_regrown ck7 d os
  refine wp_region_quiet_below (by kernel_rfl) (by kernel_rfl) ?_
  simp only [List.append]
  repeat (first | go_big_quiet_skip | (go_big_quiet_want; first | ((with_reducible refine qop_upto (l := m.ys.length) HCP.out ?_ ?_ ?_); rfl; rfl; simp only [Act.put, List.setIfInBounds_toArray, List.set_cons_succ, List.set_cons_zero]; go_big_quiet_on) | (go_big_quiet_op; first | go_big_quiet_on | go_big_quiet_call (first | (with_reducible exact QM.out _ _) | (with_reducible exact QO.out _ _)))))
  refine wpQuiet_nil ?_
  intro _ hw'
  obtain ⟨⟨dq, osq⟩, hw''⟩ := hw'
  subst hw''
  have d' := below_regrown w' dq osq
  clear QM QO HCP lck0 lck1 lck2 lck3 lck4 lck5 lck6 lck7 ck0 ck1 ck2 ck3 ck4 ck5 ck6 ck7
  replace v2 := v2.dn d'
  replace v3 := v3.dn d'
  replace v5 := v5.dn d'
  replace v7 := v7.dn d'
  replace omo := Lib.hid (omo.out.dn d')
  replace oa := Lib.hid (oa.out.dn d')
  replace HN := Lib.hid (HN.out.dn d')
  replace HD := Lib.hid (HD.out.trans d')
  clear d'
  generalize grow (redrawn w' dq) osq = w' at v2 v3 v5 v7 omo oa HN HD ⊢
  go_wp2_with fail
  go_loopw [8] (fun k w => FrRel 16 w' k w) (fun k _ => 16 - (intOf k).toNat)
  case atStart => exact ⟨0, by decide, rfl, Dn.refl _⟩
  case round =>
    obtain ⟨j, hj, rfl, dn⟩ := hrel
    replace v2 := v2.dn dn
    replace v3 := v3.dn dn
    replace v5 := v5.dn dn
    replace v7 := v7.dn dn
    replace omo := Lib.hid (omo.out.dn dn)
    replace oa := Lib.hid (oa.out.dn dn)
    replace HN := Lib.hid (HN.out.dn dn)
    have HW := Lib.hid (HD.out.trans dn)
    have DJ := Lib.hid dn
    clear HD dn
    by_cases hlt : j < 16
    · have hlt2 : (j : Int) < 16 := by omega
      have hz := RA.out j hlt
      have HD := Lib.hid (Dn.refl wr)
      have lo0 : (0 : Int) ≤ (j : Int) := by omega
      go_wp2_with fail
      have ck0 := v7.word l7 j (by simp; omega)
      have ck1 := v2.word hl j (by simp; omega)
      rw [hz] at ck0
      generalize m.c.getD j 0 = z at ck0 ck1
      have ck2 := v3.iop
      have ck3 := v3.ird
      have ck4 := v3.iimm
      have lck0 := fun d os => cell_regrown ck0 d os
      have lck1 := fun d os => cell_regrown ck1 d os
      have lck2 := fun d os => cell_regrown ck2 d os
      have lck3 := fun d os => cell_regrown ck3 d os
      have lck4 := fun d os => cell_regrown ck4 d os
      refine wp_region_quiet_below (by kernel_rfl) (by kernel_rfl) ?_
      repeat (first | go_big_quiet_skip | (go_big_quiet_want; (go_big_quiet_op; go_big_quiet_on)))
      refine wpQuiet_nil ?_
      intro _ hw'
      obtain ⟨⟨dq, osq⟩, hw''⟩ := hw'
      subst hw''
      have d' := below_regrown wr dq osq
      clear lck0 lck1 lck2 lck3 lck4 ck0 ck1 ck2 ck3 ck4
      replace v2 := v2.dn d'
      replace v3 := v3.dn d'
      replace v5 := v5.dn d'
      replace v7 := v7.dn d'
      replace omo := Lib.hid (omo.out.dn d')
      replace oa := Lib.hid (oa.out.dn d')
      replace HN := Lib.hid (HN.out.dn d')
      replace HD := Lib.hid (HD.out.trans d')
      clear d'
      generalize grow (redrawn wr dq) osq = w' at v2 v3 v5 v7 omo oa HN HD ⊢
      go_wp2_with fail
      exact ⟨⟨j + 1, by omega, by go_num, DJ.out.trans HD.out⟩, by simp [intOf]; omega⟩
    · have hlt2 : ¬ (j : Int) < 16 := by omega
      have HD := HW
      go_wp2_with fail
      go_loopw [9] (fun k w => FrRel 12 wr k w) (fun k _ => 12 - (intOf k).toNat)
      case atStart => exact ⟨0, by decide, rfl, Dn.refl _⟩
      case round =>
        obtain ⟨j, hj, rfl, dn⟩ := hrel
        replace v2 := v2.dn dn
        replace v3 := v3.dn dn
        replace v5 := v5.dn dn
        replace v7 := v7.dn dn
        replace omo := Lib.hid (omo.out.dn dn)
        replace oa := Lib.hid (oa.out.dn dn)
        replace HN := Lib.hid (HN.out.dn dn)
        have HW := Lib.hid (HD.out.trans dn)
        have DJ := Lib.hid dn
        clear HD dn
        by_cases hlt : j < 12
        · have hlt2 : (j : Int) < 12 := by omega
          have hz := RC.out j hlt
          have HD := Lib.hid (Dn.refl wr)
          have lo0 : (0 : Int) ≤ (j : Int) := by omega
          go_wp2_with fail
          have ck0 := v7.word l7 (17 + j) (by simp; omega)
          have ck1 := v2.word hl (17 + j) (by simp; omega)
          rw [hz] at ck0
          generalize m.c.getD (17 + j) 0 = z at ck0 ck1
          have ck2 := v3.iop
          have ck3 := v3.ird
          have ck4 := v3.iimm
          have lck0 := fun d os => cell_regrown ck0 d os
          have lck1 := fun d os => cell_regrown ck1 d os
          have lck2 := fun d os => cell_regrown ck2 d os
          have lck3 := fun d os => cell_regrown ck3 d os
          have lck4 := fun d os => cell_regrown ck4 d os
          refine wp_region_quiet_below (by kernel_rfl) (by kernel_rfl) ?_
          repeat (first | go_big_quiet_skip | (go_big_quiet_want; (go_big_quiet_op; go_big_quiet_on)))
          refine wpQuiet_nil ?_
          intro _ hw'
          obtain ⟨⟨dq, osq⟩, hw''⟩ := hw'
          subst hw''
          have d' := below_regrown wr dq osq
          clear lck0 lck1 lck2 lck3 lck4 ck0 ck1 ck2 ck3 ck4
          replace v2 := v2.dn d'
          replace v3 := v3.dn d'
          replace v5 := v5.dn d'
          replace v7 := v7.dn d'
          replace omo := Lib.hid (omo.out.dn d')
          replace oa := Lib.hid (oa.out.dn d')
          replace HN := Lib.hid (HN.out.dn d')
          replace HD := Lib.hid (HD.out.trans d')
          clear d'
          generalize grow (redrawn wr dq) osq = w' at v2 v3 v5 v7 omo oa HN HD ⊢
          go_wp2_with fail
          exact ⟨⟨j + 1, by omega, by go_num, DJ.out.trans HD.out⟩, by simp [intOf]; omega⟩
        · have hlt2 : ¬ (j : Int) < 12 := by omega
          have HD := HW
          cases hmh : m.h
          all_goals
            rw [hmh] at nh
            have ck0 := v7.halted l7
            rw [nh] at ck0
            have ck1 := v2.halted hl
            rw [hmh] at ck1
            have ck2 := v3.iop
            have ck3 := v7.word l7 16 rfl
            rw [na] at ck3
            have ck4 := v2.word hl 16 rfl
            rw [hpc] at ck4
            go_wp2_with fail
            go_ret
            exact ⟨rfl, HD.out⟩
end Go.Proofs.YthkhahfhbhgfhaaDoor
namespace Go.Proofs.YthkhahfhbhgfhaaDoor
open Go.ChangeShapes Go.WideShapes Go.ChangeAt Go.RowKit Go.Sort
set_option linter.unusedVariables false

set_option maxRecDepth 100000 in
set_option maxHeartbeats 2000000 in
theorem pf_few (m : Mc) (op rd ra rb imm : Int) (W : World) (hm : m.Ok W) (T : Cs.CsrTabs W) (i0 : -2147483648 ≤ imm) (i1 : imm < 2147483648) (hx : m.xs.length ≤ 9223372036854775807) (hy : m.ys.length ≤ 9223372036854775807) (hf : decide (m.xs.length ≤ 600 ∧ m.ys.length ≤ 600) = false) :
    Calls Tryd.prog 5 #[.agg (mach m), .agg (ins op rd ra rb imm)] W fun e W' => e = .returned (.bool true) ∧ Dn W W' := by
  have C0 := Lib.hid fun w => fun (t : Cs.CsrTabs w) => awakeP w t
  have CF := Lib.hid fun w => fun (ow : m.Ok w) => rfew m false w ow hx hy hf
  clear hf
  have HD := Lib.hid (Dn.refl W)
  go_enter Tryd.func5, Tryd.ntmps5
  go_wp2_with (first | ((with_reducible refine wpList_box (vs := (mach m)) ?_ ?_ ?_); rfl; rfl; intro b_v2 w' nn; refine Hid.out ?_))
  refine Lib.hid ?_
  have HL_v2 : Hid (W.heap.size ≤ b_v2) := Lib.hid (Blk.hi nn HD.out.size)
  have d' := nn.dn
  replace HD := Lib.hid (HD.out.trans d')
  have v2 := nn.blk
  clear d' nn
  go_wp2_with (first | ((with_reducible refine wpList_box (vs := (ins op rd ra rb imm)) ?_ ?_ ?_); rfl; rfl; intro b_v3 w' nn; refine Hid.out ?_))
  refine Lib.hid ?_
  have n_v2_v3 := Lib.hid (nn.ne _ v2.lt)
  have HL_v3 : Hid (W.heap.size ≤ b_v3) := Lib.hid (Blk.hi nn HD.out.size)
  have d' := nn.dn
  replace v2 := v2.dn d'
  replace HD := Lib.hid (HD.out.trans d')
  have v3 := nn.blk
  clear d' nn
  go_wp2_with (first | (go_at_call 15; (with_reducible refine (C0.out _ (T.dn HD.out)).mono ?_); rintro e w' ⟨rfl, d'⟩; refine Hid.out ?_))
  refine Lib.hid ?_
  replace v2 := v2.dn d'
  replace v3 := v3.dn d'
  replace HD := Lib.hid (HD.out.trans d')
  clear d'
  go_wp2_with (first | ((with_reducible refine load33 v2 hm.len ?_ ?_ ?_); rfl; rfl) | (go_at_call 10; (with_reducible refine (CF.out _ (hm.dn HD.out)).mono ?_); rintro e w' ⟨rfl, d'⟩; refine Hid.out ?_))
  refine Lib.hid ?_
  replace v2 := v2.dn d'
  replace v3 := v3.dn d'
  replace HD := Lib.hid (HD.out.trans d')
  clear d'
  go_wp2_with (first | (go_at_call 15; (with_reducible refine (C0.out _ (T.dn HD.out)).mono ?_); rintro e w' ⟨rfl, d'⟩; refine Hid.out ?_))
  refine Lib.hid ?_
  replace v2 := v2.dn d'
  replace v3 := v3.dn d'
  replace HD := Lib.hid (HD.out.trans d')
  clear d'
  go_wp2_with fail
  go_ret
  exact ⟨rfl, HD.out⟩
set_option maxRecDepth 100000 in
set_option maxHeartbeats 2000000 in
theorem pf_no (m : Mc) (op rd ra rb imm : Int) (W : World) (hm : m.Ok W) (T : Cs.CsrTabs W) (i0 : -2147483648 ≤ imm) (i1 : imm < 2147483648) (hx : m.xs.length ≤ 9223372036854775807) (hy : m.ys.length ≤ 9223372036854775807) (hf : decide (m.xs.length ≤ 600 ∧ m.ys.length ≤ 600) = true) (hpl : (Is.M.ok op rd ra rb imm && Is.M.priv op) = false) :
    Calls Tryd.prog 5 #[.agg (mach m), .agg (ins op rd ra rb imm)] W fun e W' => e = .returned (.bool true) ∧ Dn W W' := by
  have C0 := Lib.hid fun w => fun (t : Cs.CsrTabs w) => awakeP w t
  have CF := Lib.hid fun w => fun (ow : m.Ok w) => rfew m true w ow hx hy hf
  have CP := Lib.hid (rRight op rd ra rb imm false i0 i1 hpl)
  clear hf hpl
  have HD := Lib.hid (Dn.refl W)
  go_enter Tryd.func5, Tryd.ntmps5
  go_wp2_with (first | ((with_reducible refine wpList_box (vs := (mach m)) ?_ ?_ ?_); rfl; rfl; intro b_v2 w' nn; refine Hid.out ?_))
  refine Lib.hid ?_
  have HL_v2 : Hid (W.heap.size ≤ b_v2) := Lib.hid (Blk.hi nn HD.out.size)
  have d' := nn.dn
  replace HD := Lib.hid (HD.out.trans d')
  have v2 := nn.blk
  clear d' nn
  go_wp2_with (first | ((with_reducible refine wpList_box (vs := (ins op rd ra rb imm)) ?_ ?_ ?_); rfl; rfl; intro b_v3 w' nn; refine Hid.out ?_))
  refine Lib.hid ?_
  have n_v2_v3 := Lib.hid (nn.ne _ v2.lt)
  have HL_v3 : Hid (W.heap.size ≤ b_v3) := Lib.hid (Blk.hi nn HD.out.size)
  have d' := nn.dn
  replace v2 := v2.dn d'
  replace HD := Lib.hid (HD.out.trans d')
  have v3 := nn.blk
  clear d' nn
  go_wp2_with (first | (go_at_call 15; (with_reducible refine (C0.out _ (T.dn HD.out)).mono ?_); rintro e w' ⟨rfl, d'⟩; refine Hid.out ?_))
  refine Lib.hid ?_
  replace v2 := v2.dn d'
  replace v3 := v3.dn d'
  replace HD := Lib.hid (HD.out.trans d')
  clear d'
  go_wp2_with (first | ((with_reducible refine load33 v2 hm.len ?_ ?_ ?_); rfl; rfl) | (go_at_call 10; (with_reducible refine (CF.out _ (hm.dn HD.out)).mono ?_); rintro e w' ⟨rfl, d'⟩; refine Hid.out ?_))
  refine Lib.hid ?_
  replace v2 := v2.dn d'
  replace v3 := v3.dn d'
  replace HD := Lib.hid (HD.out.trans d')
  clear d'
  go_wp2_with (first | ((with_reducible refine loadI v3 ?_ ?_ ?_); rfl; rfl) | (go_at_call 18; (with_reducible refine (CP.out _).mono ?_); rintro e w' ⟨rfl, d'⟩; refine Hid.out ?_))
  refine Lib.hid ?_
  replace v2 := v2.dn d'
  replace v3 := v3.dn d'
  replace HD := Lib.hid (HD.out.trans d')
  clear d'
  go_wp2_with (first | (go_at_call 15; (with_reducible refine (C0.out _ (T.dn HD.out)).mono ?_); rintro e w' ⟨rfl, d'⟩; refine Hid.out ?_))
  refine Lib.hid ?_
  replace v2 := v2.dn d'
  replace v3 := v3.dn d'
  replace HD := Lib.hid (HD.out.trans d')
  clear d'
  go_wp2_with fail
  go_ret
  exact ⟨rfl, HD.out⟩
theorem M.setregLow (c : List Int) (r v : Int) (j : Nat) (h : (j : Int) ≠ r ∨ j = 0) : (M.setreg c r v).getD j 0 = c.getD j 0 := by
  unfold M.setreg
  split
  · rename_i hs
    have := (M.stored_iff r).1 hs
    rw [M.getD_set, if_neg (by omega)]
  · rfl
theorem M.setregHigh (c : List Int) (r v : Int) (j : Nat) (h : 16 ≤ j) : (M.setreg c r v).getD j 0 = c.getD j 0 := by
  unfold M.setreg
  split
  · rename_i hs
    have := (M.stored_iff r).1 hs
    rw [M.getD_set, if_neg (by omega)]
  · rfl
theorem M.advElse (c : List Int) (d : Int) (j : Nat) (h : j ≠ 16) : (M.adv c d).getD j 0 = c.getD j 0 := M.adv_reg c d h
theorem M.adv4 {c : List Int} (h : c.length = 29) (d : Int) : (M.adv c d).getD 16 0 = (c.getD 16 0 + d) % 4294967296 := M.pc_adv h d
theorem M.cswElse {c : List Int} (h : M.Core c) (n v : Int) (j : Nat) (hj : (j : Int) ≠ n) : (M.csw c n v).getD (17 + j) 0 = c.getD (17 + j) 0 := by
  rw [M.csw_high h]
  have e : (c.drop 17).getD j 0 = c.getD (17 + j) 0 := by rw [List.getD_eq_getElem?_getD, List.getElem?_drop, ← List.getD_eq_getElem?_getD]
  unfold Cs.M.wr
  split
  · rename_i hx
    have := (Cs.M.ex_iff n).1 hx
    rw [M.getD_set, if_neg (by omega), e]
  · exact e
theorem pfWalk (m : Mc) (op rd ra rb imm : Int) (W : World) (hm : m.Ok W) (T : Cs.CsrTabs W) (i0 : -2147483648 ≤ imm) (i1 : imm < 2147483648) (hx : m.xs.length ≤ 9223372036854775807) (hy : m.ys.length ≤ 9223372036854775807) : Calls Tryd.prog 5 #[.agg (mach m), .agg (ins op rd ra rb imm)] W fun e W' => e = .returned (.bool true) ∧ Dn W W' := by
  cases hf : decide (m.xs.length ≤ 600 ∧ m.ys.length ≤ 600)
  · exact pf_few m op rd ra rb imm W hm T i0 i1 hx hy hf
  cases hpl : (Is.M.ok op rd ra rb imm && Is.M.priv op)
  · exact pf_no m op rd ra rb imm W hm T i0 i1 hx hy hf hpl
  have hc := hm.core
  have hl := hm.len
  have hvp : Is.M.ok op rd ra rb imm = true ∧ Is.M.priv op = true := by simpa using hpl
  have hop := M.px_op hvp.1 hvp.2
  clear hvp
  have q4 : ∀ c : List Int, c.length = 29 → c.getD 16 0 = m.c.getD 16 0 → ((M.adv c 4).getD 16 0 == (m.c.getD 16 0 + 4) % 4294967296) = true := fun c h e => by rw [M.adv4 h, e, beq_iff_eq]
  rcases hop with rfl | rfl | rfl | rfl | rfl
  · have hv := M.csr_rd_rng hc (t := m.t) (n := imm) hm.t0 hm.t1
    exact pf_21 m rd ra rb imm W hm T i0 i1 hx hy hf hpl _ _ _ _ _ (M.px_csrr _ _ _ _ _ _ _) rfl rfl rfl rfl (List.take_length) (fun j hj h => (M.advElse _ _ j (by omega)).trans (M.setregLow _ _ _ j h)) (fun j hj => (M.advElse _ _ _ (by omega)).trans (M.setregHigh _ _ _ _ (by omega))) (q4 _ (hc.setreg rd hv).len (M.setregHigh _ _ _ _ (by omega)))
  · exact pf_22 m rd ra rb imm W hm T i0 i1 hx hy hf hpl _ _ _ _ _ (M.px_csrw _ _ _ _ _ _ _) rfl rfl rfl rfl (List.take_length) (fun j hj => (M.advElse _ _ j (by omega)).trans (M.csw_low hc _ _ j (by omega))) (fun j hj h => (M.advElse _ _ _ (by omega)).trans (M.cswElse hc _ _ j h)) (q4 _ (M.csw_len hc _ _) (M.csw_low hc _ _ 16 (by decide)))
  · exact pf_23 m rd ra rb imm W hm T i0 i1 hx hy hf hpl _ _ _ _ _ (M.px_eret _ _ _ _ _ _ _) rfl rfl rfl rfl (List.take_length) (fun j hj => (M.leave_at hc j).trans (by rw [if_neg (by omega), if_neg (by omega)])) (fun j hj h => (M.leave_at hc _).trans (by rw [if_neg (by omega), if_neg (by omega)])) ((M.leave_at hc 16).trans (if_pos rfl)).symm
  · exact pf_24 m rd ra rb imm W hm T i0 i1 hx hy hf hpl _ _ _ _ _ (M.px_halt _ _ _ _ _ _ _) rfl rfl rfl rfl (List.take_length) (fun j hj => M.advElse _ _ j (by omega)) (fun j hj => M.advElse _ _ _ (by omega)) (q4 _ hl rfl)
  · exact pf_25 m rd ra rb imm W hm T i0 i1 hx hy hf hpl _ _ _ _ _ (M.px_out _ _ _ _ _ _ _) rfl rfl rfl (by simp) (List.take_left' rfl) (fun j hj => M.advElse _ _ j (by omega)) (fun j hj => M.advElse _ _ _ (by omega)) (q4 _ hl rfl)
end Go.Proofs.YthkhahfhbhgfhaaDoor
namespace Go.Proofs.YthkhahfhbhgfhaaDoor.privilegedFrame
open Go.ChangeShapes Go.WideShapes Go.ChangeAt Go.RowKit
set_option linter.unusedVariables false

theorem readable : ∀ t ∈ Tryd.f5.params.toList, Tryd.prog.readableRec t = true ∧ t < Tryd.prog.types.size := by
  rw [Tryd.params5]
  intro t ht
  have hall : ([30, 32].all fun t => Tryd.prog.readableRec t && decide (t < Tryd.prog.types.size)) = true := by kernel_rfl
  have h := List.all_eq_true.1 hall t ht
  simp only [Bool.and_eq_true, decide_eq_true_eq] at h
  exact h

theorem said (H : Type) (ds : List (DataW H)) (hl : ds.length = Tryd.f5.params.size) : (Rows.privilegedFrameSpec.fn H ds).results = [.lit (.bool true)] ∧ (Rows.privilegedFrameSpec.fn H ds).args = ds ∧ (Rows.privilegedFrameSpec.fn H ds).vars = [] := by
  rw [Tryd.params5] at hl
  match ds, hl with
  | [d0, d1], _ => exact ⟨rfl, rfl, rfl⟩

set_option maxRecDepth 100000 in
theorem walk {H : Type} {enc : TypeId × Value → H} (W : World) (base : Nat) (args : Array Value) (ds : List (DataW H)) (ps : List MemPlace) (E : Env W)
    (hval : ∀ (j : Nat) t v, Tryd.f5.params[j]? = some t → args[j]? = some v → Value.okWide Tryd.prog W .any base t v)
    (hA : DataW.TrodAll enc Tryd.prog W 0 (fun _ => true) true Tryd.f5.params.toList args.toList ds ps) :
    Calls Tryd.prog 5 args W fun e W' => e = .returned (.bool true) ∧ Dn W W' := by
  rw [Tryd.params5] at hA hval
  obtain ⟨v0, vs0, d0, ds0, p0, q0, hargs, rfl, rfl, h0, r0⟩ := trodAll_cons hA
  obtain ⟨v1, vs1, d1, ds1, p1, q1, rfl, rfl, rfl, h1, r1⟩ := trodAll_cons r0
  obtain ⟨rfl, rfl, rfl⟩ := trodAll_nil r1
  obtain rfl : args = #[v0, v1] := by cases args; simp_all
  obtain ⟨m0, rfl, o0, l0, y0⟩ := open33 (hval 0 30 v0 rfl rfl) h0
  obtain ⟨op1, rd1, ra1, rb1, imm1, rfl, _, _, _, _, _, _, wi1⟩ := Cs.open_instr (hval 1 32 v1 rfl rfl) h1
  have bd1 := bounds_i32 wi1
  exact pfWalk m0 op1 rd1 ra1 rb1 imm1 W o0 E (by omega) (by omega) l0 y0 

set_option maxRecDepth 100000 in
theorem lifted (os : Os) (started : os.Started) (H : Type) (enc : TypeId × Value → H) :
    ReturnsInHanded {} Tryd.checked os 5 .any (fun w args => (Rows.privilegedFrameSpec.pre enc Tryd.prog Tryd.f5 [] false w args ∧ laidMetH Tryd.prog laidL w) ∧ sizedMet enc Tryd.prog Tryd.f5 (OpenSpec.ofChange Rows.privilegedFrameSpec) false w args)
      (Rows.privilegedFrameSpec.post enc Tryd.prog Tryd.f5 false true false false) :=
  returns_of_walk (C := Tryd.checked) rfl own started (by kernel_rfl) Tryd.func5 rfl readable (by kernel_rfl) said
    (ChangeSpec.witness_shaped (enc := enc) (C := Tryd.checked) (os := os) (X := fun w _ => laidMetH Tryd.prog laidL w) false (World.laidAll Tryd.prog os laidL) #[.agg #[.int .u32 0, .int .u32 0, .int .u32 0, .int .u32 0, .int .u32 0, .int .u32 0, .int .u32 0, .int .u32 0, .int .u32 0, .int .u32 0, .int .u32 0, .int .u32 0, .int .u32 0, .int .u32 0, .int .u32 0, .int .u32 0, .int .u32 0, .int .u32 0, .int .u32 0, .int .u32 0, .int .u32 0, .int .u32 0, .int .u32 0, .int .u32 0, .int .u32 0, .int .u32 0, .int .u32 0, .int .u32 0, .int .u32 0, .slice none 0 0, .int .u64 0, .slice none 0 0, .bool false], .agg #[.int .i64 0, .int .i64 0, .int .i64 0, .int .i64 0, .int .i32 0]] 8 (World.laidAll_os _ _ _)
      (start_shaped os _) (by kernel_rfl) (by kernel_rfl) (by kernel_rfl) (start_met os _)) walk

theorem over : Rows.PrivilegedFrameSaid :=
  OpenClaim.holds_of_wide 5 Tryd.f5 rfl rfl rfl rfl rfl rfl rfl ⟨rfl, rfl, rfl, rfl, rfl⟩ rfl rfl rfl rfl rfl (by kernel_rfl) Tryd.func5 (by kernel_rfl)
    (of_decide_eq_true (by kernel_rfl)) (by unfold Func.isWrapper; first | (rw [if_pos (by decide +kernel)]; kernel_rfl) | (rw [if_neg (by decide +kernel)]; exact ⟨rfl, rfl⟩))
    (fun os started H enc _ => lifted os started H enc)

/-- THE STATEMENT -/
theorem proved : Rows.PrivilegedFrameCardSaid :=
  Claim7.holds_tied_plain_at .later [] [.data] true (true, "d78811fdd0f342fbb2ba603c83f6eebd8ca321176a55a836c8fad2cf606a22cc") false
    over (fun _ h => by cases h) (by kernel_rfl) (fun _ h => by cases h) privilegedFrame_row_tie rfl ⟨rfl, rfl⟩ (by kernel_rfl) rfl
    (fun f fn hf hfn => by
      obtain rfl : f = 5 := Option.some.inj ((show Tryd.prog.funcNamed "gaoler/gaolerlaw12.PrivilegedFrame" = some 5 by kernel_rfl).symm.trans hf) |>.symm
      obtain rfl : fn = Tryd.f5 := (Option.some.inj (Tryd.func5.symm.trans hfn)).symm
      exact ⟨by kernel_rfl, fun j t ht => by
        rw [Tryd.params5] at ht
        have hm : t ∈ [30, 32] := by simpa using Array.mem_of_getElem? ht
        have hall : ([30, 32].all fun u => !Tryd.prog.wantsStandIn u) = true := by kernel_rfl
        exact (show Tryd.prog.wantsStandIn t = false by simpa using List.all_eq_true.1 hall t hm)⟩)
    (by kernel_rfl)
#print axioms proved
end Go.Proofs.YthkhahfhbhgfhaaDoor.privilegedFrame
