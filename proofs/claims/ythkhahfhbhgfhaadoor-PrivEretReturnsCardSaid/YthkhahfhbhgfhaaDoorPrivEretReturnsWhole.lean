/-
  The law PrivEretReturns of the law package returns true at every input, and each argument reads as it did; conditions: the listed package variables hold what the program's text lays there (the card ties them to it).
-/
import Derived.Test.YthkhahfhbhgfhaaDoorCards
import Derived.Test.YthkhahfhbhgfhaaDoorTie
import Derived.Test.YthkhahfhbhgfhaaDoorPkW
import Derived.Test.YthkhahfhbhgfhaaDoorPkG
namespace Go.Proofs.YthkhahfhbhgfhaaDoor
open Go.ChangeShapes Go.WideShapes Go.ChangeAt Go.RowKit Go.Sort
set_option linter.unusedVariables false

theorem M.rtn_low (s : Int) : M.rtn s % 4 = s / 4 % 4 ∧ M.rtn s / 4 = s / 4 := by
  obtain ⟨q, d3, d2, d1, d0, h3, h2, h1, h0, e, e1, e2, e3, e4, e5⟩ := M.bt_bits s
  unfold M.rtn
  rw [← e1, ← e2, ← e3]
  omega
set_option maxRecDepth 100000 in
set_option maxHeartbeats 2000000 in
theorem er_few (m : Mc) (W : World) (hm : m.Ok W) (T : Cs.CsrTabs W) (hx : m.xs.length ≤ 9223372036854775807) (hy : m.ys.length ≤ 9223372036854775807) (hf : decide (m.xs.length ≤ 600 ∧ m.ys.length ≤ 600) = false) :
    Calls Tryd.prog 7 #[.agg (mach m)] W fun e W' => e = .returned (.bool true) ∧ Dn W W' := by
  have C0 := Lib.hid fun w => fun (t : Cs.CsrTabs w) => awakeP w t
  have CF := Lib.hid fun w => fun (ow : m.Ok w) => rfew m false w ow hx hy hf
  clear hf
  have HD := Lib.hid (Dn.refl W)
  go_enter Tryd.func7, Tryd.ntmps7
  go_wp2_with (first | ((with_reducible refine wpList_box (vs := (mach m)) ?_ ?_ ?_); rfl; rfl; intro b_v1 w' nn; refine Hid.out ?_))
  refine Lib.hid ?_
  have HL_v1 : Hid (W.heap.size ≤ b_v1) := Lib.hid (Blk.hi nn HD.out.size)
  have d' := nn.dn
  replace HD := Lib.hid (HD.out.trans d')
  have v1 := nn.blk
  clear d' nn
  go_wp2_with (first | (go_at_call 15; (with_reducible refine (C0.out _ (T.dn HD.out)).mono ?_); rintro e w' ⟨rfl, d'⟩; refine Hid.out ?_))
  refine Lib.hid ?_
  replace v1 := v1.dn d'
  replace HD := Lib.hid (HD.out.trans d')
  clear d'
  go_wp2_with (first | ((with_reducible refine load33 v1 hm.len ?_ ?_ ?_); rfl; rfl) | (go_at_call 10; (with_reducible refine (CF.out _ (hm.dn HD.out)).mono ?_); rintro e w' ⟨rfl, d'⟩; refine Hid.out ?_))
  refine Lib.hid ?_
  replace v1 := v1.dn d'
  replace HD := Lib.hid (HD.out.trans d')
  clear d'
  go_wp2_with (first | (go_at_call 15; (with_reducible refine (C0.out _ (T.dn HD.out)).mono ?_); rintro e w' ⟨rfl, d'⟩; refine Hid.out ?_))
  refine Lib.hid ?_
  replace v1 := v1.dn d'
  replace HD := Lib.hid (HD.out.trans d')
  clear d'
  go_wp2_with fail
  go_ret
  exact ⟨rfl, HD.out⟩
set_option maxRecDepth 100000 in
set_option maxHeartbeats 2000000 in
theorem er_main (m : Mc) (W : World) (hm : m.Ok W) (T : Cs.CsrTabs W) (hx : m.xs.length ≤ 9223372036854775807) (hy : m.ys.length ≤ 9223372036854775807) (hf : decide (m.xs.length ≤ 600 ∧ m.ys.length ≤ 600) = true) (c1 : List Int) (p q s u : Int) (h1 : M.px m.c m.ys m.h m.t 23 0 0 0 = ⟨c1, m.ys, m.h⟩) (k1 : M.Core c1) (hp : m.c.getD 16 0 = p) (hq : m.c.getD 18 0 = q) (hs_ : m.c.getD 17 0 = s) (he1 : c1.getD 16 0 = q) (hu : c1.getD 17 0 = u) (hb : (c1.set 17 s).set 16 p = m.c) (s0 : 0 ≤ s) (s1 : s < 4294967296) (u0 : 0 ≤ u) (u1 : u < 4294967296) (b1 : (u % 4 == s / 4 % 4) = true) (b2 : (u / 4 == s / 4) = true) :
    Calls Tryd.prog 7 #[.agg (mach m)] W fun e W' => e = .returned (.bool true) ∧ Dn W W' := by
  have hl := hm.len
  have hc := hm.core
  have hs : m.xs.length ≤ 600 := by simp only [decide_eq_true_eq] at hf; omega
  have hn : m.ys.length ≤ 600 := by simp only [decide_eq_true_eq] at hf; omega
  have C0 := Lib.hid fun w => fun (t : Cs.CsrTabs w) => awakeP w t
  have CF := Lib.hid fun w => fun (ow : m.Ok w) => rfew m true w ow hx hy hf
  have C1 := Lib.hid fun w => fun (ow : m.Ok w) (t : Cs.CsrTabs w) => xRunP m 23 0 0 0 0 _ _ _ _ rfl rfl rfl rfl ⟨c1, m.ys, m.h⟩ h1 (by omega) (by decide) (by decide) (by decide) w ow t
  have C4 := Lib.hid fun (w : World) (mb ma : Mc) (n : Nat) (ow : m.Ok w) (oa : ma.Ok w) (f : Pd m ⟨c1, m.ys, m.h⟩ n ma) (e : mb = { ma with c := m.c }) => rsame mb m w (by rw [e]; exact ⟨hc, oa.mem, oa.out, oa.t0, oa.t1⟩) ow (by rw [e]; show ma.xs.length ≤ _; rw [f.xs]; omega) (by rw [e]; show ma.ys.length ≤ _; rw [f.ys]; show m.ys.length ≤ _; omega) (by rw [e]) (by rw [e]; exact f.xs) (by rw [e]; exact f.t) (by rw [e]; exact f.ys) (by rw [e]; exact f.h)
  have HU := Lib.hid hu
  have HE1 := Lib.hid he1
  have HB := Lib.hid hb
  have LC1 := Lib.hid k1.len
  clear hf h1 hu he1 hb k1
  have HD := Lib.hid (Dn.refl W)
  go_enter Tryd.func7, Tryd.ntmps7
  go_wp2_with (first | ((with_reducible refine wpList_box (vs := (mach m)) ?_ ?_ ?_); rfl; rfl; intro b_v1 w' nn; refine Hid.out ?_))
  refine Lib.hid ?_
  have HL_v1 : Hid (W.heap.size ≤ b_v1) := Lib.hid (Blk.hi nn HD.out.size)
  have d' := nn.dn
  replace HD := Lib.hid (HD.out.trans d')
  have v1 := nn.blk
  clear d' nn
  go_wp2_with (first | (go_at_call 15; (with_reducible refine (C0.out _ (T.dn HD.out)).mono ?_); rintro e w' ⟨rfl, d'⟩; refine Hid.out ?_))
  refine Lib.hid ?_
  replace v1 := v1.dn d'
  replace HD := Lib.hid (HD.out.trans d')
  clear d'
  go_wp2_with (first | ((with_reducible refine load33 v1 hm.len ?_ ?_ ?_); rfl; rfl) | (go_at_call 10; (with_reducible refine (CF.out _ (hm.dn HD.out)).mono ?_); rintro e w' ⟨rfl, d'⟩; refine Hid.out ?_))
  refine Lib.hid ?_
  replace v1 := v1.dn d'
  replace HD := Lib.hid (HD.out.trans d')
  clear d'
  go_wp2_with (first | ((with_reducible refine load33 v1 hm.len ?_ ?_ ?_); rfl; rfl) | (go_at_call 19; (with_reducible refine (C1.out _ (hm.dn HD.out) (T.dn HD.out)).mono ?_); rintro e w' ⟨ma, rfl, oa', ea, d'⟩; refine Hid.out ?_))
  refine Lib.hid ?_
  replace v1 := v1.dn d'
  replace HD := Lib.hid (HD.out.trans d')
  clear d'
  have lma := oa'.out.len
  have na : ma.c.getD 16 0 = q := by rw [ea.out.c]; exact HE1.out
  have nu : ma.c.getD 17 0 = u := by rw [ea.out.c]; exact HU.out
  have oa := Lib.hid oa'.out
  go_wp2_with (first | ((with_reducible refine wpList_alloc zeroMach ?_ ?_); rfl; intro b_v3 w' nn; refine Hid.out ?_))
  refine Lib.hid ?_
  have n_v1_v3 := Lib.hid (nn.ne _ v1.lt)
  have HL_v3 : Hid (W.heap.size ≤ b_v3) := Lib.hid (Blk.hi nn HD.out.size)
  have d' := nn.dn
  replace v1 := v1.dn d'
  replace oa := Lib.hid (oa.out.dn d')
  replace HD := Lib.hid (HD.out.trans d')
  have v3 := nn.blk
  clear d' nn
  go_wp2_with (first | ((with_reducible refine store33 ma lma v3 zlen ?_ ?_ ?_ ?_); rfl; rfl; rfl; intro w' r' t'; refine Hid.out ?_))
  refine Lib.hid ?_
  replace oa := Lib.hid (oa.out.trn v3 (NoU8.mach _) t')
  replace v1 := v1.trn t' n_v1_v3.out
  replace HD := Lib.hid (HD.out.trn HL_v3.out t')
  clear t' v3
  have v3 := r'
  clear r'
  have ck0 := v1.word hm.len 17 rfl
  rw [hs_] at ck0
  go_wp2_with (first | ((with_reducible refine load33 v3 lma ?_ ?_ ?_); rfl; rfl) | ((with_reducible refine wpList_alloc zeroMach ?_ ?_); rfl; intro b_v5 w' nn; refine Hid.out ?_))
  refine Lib.hid ?_
  clear ck0
  have n_v1_v5 := Lib.hid (nn.ne _ v1.lt)
  have n_v3_v5 := Lib.hid (nn.ne _ v3.lt)
  have HL_v5 : Hid (W.heap.size ≤ b_v5) := Lib.hid (Blk.hi nn HD.out.size)
  have d' := nn.dn
  replace v1 := v1.dn d'
  replace v3 := v3.dn d'
  replace oa := Lib.hid (oa.out.dn d')
  replace HD := Lib.hid (HD.out.trans d')
  have v5 := nn.blk
  clear d' nn
  go_wp2_with (first | ((with_reducible refine store33 ma lma v5 zlen ?_ ?_ ?_ ?_); rfl; rfl; rfl; intro w' r' t'; refine Hid.out ?_))
  refine Lib.hid ?_
  replace oa := Lib.hid (oa.out.trn v5 (NoU8.mach _) t')
  replace v1 := v1.trn t' n_v1_v5.out
  replace v3 := v3.trn t' n_v3_v5.out
  replace HD := Lib.hid (HD.out.trn HL_v5.out t')
  clear t' v5
  have v5 := r'
  clear r'
  go_wp2_with (first | ((with_reducible refine storeWord (i := 17) (u := s) v5 lma ?_ ?_ ?_ ?_ ?_); rfl; rfl; rfl; rfl; intro w' r' t'; refine Hid.out ?_))
  refine Lib.hid ?_
  replace oa := Lib.hid (oa.out.trn v5 (NoU8.mach _) t')
  replace v1 := v1.trn t' n_v1_v5.out
  replace v3 := v3.trn t' n_v3_v5.out
  obtain ⟨mb, hmb⟩ : ∃ mb : Mc, mb = { ma with c := ma.c.set 17 s } := ⟨_, rfl⟩
  have lmb : mb.c.length = 29 := by rw [hmb]; show (ma.c.set 17 s).length = 29; rw [List.length_set]; exact lma
  rw [← hmb] at r'
  replace hmb := Lib.hid hmb
  replace HD := Lib.hid (HD.out.trn HL_v5.out t')
  clear t' v5
  have v5 := r'
  clear r'
  have ck0 := v1.word hm.len 16 rfl
  rw [hp] at ck0
  go_wp2_with (first | ((with_reducible refine storeWord (i := 16) (u := p) v5 lmb ?_ ?_ ?_ ?_ ?_); rfl; rfl; rfl; rfl; intro w' r' t'; refine Hid.out ?_))
  refine Lib.hid ?_
  clear ck0
  replace oa := Lib.hid (oa.out.trn v5 (NoU8.mach _) t')
  replace v1 := v1.trn t' n_v1_v5.out
  replace v3 := v3.trn t' n_v3_v5.out
  obtain ⟨mc, hmc⟩ : ∃ mc : Mc, mc = { mb with c := mb.c.set 16 p } := ⟨_, rfl⟩
  have lmc : mc.c.length = 29 := by rw [hmc]; show (mb.c.set 16 p).length = 29; rw [List.length_set]; exact lmb
  rw [← hmc] at r'
  have hmd : Hid (mc = { ma with c := m.c }) := Lib.hid (by rw [hmc, hmb.out]; show ({ ma with c := (ma.c.set 17 s).set 16 p } : Mc) = { ma with c := m.c }; rw [show ma.c = c1 from ea.out.c, HB.out])
  replace hmc := Lib.hid hmc
  replace HD := Lib.hid (HD.out.trn HL_v5.out t')
  clear t' v5
  have v5 := r'
  clear r'
  have ck0 := v3.word lma 16 rfl
  rw [na] at ck0
  have ck1 := v1.word hm.len 18 rfl
  rw [hq] at ck1
  have ck2 := v3.word lma 17 rfl
  rw [nu] at ck2
  go_wp2_with (first | ((with_reducible refine load33 v5 lmc ?_ ?_ ?_); rfl; rfl) | ((with_reducible refine load33 v1 hm.len ?_ ?_ ?_); rfl; rfl) | (go_at_call 13; (with_reducible refine (C4.out _ mc ma _ (hm.dn HD.out) oa.out ea.out hmd.out).mono ?_); rintro e w' ⟨rfl, d'⟩; refine Hid.out ?_))
  refine Lib.hid ?_
  clear ck0 ck1 ck2
  replace v1 := v1.dn d'
  replace v3 := v3.dn d'
  replace v5 := v5.dn d'
  replace oa := Lib.hid (oa.out.dn d')
  replace HD := Lib.hid (HD.out.trans d')
  clear d'
  go_wp2_with fail
  go_ret
  exact ⟨rfl, HD.out⟩
theorem erWalk (m : Mc) (W : World) (hm : m.Ok W) (T : Cs.CsrTabs W) (hx : m.xs.length ≤ 9223372036854775807) (hy : m.ys.length ≤ 9223372036854775807) : Calls Tryd.prog 7 #[.agg (mach m)] W fun e W' => e = .returned (.bool true) ∧ Dn W W' := by
  cases hf : decide (m.xs.length ≤ 600 ∧ m.ys.length ≤ 600)
  · exact er_few m W hm T hx hy hf
  · have hc := hm.core
    have hl := hm.len
    have s0 := hc.rng 17
    have u0 := M.rtn_rng _ s0.1 s0.2
    have lv := fun j => M.leave_at hc j
    refine er_main m W hm T hx hy hf _ _ _ _ _ (M.px_eret _ _ _ _ _ _ _) hc.leave rfl rfl rfl ((lv 16).trans (if_pos rfl)) ((lv 17).trans (by rw [if_neg (by decide), if_pos rfl]; rfl)) ?_ s0.1 s0.2 u0.1 u0.2 ?_ ?_
    · apply List.ext_getElem?
      intro j
      have hll := hc.leave.len
      by_cases hj : j < 29
      · have e := lv j
        rw [List.getD_eq_getElem?_getD, List.getD_eq_getElem?_getD, List.getElem?_eq_getElem (by omega), List.getElem?_eq_getElem (by omega)] at e
        rw [List.getElem?_set, List.getElem?_set, List.length_set, hll]
        by_cases h16 : 16 = j
        · subst h16
          rw [if_pos rfl, if_pos (by decide), List.getElem?_eq_getElem (by omega), List.getD_eq_getElem?_getD, List.getElem?_eq_getElem (by omega)]; rfl
        · rw [if_neg h16]
          by_cases h17 : 17 = j
          · subst h17
            rw [if_pos rfl, if_pos (by decide), List.getElem?_eq_getElem (by omega), List.getD_eq_getElem?_getD, List.getElem?_eq_getElem (by omega)]; rfl
          · rw [if_neg h17, List.getElem?_eq_getElem (by omega), List.getElem?_eq_getElem (by omega)]
            rw [if_neg (by omega), if_neg (by omega)] at e
            exact congrArg some e
      · rw [List.getElem?_eq_none (by rw [List.length_set, List.length_set]; omega), List.getElem?_eq_none (by omega)]
    · rw [beq_iff_eq]; exact (M.rtn_low _).1
    · rw [beq_iff_eq]; exact (M.rtn_low _).2
end Go.Proofs.YthkhahfhbhgfhaaDoor
namespace Go.Proofs.YthkhahfhbhgfhaaDoor.privEretReturns
open Go.ChangeShapes Go.WideShapes Go.ChangeAt Go.RowKit
set_option linter.unusedVariables false

theorem readable : ∀ t ∈ Tryd.f7.params.toList, Tryd.prog.readableRec t = true ∧ t < Tryd.prog.types.size := by
  rw [Tryd.params7]
  intro t ht
  have hall : ([30].all fun t => Tryd.prog.readableRec t && decide (t < Tryd.prog.types.size)) = true := by kernel_rfl
  have h := List.all_eq_true.1 hall t ht
  simp only [Bool.and_eq_true, decide_eq_true_eq] at h
  exact h

theorem said (H : Type) (ds : List (DataW H)) (hl : ds.length = Tryd.f7.params.size) : (Rows.privEretReturnsSpec.fn H ds).results = [.lit (.bool true)] ∧ (Rows.privEretReturnsSpec.fn H ds).args = ds ∧ (Rows.privEretReturnsSpec.fn H ds).vars = [] := by
  rw [Tryd.params7] at hl
  match ds, hl with
  | [d0], _ => exact ⟨rfl, rfl, rfl⟩

set_option maxRecDepth 100000 in
theorem walk {H : Type} {enc : TypeId × Value → H} (W : World) (base : Nat) (args : Array Value) (ds : List (DataW H)) (ps : List MemPlace) (E : Env W)
    (hval : ∀ (j : Nat) t v, Tryd.f7.params[j]? = some t → args[j]? = some v → Value.okWide Tryd.prog W .any base t v)
    (hA : DataW.TrodAll enc Tryd.prog W 0 (fun _ => true) true Tryd.f7.params.toList args.toList ds ps) :
    Calls Tryd.prog 7 args W fun e W' => e = .returned (.bool true) ∧ Dn W W' := by
  rw [Tryd.params7] at hA hval
  obtain ⟨v0, vs0, d0, ds0, p0, q0, hargs, rfl, rfl, h0, r0⟩ := trodAll_cons hA
  obtain ⟨rfl, rfl, rfl⟩ := trodAll_nil r0
  obtain rfl : args = #[v0] := by cases args; simp_all
  obtain ⟨m0, rfl, o0, l0, y0⟩ := open33 (hval 0 30 v0 rfl rfl) h0
  exact erWalk m0 W o0 E  l0 y0 

set_option maxRecDepth 100000 in
theorem lifted (os : Os) (started : os.Started) (H : Type) (enc : TypeId × Value → H) :
    ReturnsInHanded {} Tryd.checked os 7 .any (fun w args => (Rows.privEretReturnsSpec.pre enc Tryd.prog Tryd.f7 [] false w args ∧ laidMetH Tryd.prog laidL w) ∧ sizedMet enc Tryd.prog Tryd.f7 (OpenSpec.ofChange Rows.privEretReturnsSpec) false w args)
      (Rows.privEretReturnsSpec.post enc Tryd.prog Tryd.f7 false true false false) :=
  returns_of_walk (C := Tryd.checked) rfl own started (by kernel_rfl) Tryd.func7 rfl readable (by kernel_rfl) said
    (ChangeSpec.witness_shaped (enc := enc) (C := Tryd.checked) (os := os) (X := fun w _ => laidMetH Tryd.prog laidL w) false (World.laidAll Tryd.prog os laidL) #[.agg #[.int .u32 0, .int .u32 0, .int .u32 0, .int .u32 0, .int .u32 0, .int .u32 0, .int .u32 0, .int .u32 0, .int .u32 0, .int .u32 0, .int .u32 0, .int .u32 0, .int .u32 0, .int .u32 0, .int .u32 0, .int .u32 0, .int .u32 0, .int .u32 0, .int .u32 0, .int .u32 0, .int .u32 0, .int .u32 0, .int .u32 0, .int .u32 0, .int .u32 0, .int .u32 0, .int .u32 0, .int .u32 0, .int .u32 0, .slice none 0 0, .int .u64 0, .slice none 0 0, .bool false]] 8 (World.laidAll_os _ _ _)
      (start_shaped os _) (by kernel_rfl) (by kernel_rfl) (by kernel_rfl) (start_met os _)) walk

theorem over : Rows.PrivEretReturnsSaid :=
  OpenClaim.holds_of_wide 7 Tryd.f7 rfl rfl rfl rfl rfl rfl rfl ⟨rfl, rfl, rfl, rfl, rfl⟩ rfl rfl rfl rfl rfl (by kernel_rfl) Tryd.func7 (by kernel_rfl)
    (of_decide_eq_true (by kernel_rfl)) (by unfold Func.isWrapper; first | (rw [if_pos (by decide +kernel)]; kernel_rfl) | (rw [if_neg (by decide +kernel)]; exact ⟨rfl, rfl⟩))
    (fun os started H enc _ => lifted os started H enc)

/-- THE STATEMENT -/
theorem proved : Rows.PrivEretReturnsCardSaid :=
  Claim7.holds_tied_plain_at .later [] [.data] true (true, "d78811fdd0f342fbb2ba603c83f6eebd8ca321176a55a836c8fad2cf606a22cc") false
    over (fun _ h => by cases h) (by kernel_rfl) (fun _ h => by cases h) privEretReturns_row_tie rfl ⟨rfl, rfl⟩ (by kernel_rfl) rfl
    (fun f fn hf hfn => by
      obtain rfl : f = 7 := Option.some.inj ((show Tryd.prog.funcNamed "gaoler/gaolerlaw12.PrivEretReturns" = some 7 by kernel_rfl).symm.trans hf) |>.symm
      obtain rfl : fn = Tryd.f7 := (Option.some.inj (Tryd.func7.symm.trans hfn)).symm
      exact ⟨by kernel_rfl, fun j t ht => by
        rw [Tryd.params7] at ht
        have hm : t ∈ [30] := by simpa using Array.mem_of_getElem? ht
        have hall : ([30].all fun u => !Tryd.prog.wantsStandIn u) = true := by kernel_rfl
        exact (show Tryd.prog.wantsStandIn t = false by simpa using List.all_eq_true.1 hall t hm)⟩)
    (by kernel_rfl)
#print axioms proved
end Go.Proofs.YthkhahfhbhgfhaaDoor.privEretReturns
