/-
  The law RunsDoNotModify of the law package returns true at every input, and each argument reads as it did; conditions: the listed package variables hold what the program's text lays there (the card ties them to it).
-/
import Derived.Test.YtclpdjpaaagkdaaGreatDoorCards
import Derived.Test.YtclpdjpaaagkdaaGreatDoorTie
import Derived.Test.YtclpdjpaaagkdaaGreatDoorPmJ
import Derived.Test.YtclpdjpaaagkdaaGreatDoorPmB
import Derived.Test.YtclpdjpaaagkdaaGreatDoorPmW
import Derived.Test.YtclpdjpaaagkdaaGreatDoorPmG
namespace Go.Proofs.YtclpdjpaaagkdaaGreatDoor
open Go.ChangeShapes Go.WideShapes Go.ChangeAt Go.RowKit Go.Sort
set_option linter.unusedVariables false

set_option maxRecDepth 100000 in
set_option maxHeartbeats 2000000 in
theorem rdm_few (m : Mc) (W : World) (hm : m.Ok W) (T : Env2 W) (hx : m.xs.length ≤ 9223372036854775807) (hy : m.ys.length ≤ 9223372036854775807) (n : Int) (n0 : 0 ≤ n) (n1 : n < 256) (hf : decide (m.xs.length ≤ 600 ∧ m.ys.length ≤ 600) = false) :
   Calls Tryz.prog 7 #[.agg (mach m), .int .u8 n] W fun e W' => e = .returned (.bool true) ∧ Dn W W' := by
 have C0 := Lib.hid fun w => fun (t : Env2 w) => awakeR w t
 have CF := Lib.hid fun w => fun (ow : m.Ok w) => rfew m false w ow hx hy hf
 clear hf
 have HD := Lib.hid (Dn.refl W)
 go_enter Tryz.func7, Tryz.ntmps7
 go_wp2_with (first | ((with_reducible refine wpList_box (vs := (mach m)) ?_ ?_ ?_); rfl; rfl; intro b_v2 w' nn; refine Hid.out ?_))
 refine Lib.hid ?_
 have d' := nn.dn
 replace HD := hT HD d'
 have v2 := nn.blk
 clear d' nn
 go_wp2_with (first | (go_at_call 8; (with_reducible refine (C0.out _ (T.dn HD.out)).mono ?_); rintro e w' ⟨rfl, d'⟩; refine Hid.out ?_))
 refine Lib.hid ?_
 replace v2 := v2.dn d'
 replace HD := hT HD d'
 clear d'
 go_wp2_with (first | ((with_reducible refine load33 v2 hm.len ?_ ?_ ?_); rfl; rfl) | (go_at_call 9; (with_reducible refine (CF.out _ (hm.dn HD.out)).mono ?_); rintro e w' ⟨rfl, d'⟩; refine Hid.out ?_))
 refine Lib.hid ?_
 replace v2 := v2.dn d'
 replace HD := hT HD d'
 clear d'
 go_wp2_with (first | (go_at_call 8; (with_reducible refine (C0.out _ (T.dn HD.out)).mono ?_); rintro e w' ⟨rfl, d'⟩; refine Hid.out ?_))
 refine Lib.hid ?_
 replace v2 := v2.dn d'
 replace HD := hT HD d'
 clear d'
 go_wp2_with fail
 go_ret
 exact ⟨rfl, HD.out⟩
set_option maxRecDepth 100000 in
set_option maxHeartbeats 2000000 in
theorem rdm_big0 (m : Mc) (W : World) (hm : m.Ok W) (T : Env2 W) (hx : m.xs.length ≤ 9223372036854775807) (hy : m.ys.length ≤ 9223372036854775807) (n : Int) (n0 : 0 ≤ n) (n1 : n < 256) (hf : decide (m.xs.length ≤ 600 ∧ m.ys.length ≤ 600) = true) (b : 20 < n) :
   Calls Tryz.prog 7 #[.agg (mach m), .int .u8 n] W fun e W' => e = .returned (.bool true) ∧ Dn W W' := by
 have C0 := Lib.hid fun w => fun (t : Env2 w) => awakeR w t
 have CF := Lib.hid fun w => fun (ow : m.Ok w) => rfew m true w ow hx hy hf
 clear hf
 have HD := Lib.hid (Dn.refl W)
 go_enter Tryz.func7, Tryz.ntmps7
 go_wp2_with (first | ((with_reducible refine wpList_box (vs := (mach m)) ?_ ?_ ?_); rfl; rfl; intro b_v2 w' nn; refine Hid.out ?_))
 refine Lib.hid ?_
 have d' := nn.dn
 replace HD := hT HD d'
 have v2 := nn.blk
 clear d' nn
 go_wp2_with (first | (go_at_call 8; (with_reducible refine (C0.out _ (T.dn HD.out)).mono ?_); rintro e w' ⟨rfl, d'⟩; refine Hid.out ?_))
 refine Lib.hid ?_
 replace v2 := v2.dn d'
 replace HD := hT HD d'
 clear d'
 go_wp2_with (first | ((with_reducible refine load33 v2 hm.len ?_ ?_ ?_); rfl; rfl) | (go_at_call 9; (with_reducible refine (CF.out _ (hm.dn HD.out)).mono ?_); rintro e w' ⟨rfl, d'⟩; refine Hid.out ?_))
 refine Lib.hid ?_
 replace v2 := v2.dn d'
 replace HD := hT HD d'
 clear d'
 go_wp2_with (first | (go_at_call 8; (with_reducible refine (C0.out _ (T.dn HD.out)).mono ?_); rintro e w' ⟨rfl, d'⟩; refine Hid.out ?_))
 refine Lib.hid ?_
 replace v2 := v2.dn d'
 replace HD := hT HD d'
 clear d'
 go_wp2_with fail
 go_ret
 exact ⟨rfl, HD.out⟩
set_option maxRecDepth 100000 in
set_option maxHeartbeats 2000000 in
theorem rdm_main (m : Mc) (W : World) (hm : m.Ok W) (T : Env2 W) (hx : m.xs.length ≤ 9223372036854775807) (hy : m.ys.length ≤ 9223372036854775807) (n : Int) (n0 : 0 ≤ n) (n1 : n < 256) (hf : decide (m.xs.length ≤ 600 ∧ m.ys.length ≤ 600) = true) (n20 : n ≤ 20) :
   Calls Tryz.prog 7 #[.agg (mach m), .int .u8 n] W fun e W' => e = .returned (.bool true) ∧ Dn W W' := by
 have hl := hm.len
 have hs : m.xs.length ≤ 600 := by simp only [decide_eq_true_eq] at hf; omega
 have hn : m.ys.length ≤ 600 := by simp only [decide_eq_true_eq] at hf; omega
 have hc := hm.core
 obtain ⟨s, e_s⟩ : ∃ s, M.st0 m = s := ⟨_, rfl⟩
 have fs : Sd s m := e_s ▸ Sd.self m
 have zs : s.z.length = m.xs.length := congrArg List.length fs.xs.symm
 have ysl : s.ys.length = m.ys.length := congrArg List.length fs.ys.symm
 obtain ⟨N, e_N⟩ : ∃ N, M.cntn n.toNat s = N := ⟨_, rfl⟩
 obtain ⟨r, e_r⟩ : ∃ r, M.gon n.toNat s = r := ⟨_, rfl⟩
 obtain ⟨K, e_K⟩ : ∃ K, (M.unt 4 n.toNat s).2.1 = K := ⟨_, rfl⟩
 obtain ⟨b, e_b⟩ : ∃ b, (M.unt 4 n.toNat s).2.2 = b := ⟨_, rfl⟩
 obtain ⟨q, e_q⟩ : ∃ q, (M.unt 4 n.toNat s).1 = q := ⟨_, rfl⟩
 obtain ⟨l, e_l⟩ : ∃ l, M.trn n.toNat s = l := ⟨_, rfl⟩
 have SO := Lib.hid fun (mo : Mc) (e : mo.c = m.c ∧ mo.xs = m.xs ∧ mo.ys = m.ys ∧ mo.h = m.h ∧ mo.t = m.t) => (show M.st0 mo = s by rw [← e_s]; unfold M.st0; rw [e.1, e.2.1, e.2.2.1, e.2.2.2.1, e.2.2.2.2])
 have C0 := Lib.hid fun w => fun (t : Env2 w) => awakeR w t
 have CF := Lib.hid fun w => fun (ow : m.Ok w) => rfew m true w ow hx hy hf
 clear hf
 have C1 := Lib.hid fun (w : World) (mo : Mc) (e : mo.c = m.c ∧ mo.xs = m.xs ∧ mo.ys = m.ys ∧ mo.h = m.h ∧ mo.t = m.t) (ow : mo.Ok w) (t : Env2 w) => rnRunL mo n s (SO.out mo e) N e_N r e_r w ow (by rw [e.2.1]; omega) (by rw [e.2.2.1]; omega) (by omega) (by omega) t
 have C2 := Lib.hid fun (w : World) (mo : Mc) (e : mo.c = m.c ∧ mo.xs = m.xs ∧ mo.ys = m.ys ∧ mo.h = m.h ∧ mo.t = m.t) (ow : mo.Ok w) (t : Env2 w) => rnUntilL mo n 4 s (SO.out mo e) K e_K b e_b q e_q w ow (by rw [e.2.1]; omega) (by rw [e.2.2.1]; omega) (by omega) (by omega) t
 have C3 := Lib.hid fun (w : World) (mo : Mc) (e : mo.c = m.c ∧ mo.xs = m.xs ∧ mo.ys = m.ys ∧ mo.h = m.h ∧ mo.t = m.t) (ow : mo.Ok w) (t : Env2 w) => rnTrapsL mo n s (SO.out mo e) l e_l w ow (by rw [e.2.1]; omega) (by rw [e.2.2.1]; omega) (by omega) (by omega) t
 have CS := Lib.hid fun (w : World) (mo : Mc) (e : mo.c = m.c ∧ mo.xs = m.xs ∧ mo.ys = m.ys ∧ mo.h = m.h ∧ mo.t = m.t) (o1 : mo.Ok w) (ow : m.Ok w) => rsame mo m w o1 ow (by rw [e.2.1]; omega) (by rw [e.2.2.1]; omega) e.1 e.2.1 e.2.2.2.2 e.2.2.1 e.2.2.2.1
 have HM := Lib.hid hm.mem
 have HO := Lib.hid hm.out
 have w0_ : IntKind.i64.wrap n = n := IntWalk.i64_in _ (by omega)
 clear e_s e_N e_r e_K e_b e_q e_l fs zs ysl
 have HD := Lib.hid (Dn.refl W)
 go_enter Tryz.func7, Tryz.ntmps7
 go_wp2_with (first | ((with_reducible refine wpList_box (vs := (mach m)) ?_ ?_ ?_); rfl; rfl; intro b_v2 w' nn; refine Hid.out ?_))
 refine Lib.hid ?_
 have d' := nn.dn
 replace HM := Lib.hid (HM.out.dn d')
 replace HO := Lib.hid (HO.out.dn d')
 replace HD := hT HD d'
 have v2 := nn.blk
 clear d' nn
 go_wp2_with (first | (go_at_call 8; (with_reducible refine (C0.out _ (T.dn HD.out)).mono ?_); rintro e w' ⟨rfl, d'⟩; refine Hid.out ?_))
 refine Lib.hid ?_
 replace v2 := v2.dn d'
 replace HM := Lib.hid (HM.out.dn d')
 replace HO := Lib.hid (HO.out.dn d')
 replace HD := hT HD d'
 clear d'
 go_wp2_with (first | ((with_reducible refine load33 v2 hm.len ?_ ?_ ?_); rfl; rfl) | (go_at_call 9; (with_reducible refine (CF.out _ (hm.dn HD.out)).mono ?_); rintro e w' ⟨rfl, d'⟩; refine Hid.out ?_))
 refine Lib.hid ?_
 replace v2 := v2.dn d'
 replace HM := Lib.hid (HM.out.dn d')
 replace HO := Lib.hid (HO.out.dn d')
 replace HD := hT HD d'
 clear d'
 go_wp2_with (first | ((with_reducible refine load33 v2 hm.len ?_ ?_ ?_); rfl; rfl) | ((with_reducible refine wpList_alloc zeroMach ?_ ?_); rfl; intro b_v5 w' nn; refine Hid.out ?_))
 refine Lib.hid ?_
 have n_v2_v5 := Lib.hid (nn.ne _ v2.lt)
 have HL_v5 : Hid (W.heap.size ≤ b_v5) := Lib.hid (Blk.hi nn HD.out.size)
 have d' := nn.dn
 replace v2 := v2.dn d'
 replace HM := Lib.hid (HM.out.dn d')
 replace HO := Lib.hid (HO.out.dn d')
 replace HD := hT HD d'
 have v5 := nn.blk
 clear d' nn
 go_wp2_with (first | ((with_reducible refine store33 m hm.len v5 zlen ?_ ?_ ?_ ?_); rfl; rfl; rfl; intro w' r' t'; refine Hid.out ?_))
 refine Lib.hid ?_
 replace HM := Lib.hid (HM.out.trn v5 (NoU8.mach _) t')
 replace HO := Lib.hid (HO.out.trn v5 (NoU8.mach _) t')
 replace v2 := v2.trn t' n_v2_v5.out
 replace HD := Lib.hid (HD.out.trn HL_v5.out t')
 clear t' v5
 have v5 := r'
 clear r'
 have vlt := v2.lt
 have OWN := Lib.hid (own_zero w')
 have D0 : Hid (Dn w' (w'.alloc (Obj.cells #[] 5))) := Lib.hid ((Dn.refl w').alloc _)
 have HB := Lib.hid (HM.out.dn D0.out)
 have ck0 := v2.mem hm.len
 go_wp2_with (first | (at_builtin; (refine wpList_append8 rfl _ _ rfl w'.heap.size (.slice (some ⟨w'.heap.size, 0, none⟩) 0 0) 0 [] rfl OWN.out m.A m.k m.xs rfl HB.out (by simp; omega) D0.out.size ?_); intro r w2 own1 gr1; refine Hid.out ?_))
 refine Lib.hid ?_
 clear ck0
 have own2 : w2.ownsRow w'.heap.size 5 1 r m.xs.length (m.xs.map (Value.int .u8)) := by simpa using own1
 have d' : Dn w' w2 := below_keep D0.out gr1 D0.out.size (fun q e => (OWN.out.lt q e).1)
 obtain ⟨A1, c1, rfl, hbs⟩ := Bs.of_own rfl HM.out.2.1 own2
 clear own1 own2 gr1 OWN HB D0 vlt
 replace v2 := v2.dn d'
 replace v5 := v5.dn d'
 replace HM := Lib.hid (HM.out.dn d')
 replace HO := Lib.hid (HO.out.dn d')
 replace HD := hT HD d'
 clear d'
 have HA := Lib.hid hbs
 clear hbs
 obtain ⟨n1_, en1⟩ : ∃ n1_ : Mc, n1_ = { m with A := A1, k := c1 } := ⟨_, rfl⟩
 have ln1 : n1_.c.length = 29 := by rw [en1]; exact hl
 replace en1 := Lib.hid en1
 go_wp2_with (first | ((with_reducible refine storeMem (A' := A1) (k' := c1) (n' := m.xs.length) (zs := m.xs) v5 hl rfl ?_ ?_ ?_ ?_); rfl; rfl; rfl; intro w' r' t'; refine Hid.out ?_))
 refine Lib.hid ?_
 replace HM := Lib.hid (HM.out.trn v5 (NoU8.mach _) t')
 replace HO := Lib.hid (HO.out.trn v5 (NoU8.mach _) t')
 replace HA := Lib.hid (HA.out.trn v5 (NoU8.mach _) t')
 replace v2 := v2.trn t' n_v2_v5.out
 replace r' : Blk w' b_v5 30 (mach n1_) := by rw [en1.out]; exact r'
 replace HD := Lib.hid (HD.out.trn HL_v5.out t')
 clear t' v5
 have v5 := r'
 clear r'
 have vlt := v2.lt
 have OWN := Lib.hid (own_zero w')
 have D0 : Hid (Dn w' (w'.alloc (Obj.cells #[] 5))) := Lib.hid ((Dn.refl w').alloc _)
 have HB := Lib.hid (HO.out.dn D0.out)
 have ck0 := v2.out hm.len
 go_wp2_with (first | (at_builtin; (refine wpList_append8 rfl _ _ rfl w'.heap.size (.slice (some ⟨w'.heap.size, 0, none⟩) 0 0) 0 [] rfl OWN.out m.B m.q m.ys rfl HB.out (by simp; omega) D0.out.size ?_); intro r w2 own1 gr1; refine Hid.out ?_))
 refine Lib.hid ?_
 clear ck0
 have hown : w2.ownsRow w'.heap.size 5 1 r m.ys.length (m.ys.map (Value.int .u8)) := by simpa using own1
 have d1 : Dn w' w2 := below_keep D0.out gr1 D0.out.size (fun q e => (OWN.out.lt q e).1)
 clear own1 gr1 OWN HB vlt
 have OWN2 : Hid ((w2.alloc (.cells #[.int .u8 77, .int .u8 78] 5)).ownsRow w'.heap.size 5 1 r m.ys.length (m.ys.map (Value.int .u8))) := Lib.hid (hown.alloc _)
 have H1 := Lib.hid (byte2_bs w2)
 replace d1 := Lib.hid d1
 clear hown
 go_wp2_with (first | (at_builtin; (refine wpList_append8 rfl _ _ rfl w'.heap.size r m.ys.length _ rfl OWN2.out _ 2 [77, 78] rfl H1.out (by simp; omega) (Nat.le_trans d1.out.size (by simp)) ?_); intro r2 w3 own2 gr2; refine Hid.out ?_))
 refine Lib.hid ?_
 have own3 : w3.ownsRow w'.heap.size 5 1 r2 (m.ys.length + 2) ((m.ys ++ [77, 78]).map (Value.int .u8)) := by simpa using own2
 have d' : Dn w' w3 := below_keep (d1.out.alloc _) gr2 (Nat.le_trans d1.out.size (by simp)) (fun q e => (OWN2.out.lt q e).1)
 obtain ⟨g_, cap, rfl, hg, _⟩ := own_shape own3 (by omega)
 obtain ⟨A', c', e1, hb⟩ := Bs.of_own (n := m.ys.length + 2) (xs := m.ys ++ [77, 78]) (by simp) (by_78 HO.out.2.1) own3
 simp only [Value.slice.injEq] at e1
 obtain ⟨rfl, _, rfl⟩ := e1
 clear own2 own3 gr2 H1 OWN2 d1 D0 hg
 replace v2 := v2.dn d'
 replace v5 := v5.dn d'
 replace HM := Lib.hid (HM.out.dn d')
 replace HO := Lib.hid (HO.out.dn d')
 replace HA := Lib.hid (HA.out.dn d')
 replace HD := hT HD d'
 clear d'
 have HN := Lib.hid hb
 obtain ⟨n2_, hn2_⟩ : ∃ n2_ : Nat, m.ys.length + 2 = n2_ := ⟨_, rfl⟩
 rw [hn2_]
 have HC5 : Hid (n2_ ≤ cap) := Lib.hid (by have := hb.1; rw [← hn2_]; simpa using this)
 have hn2 : (m.ys.length : Int) < n2_ := by omega
 have hn3 : (m.ys.length : Int) + 1 < n2_ := by omega
 have HL5 : Hid (m.ys.length ≤ n2_) := Lib.hid (by omega)
 clear hb hn2_
 obtain ⟨mo, hmo⟩ : ∃ mo : Mc, mo = { n1_ with B := some ⟨g_, 0, none⟩, q := cap, ys := m.ys } := ⟨_, rfl⟩
 have lo5 : mo.c.length = 29 := by rw [hmo]; exact ln1
 replace hmo := Lib.hid hmo
 have ck0 := v2.out hm.len
 go_wp2_with (first | ((with_reducible refine wpList_upto (A := some ⟨g_, 0, none⟩) (len := n2_) (c := cap) (l := m.ys.length) (k := .i64) HL5.out HC5.out ?_ ?_ ?_ ?_); rfl; rfl; rfl; simp only [Act.put, tA, tS, tZ]) | ((with_reducible refine storeOut (B' := some ⟨g_, 0, none⟩) (q' := cap) (n' := m.ys.length) (zs := m.ys) v5 ln1 rfl ?_ ?_ ?_ ?_); rfl; rfl; rfl; intro w' r' t'; refine Hid.out ?_))
 refine Lib.hid ?_
 clear ck0
 replace HM := Lib.hid (HM.out.trn v5 (NoU8.mach _) t')
 replace HO := Lib.hid (HO.out.trn v5 (NoU8.mach _) t')
 replace HA := Lib.hid (HA.out.trn v5 (NoU8.mach _) t')
 replace HN := Lib.hid (HN.out.trn v5 (NoU8.mach _) t')
 replace v2 := v2.trn t' n_v2_v5.out
 replace r' : Blk w' b_v5 30 (mach mo) := by rw [hmo.out]; exact r'
 replace HD := Lib.hid (HD.out.trn HL_v5.out t')
 clear t' v5
 have v5 := r'
 clear r'
 clear HL5
 have eo : Hid (mo.c = m.c ∧ mo.xs = m.xs ∧ mo.ys = m.ys ∧ mo.h = m.h ∧ mo.t = m.t) := Lib.hid (by rw [hmo.out, en1.out]; exact ⟨rfl, rfl, rfl, rfl, rfl⟩)
 have omo : Hid (mo.Ok w') := Lib.hid (by have o := hm.dn HD.out; rw [hmo.out, en1.out]; exact ⟨hc, HA.out, HN.out.head, o.t0, o.t1⟩)
 go_wp2_with (first | ((with_reducible refine load33 v5 lo5 ?_ ?_ ?_); rfl; rfl) | (go_at_call 10; (with_reducible refine (C1.out _ mo eo.out omo.out (T.dn HD.out)).mono ?_); rintro e w' ⟨m1, rfl, o_m1, e_m1, d'⟩; refine Hid.out ?_))
 refine Lib.hid ?_
 replace v2 := v2.dn d'
 replace v5 := v5.dn d'
 replace omo := Lib.hid (omo.out.dn d')
 replace HM := Lib.hid (HM.out.dn d')
 replace HO := Lib.hid (HO.out.dn d')
 replace HA := Lib.hid (HA.out.dn d')
 replace HN := Lib.hid (HN.out.dn d')
 replace HD := hT HD d'
 clear d'
 clear o_m1 e_m1
 go_wp2_with (first | ((with_reducible refine load33 v5 lo5 ?_ ?_ ?_); rfl; rfl) | (go_at_call 12; (with_reducible refine (C2.out _ mo eo.out omo.out (T.dn HD.out)).mono ?_); rintro e w' ⟨m1, rfl, o_m1, e_m1, d'⟩; refine Hid.out ?_))
 refine Lib.hid ?_
 replace v2 := v2.dn d'
 replace v5 := v5.dn d'
 replace omo := Lib.hid (omo.out.dn d')
 replace HM := Lib.hid (HM.out.dn d')
 replace HO := Lib.hid (HO.out.dn d')
 replace HA := Lib.hid (HA.out.dn d')
 replace HN := Lib.hid (HN.out.dn d')
 replace HD := hT HD d'
 clear d'
 clear o_m1 e_m1
 go_wp2_with (first | ((with_reducible refine load33 v5 lo5 ?_ ?_ ?_); rfl; rfl) | (go_at_call 16; (with_reducible refine (C3.out _ mo eo.out omo.out (T.dn HD.out)).mono ?_); rintro e w' ⟨tq, rfl, tv, d'⟩; refine Hid.out ?_))
 refine Lib.hid ?_
 replace v2 := v2.dn d'
 replace v5 := v5.dn d'
 replace omo := Lib.hid (omo.out.dn d')
 replace HM := Lib.hid (HM.out.dn d')
 replace HO := Lib.hid (HO.out.dn d')
 replace HA := Lib.hid (HA.out.dn d')
 replace HN := Lib.hid (HN.out.dn d')
 replace HD := hT HD d'
 clear d'
 clear tv
 go_wp2_with (first | ((with_reducible refine load33 v5 lo5 ?_ ?_ ?_); rfl; rfl) | ((with_reducible refine load33 v2 hm.len ?_ ?_ ?_); rfl; rfl) | (go_at_call 14; (with_reducible refine (CS.out _ mo eo.out omo.out (hm.dn HD.out)).mono ?_); rintro e w' ⟨rfl, d'⟩; refine Hid.out ?_))
 refine Lib.hid ?_
 replace v2 := v2.dn d'
 replace v5 := v5.dn d'
 replace omo := Lib.hid (omo.out.dn d')
 replace HM := Lib.hid (HM.out.dn d')
 replace HO := Lib.hid (HO.out.dn d')
 replace HA := Lib.hid (HA.out.dn d')
 replace HN := Lib.hid (HN.out.dn d')
 replace HD := hT HD d'
 clear d'
 have cA := HN.out.behind (i := 0) (u := 77) rfl
 have cB := HN.out.behind (i := 1) (u := 78) rfl
 rw [Nat.add_zero] at cA
 have w9 : IntKind.i64.wrap ((m.ys.length : Int) + 1) = (m.ys.length : Int) + 1 := IntWalk.i64_in _ (by omega)
 have z0 : (0 : Int) ≤ (m.ys.length : Int) := by omega
 have ck0 := v2.out hm.len
 go_wp2_with fail
 go_ret
 exact ⟨rfl, HD.out⟩
theorem rdmWalk (m : Mc) (n : Int) (W : World) (hm : m.Ok W) (T : Env2 W) (hx : m.xs.length ≤ 9223372036854775807) (hy : m.ys.length ≤ 9223372036854775807) (n0 : 0 ≤ n) (n1 : n < 256) : Calls Tryz.prog 7 #[.agg (mach m), .int .u8 n] W fun e W' => e = .returned (.bool true) ∧ Dn W W' := by
 cases hf : decide (m.xs.length ≤ 600 ∧ m.ys.length ≤ 600)
 · exact rdm_few m W hm T hx hy n n0 n1 hf
 · by_cases h : 20 < n
   · exact rdm_big0 m W hm T hx hy n n0 n1 hf h
   · exact rdm_main m W hm T hx hy n n0 n1 hf (by omega)
end Go.Proofs.YtclpdjpaaagkdaaGreatDoor
namespace Go.Proofs.YtclpdjpaaagkdaaGreatDoor.runsDoNotModify
open Go.ChangeShapes Go.WideShapes Go.ChangeAt Go.RowKit
set_option linter.unusedVariables false


theorem readable : ∀ t ∈ Tryz.f7.params.toList, Tryz.prog.readableRec t = true ∧ t < Tryz.prog.types.size := by
 rw [Tryz.params7]
 intro t ht
 have hall : ([30, 5].all fun t => Tryz.prog.readableRec t && decide (t < Tryz.prog.types.size)) = true := by kernel_rfl
 have h := List.all_eq_true.1 hall t ht
 simp only [Bool.and_eq_true, decide_eq_true_eq] at h
 exact h

theorem said (H : Type) (ds : List (DataW H)) (hl : ds.length = Tryz.f7.params.size) : (Rows.runsDoNotModifySpec.fn H ds).results = [.lit (.bool true)] ∧ (Rows.runsDoNotModifySpec.fn H ds).args = ds ∧ (Rows.runsDoNotModifySpec.fn H ds).vars = [] := by
 rw [Tryz.params7] at hl
 match ds, hl with
 | [d0, d1], _ => exact ⟨rfl, rfl, rfl⟩

set_option maxRecDepth 100000 in
theorem walk {H : Type} {enc : TypeId × Value → H} (W : World) (base : Nat) (args : Array Value) (ds : List (DataW H)) (ps : List MemPlace) (E : Env W)
   (hval : ∀ (j : Nat) t v, Tryz.f7.params[j]? = some t → args[j]? = some v → Value.okWide Tryz.prog W .any base t v)
   (hA : DataW.TrodAll enc Tryz.prog W 0 (fun _ => true) true Tryz.f7.params.toList args.toList ds ps) :
   Calls Tryz.prog 7 args W fun e W' => e = .returned (.bool true) ∧ Dn W W' := by
 rw [Tryz.params7] at hA hval
 obtain ⟨v0, vs0, d0, ds0, p0, q0, hargs, rfl, rfl, h0, r0⟩ := trodAll_cons hA
 obtain ⟨v1, vs1, d1, ds1, p1, q1, rfl, rfl, rfl, h1, r1⟩ := trodAll_cons r0
 obtain ⟨rfl, rfl, rfl⟩ := trodAll_nil r1
 obtain rfl : args = #[v0, v1] := by cases args; simp_all
 obtain ⟨m0, rfl, o0, l0, y0⟩ := open33 (hval 0 30 v0 rfl rfl) h0
 obtain ⟨x1, rfl, rfl, rfl, w1⟩ := open_int Tryz.underlying5 (hval 1 5 v1 rfl rfl) h1
 have bd1 := bounds_u8 w1
 exact rdmWalk m0 x1 W o0 E.two  l0 y0 (by omega) (by omega) 

set_option maxRecDepth 100000 in
theorem lifted (os : Os) (started : os.Started) (H : Type) (enc : TypeId × Value → H) :
   ReturnsInHanded {} Tryz.checked os 7 .any (fun w args => (Rows.runsDoNotModifySpec.pre enc Tryz.prog Tryz.f7 [] false w args ∧ laidMetH Tryz.prog laidL w) ∧ sizedMet enc Tryz.prog Tryz.f7 (OpenSpec.ofChange Rows.runsDoNotModifySpec) false w args)
     (Rows.runsDoNotModifySpec.post enc Tryz.prog Tryz.f7 false true false false) :=
 returns_of_walk (C := Tryz.checked) rfl own started (by kernel_rfl) Tryz.func7 rfl readable (by kernel_rfl) said
   (ChangeSpec.witness_shaped (enc := enc) (C := Tryz.checked) (os := os) (X := fun w _ => laidMetH Tryz.prog laidL w) false (World.laidAll Tryz.prog os laidL) #[.agg #[.int .u32 0, .int .u32 0, .int .u32 0, .int .u32 0, .int .u32 0, .int .u32 0, .int .u32 0, .int .u32 0, .int .u32 0, .int .u32 0, .int .u32 0, .int .u32 0, .int .u32 0, .int .u32 0, .int .u32 0, .int .u32 0, .int .u32 0, .int .u32 0, .int .u32 0, .int .u32 0, .int .u32 0, .int .u32 0, .int .u32 0, .int .u32 0, .int .u32 0, .int .u32 0, .int .u32 0, .int .u32 0, .int .u32 0, .slice none 0 0, .int .u64 0, .slice none 0 0, .bool false], .int .u8 0] 8 (World.laidAll_os _ _ _)
     (start_shaped os _) (by kernel_rfl) (by kernel_rfl) (by kernel_rfl) (start_met os _)) walk

theorem over : Rows.RunsDoNotModifySaid :=
 OpenClaim.holds_of_wide 7 Tryz.f7 rfl rfl rfl rfl rfl rfl rfl ⟨rfl, rfl, rfl, rfl, rfl⟩ rfl rfl rfl rfl rfl (by kernel_rfl) Tryz.func7 (by kernel_rfl)
   (of_decide_eq_true (by kernel_rfl)) (by unfold Func.isWrapper; first | (rw [if_pos (by decide +kernel)]; kernel_rfl) | (rw [if_neg (by decide +kernel)]; exact ⟨rfl, rfl⟩))
   (fun os started H enc _ => lifted os started H enc)

theorem proved : Rows.RunsDoNotModifyCardSaid :=
 Claim7.holds_tied_plain_at .later [] [.data, .data, .data] true (true, "00447fa595675de86dbacc44586d93df9b9cc5cda1eaed7296832adaa0b000a3") false
   over (fun _ h => by cases h) (by kernel_rfl) (fun _ h => by cases h) runsDoNotModify_row_tie rfl ⟨rfl, rfl⟩ (by kernel_rfl) rfl
   (fun f fn hf hfn => by
     obtain rfl : f = 7 := Option.some.inj ((show Tryz.prog.funcNamed "gaoler/gaolerlaw14.RunsDoNotModify" = some 7 by kernel_rfl).symm.trans hf) |>.symm
     obtain rfl : fn = Tryz.f7 := (Option.some.inj (Tryz.func7.symm.trans hfn)).symm
     exact ⟨by kernel_rfl, fun j t ht => by
       rw [Tryz.params7] at ht
       have hm : t ∈ [30, 5] := by simpa using Array.mem_of_getElem? ht
       have hall : ([30, 5].all fun u => !Tryz.prog.wantsStandIn u) = true := by kernel_rfl
       exact (show Tryz.prog.wantsStandIn t = false by simpa using List.all_eq_true.1 hall t hm)⟩)
   (by kernel_rfl)
#print axioms proved
end Go.Proofs.YtclpdjpaaagkdaaGreatDoor.runsDoNotModify
