/-
  The law RunTrapsAreCounted of the law package returns true at every input, and each argument reads as it did; conditions: the listed package variables hold what the program's text lays there (the card ties them to it).
-/
import Derived.Test.YtclpdjpaaagkdaaGreatDoorCards
import Derived.Test.YtclpdjpaaagkdaaGreatDoorTie
import Derived.Test.YtclpdjpaaagkdaaGreatDoorPmJ
import Derived.Test.YtclpdjpaaagkdaaGreatDoorPmW
import Derived.Test.YtclpdjpaaagkdaaGreatDoorPmG
namespace Go.Proofs.YtclpdjpaaagkdaaGreatDoor
open Go.ChangeShapes Go.WideShapes Go.ChangeAt Go.RowKit Go.Sort
set_option linter.unusedVariables false

set_option maxRecDepth 100000 in
set_option maxHeartbeats 2000000 in
theorem rtc_few (m : Mc) (W : World) (hm : m.Ok W) (T : Env2 W) (hx : m.xs.length ≤ 9223372036854775807) (hy : m.ys.length ≤ 9223372036854775807) (n : Int) (n0 : 0 ≤ n) (n1 : n < 256) (hf : decide (m.xs.length ≤ 600 ∧ m.ys.length ≤ 600) = false) :
   Calls Tryz.prog 6 #[.agg (mach m), .int .u8 n] W fun e W' => e = .returned (.bool true) ∧ Dn W W' := by
 have C0 := Lib.hid fun w => fun (t : Env2 w) => awakeR w t
 have CF := Lib.hid fun w => fun (ow : m.Ok w) => rfew m false w ow hx hy hf
 clear hf
 have HD := Lib.hid (Dn.refl W)
 go_enter Tryz.func6, Tryz.ntmps6
 go_wp2_with (first | ((with_reducible refine wpList_box (vs := (mach m)) ?_ ?_ ?_); rfl; rfl; intro b_v2 w' nn; refine Hid.out ?_))
 refine Lib.hid ?_
 have d' := nn.dn
 replace HD := hT HD d'
 have v2 := nn.blk
 clear d' nn
 go_wp2_with (first | (go_at_call 8; (with_reducible refine (C0.out _ (T.dn HD.out)).mono ?_); rintro e w' ⟨rfl, d'⟩; refine Hid.out ?_))
 refine Lib.hid ?_
 replace v2 := v2.dn d'
 replace HD := hT HD d'
 clear d'
 go_wp2_with (first | ((with_reducible refine load33 v2 hm.len ?_ ?_ ?_); rfl; rfl) | (go_at_call 9; (with_reducible refine (CF.out _ (hm.dn HD.out)).mono ?_); rintro e w' ⟨rfl, d'⟩; refine Hid.out ?_))
 refine Lib.hid ?_
 replace v2 := v2.dn d'
 replace HD := hT HD d'
 clear d'
 go_wp2_with (first | (go_at_call 8; (with_reducible refine (C0.out _ (T.dn HD.out)).mono ?_); rintro e w' ⟨rfl, d'⟩; refine Hid.out ?_))
 refine Lib.hid ?_
 replace v2 := v2.dn d'
 replace HD := hT HD d'
 clear d'
 go_wp2_with fail
 go_ret
 exact ⟨rfl, HD.out⟩
set_option maxRecDepth 100000 in
set_option maxHeartbeats 2000000 in
theorem rtc_big0 (m : Mc) (W : World) (hm : m.Ok W) (T : Env2 W) (hx : m.xs.length ≤ 9223372036854775807) (hy : m.ys.length ≤ 9223372036854775807) (n : Int) (n0 : 0 ≤ n) (n1 : n < 256) (hf : decide (m.xs.length ≤ 600 ∧ m.ys.length ≤ 600) = true) (b : 40 < n) :
   Calls Tryz.prog 6 #[.agg (mach m), .int .u8 n] W fun e W' => e = .returned (.bool true) ∧ Dn W W' := by
 have C0 := Lib.hid fun w => fun (t : Env2 w) => awakeR w t
 have CF := Lib.hid fun w => fun (ow : m.Ok w) => rfew m true w ow hx hy hf
 clear hf
 have HD := Lib.hid (Dn.refl W)
 go_enter Tryz.func6, Tryz.ntmps6
 go_wp2_with (first | ((with_reducible refine wpList_box (vs := (mach m)) ?_ ?_ ?_); rfl; rfl; intro b_v2 w' nn; refine Hid.out ?_))
 refine Lib.hid ?_
 have d' := nn.dn
 replace HD := hT HD d'
 have v2 := nn.blk
 clear d' nn
 go_wp2_with (first | (go_at_call 8; (with_reducible refine (C0.out _ (T.dn HD.out)).mono ?_); rintro e w' ⟨rfl, d'⟩; refine Hid.out ?_))
 refine Lib.hid ?_
 replace v2 := v2.dn d'
 replace HD := hT HD d'
 clear d'
 go_wp2_with (first | ((with_reducible refine load33 v2 hm.len ?_ ?_ ?_); rfl; rfl) | (go_at_call 9; (with_reducible refine (CF.out _ (hm.dn HD.out)).mono ?_); rintro e w' ⟨rfl, d'⟩; refine Hid.out ?_))
 refine Lib.hid ?_
 replace v2 := v2.dn d'
 replace HD := hT HD d'
 clear d'
 go_wp2_with (first | (go_at_call 8; (with_reducible refine (C0.out _ (T.dn HD.out)).mono ?_); rintro e w' ⟨rfl, d'⟩; refine Hid.out ?_))
 refine Lib.hid ?_
 replace v2 := v2.dn d'
 replace HD := hT HD d'
 clear d'
 go_wp2_with fail
 go_ret
 exact ⟨rfl, HD.out⟩
set_option maxRecDepth 100000 in
set_option maxHeartbeats 2000000 in
theorem rtc_main (m : Mc) (W : World) (hm : m.Ok W) (T : Env2 W) (hx : m.xs.length ≤ 9223372036854775807) (hy : m.ys.length ≤ 9223372036854775807) (n : Int) (n0 : 0 ≤ n) (n1 : n < 256) (hf : decide (m.xs.length ≤ 600 ∧ m.ys.length ≤ 600) = true) (n40 : n ≤ 40) :
   Calls Tryz.prog 6 #[.agg (mach m), .int .u8 n] W fun e W' => e = .returned (.bool true) ∧ Dn W W' := by
 have hl := hm.len
 have hs : m.xs.length ≤ 600 := by simp only [decide_eq_true_eq] at hf; omega
 have hn : m.ys.length ≤ 600 := by simp only [decide_eq_true_eq] at hf; omega
 obtain ⟨s, e_s⟩ : ∃ s, M.st0 m = s := ⟨_, rfl⟩
 have fs : Sd s m := e_s ▸ Sd.self m
 have zs : s.z.length = m.xs.length := congrArg List.length fs.xs.symm
 have ysl : s.ys.length = m.ys.length := congrArg List.length fs.ys.symm
 obtain ⟨l, e_l⟩ : ∃ l, M.trn n.toNat s = l := ⟨_, rfl⟩
 have GL := Lib.hid fun i => M.gon_len i s
 have cl := M.cntn_le n.toNat s
 have tl := M.trn_len n.toNat s
 rw [e_l] at tl
 have LZ : Hid (s.z.length ≤ 600 ∧ s.ys.length ≤ 600 ∧ M.cntn n.toNat s ≤ 40 ∧ n.toNat ≤ 40) := Lib.hid (by omega)
 have C0 := Lib.hid fun w => fun (t : Env2 w) => awakeR w t
 have CF := Lib.hid fun w => fun (ow : m.Ok w) => rfew m true w ow hx hy hf
 clear hf
 have D1 := Lib.hid fun w => fun (ow : m.Ok w) (t : Env2 w) => rnTrapsB m n s fs l e_l w ow (by omega) (by omega) (by omega) (by omega) t
 have al : Hid (l.length ≤ 100000) := Lib.hid (by omega)
 have C7 := Lib.hid fun (w : World) (lo lo2 : Nat) (v u : Value) (tv : Tr w lo v l) (tu : Tr w lo2 u l) => rSame14 tv tu al.out
 have FS := Lib.hid fs
 have EL := Lib.hid e_l
 have om : Hid (m.Ok W) := Lib.hid hm
 have w0_ : IntKind.i64.wrap n = n := IntWalk.i64_in _ (by omega)
 have z17 : (2 : Int) ≠ 0 := by decide
 clear tl cl zs ysl e_s e_l fs hs hn z17
 have HD := Lib.hid (Dn.refl W)
 go_enter Tryz.func6, Tryz.ntmps6
 go_wp2_with (first | ((with_reducible refine wpList_box (vs := (mach m)) ?_ ?_ ?_); rfl; rfl; intro b_v2 w' nn; refine Hid.out ?_))
 refine Lib.hid ?_
 have d' := nn.dn
 replace om := Lib.hid (om.out.dn d')
 replace HD := hT HD d'
 have v2 := nn.blk
 clear d' nn
 go_wp2_with (first | (go_at_call 8; (with_reducible refine (C0.out _ (T.dn HD.out)).mono ?_); rintro e w' ⟨rfl, d'⟩; refine Hid.out ?_))
 refine Lib.hid ?_
 replace v2 := v2.dn d'
 replace om := Lib.hid (om.out.dn d')
 replace HD := hT HD d'
 clear d'
 go_wp2_with (first | ((with_reducible refine load33 v2 hm.len ?_ ?_ ?_); rfl; rfl) | (go_at_call 9; (with_reducible refine (CF.out _ (hm.dn HD.out)).mono ?_); rintro e w' ⟨rfl, d'⟩; refine Hid.out ?_))
 refine Lib.hid ?_
 replace v2 := v2.dn d'
 replace om := Lib.hid (om.out.dn d')
 replace HD := hT HD d'
 clear d'
 go_wp2_with (first | ((with_reducible refine load33 v2 hm.len ?_ ?_ ?_); rfl; rfl) | ((with_reducible refine wpList_alloc zeroMach ?_ ?_); rfl; intro b_v6 w' nn; refine Hid.out ?_))
 refine Lib.hid ?_
 have n_v2_v6 := Lib.hid (nn.ne _ v2.lt)
 have HL_v6 : Hid (W.heap.size ≤ b_v6) := Lib.hid (Blk.hi nn HD.out.size)
 have d' := nn.dn
 replace v2 := v2.dn d'
 replace om := Lib.hid (om.out.dn d')
 replace HD := hT HD d'
 have v6 := nn.blk
 clear d' nn
 go_wp2_with (first | ((with_reducible refine store33 m hm.len v6 zlen ?_ ?_ ?_ ?_); rfl; rfl; rfl; intro w' r' t'; refine Hid.out ?_))
 refine Lib.hid ?_
 replace om := Lib.hid (om.out.trn v6 (NoU8.mach _) t')
 replace v2 := v2.trn t' n_v2_v6.out
 replace HD := Lib.hid (HD.out.trn HL_v6.out t')
 clear t' v6
 have v6 := r'
 clear r'
 go_wp2_with fail
 go_loopw [5, 7] (fun u d w => RtRel W b_v2 b_v6 m s n.toNat u d w) (fun _ d _ => M.cntn n.toNat s - (intOf d).toNat)
 case atStart => exact ⟨0, m, rfl, Nat.zero_le _, HD.out, v2, v6, om.out, FS.out, Tr.nil _ _, by simp [Value.ownBlock]⟩
 case round =>
   clear v2 v6 om HD
   obtain ⟨i, x, rfl, hi, hd, v2, v6, ox, sx, TV, hv2⟩ := hrel
   have l_x := ox.len
   have HD := Lib.hid hd
   replace ox := Lib.hid ox
   replace sx := Lib.hid sx
   replace TV := Lib.hid TV
   have nTV2 := Lib.hid hv2
   replace hi := Lib.hid hi
   have nTV6 := Lib.hid (TV.out.old (Nat.lt_succ_self _))
   clear hd hv2
   by_cases hlt : (i : Int) < n
   · cases hh : x.h
     · obtain ⟨hg, hi2, gn, tn, odd⟩ := M.round ox.out sx.out hh hi.out (by omega)
       have g1 := GL.out i
       have lz := LZ.out
       have tl := M.trn_len i s
       have cl := M.cntn_le i s
       have w1 : IntKind.i64.wrap ((i : Int) + 1) = (i : Int) + 1 := IntWalk.i64_in _ (by omega)
       have QL : Hid ((M.trn i s).length + 1 ≤ 100000) := Lib.hid (by omega)
       have CR := Lib.hid fun (w : World) (o : x.Ok w) (t : Env2 w) => rnRun1 x (M.gon i s) sx.out hg _ gn w o (by omega) (by omega) t
       have CA := Lib.hid fun (h0 : (M.gon (i + 1) s).k = 0) (w : World) (o : x.Ok w) (t : Env2 w) => rnTraps0 x (M.gon i s) sx.out hg (by rw [gn]; exact h0) w o (by omega) (by omega) t
       have CB := Lib.hid fun (k v : Int) (hk : (M.gon (i + 1) s).k = k) (hv : (M.gon (i + 1) s).v = v) (h0 : k ≠ 0) (w : World) (o : x.Ok w) (t : Env2 w) => rnTraps1 x (M.gon i s) sx.out hg k v (by rw [gn]; exact hk) (by rw [gn]; exact hv) h0 w o (by omega) (by omega) t
       replace hi2 := Lib.hid hi2
       replace tn := Lib.hid tn
       clear hg gn g1 lz tl cl sx
       by_cases hk : (M.gon (i + 1) s).k = 0
       · have CT := Lib.hid (CA.out hk)
         rw [if_pos hk, List.append_nil] at tn
         have tn2 : Hid (M.trn (i + 1) s = M.trn i s ++ []) := Lib.hid (by rw [tn.out, List.append_nil])
         clear CA CB hk odd tn
         have lt2 := v2.lt
         have lt6 := v6.lt
         have ck0 := v6.halted l_x
         rw [hh] at ck0
         go_wp2_with (first | ((with_reducible refine load33 v6 l_x ?_ ?_ ?_); rfl; rfl) | (go_at_call 16; (with_reducible refine (CT.out _ ox.out (T.dn HD.out)).mono ?_); rintro e w' ⟨A8, c8, rfl, t8, d'⟩; refine Hid.out ?_))
         refine Lib.hid ?_
         clear ck0
         replace v2 := v2.dn d'
         replace v6 := v6.dn d'
         replace ox := Lib.hid (ox.out.dn d')
         replace TV := Lib.hid (TV.out.dn d')
         replace HD := hT HD d'
         clear d'
         have n82 := Lib.hid (t8.out.old lt2)
         have n86 := Lib.hid (t8.out.old lt6)
         clear lt2 lt6
         have t8 := Lib.hid t8.out
         go_wp2_with (first | ((with_reducible refine load33 v6 l_x ?_ ?_ ?_); rfl; rfl) | (go_at_call 10; (with_reducible refine (CR.out _ ox.out (T.dn HD.out)).mono ?_); rintro e w' ⟨m9, rfl, o_m9, e_m9, d'⟩; refine Hid.out ?_))
         refine Lib.hid ?_
         replace v2 := v2.dn d'
         replace v6 := v6.dn d'
         replace ox := Lib.hid (ox.out.dn d')
         replace TV := Lib.hid (TV.out.dn d')
         replace t8 := Lib.hid (t8.out.dn d')
         replace HD := hT HD d'
         clear d'
         have l_m9 := o_m9.out.len
         have o_m9 := Lib.hid o_m9.out
         go_wp2_with (first | ((with_reducible refine wpList_alloc zeroMach ?_ ?_); rfl; intro b_v9 w' nn; refine Hid.out ?_))
         refine Lib.hid ?_
         have n_v2_v9 := Lib.hid (nn.ne _ v2.lt)
         have n_v6_v9 := Lib.hid (nn.ne _ v6.lt)
         have n_TV_v9 := Lib.hid (TV.out.ne nn.lo)
         have n_t8_v9 := Lib.hid (t8.out.ne nn.lo)
         have HL_v9 : Hid (W.heap.size ≤ b_v9) := Lib.hid (Blk.hi nn HD.out.size)
         have d' := nn.dn
         replace v2 := v2.dn d'
         replace v6 := v6.dn d'
         replace ox := Lib.hid (ox.out.dn d')
         replace TV := Lib.hid (TV.out.dn d')
         replace t8 := Lib.hid (t8.out.dn d')
         replace o_m9 := Lib.hid (o_m9.out.dn d')
         replace HD := hT HD d'
         have v9 := nn.blk
         clear d' nn
         go_wp2_with (first | ((with_reducible refine store33 m9 l_m9 v9 zlen ?_ ?_ ?_ ?_); rfl; rfl; rfl; intro w' r' t'; refine Hid.out ?_))
         refine Lib.hid ?_
         replace ox := Lib.hid (ox.out.trn v9 (NoU8.mach _) t')
         replace TV := Lib.hid (TV.out.trn t' n_TV_v9.out)
         replace t8 := Lib.hid (t8.out.trn t' n_t8_v9.out)
         replace o_m9 := Lib.hid (o_m9.out.trn v9 (NoU8.mach _) t')
         replace v2 := v2.trn t' n_v2_v9.out
         replace v6 := v6.trn t' n_v6_v9.out
         replace HD := Lib.hid (HD.out.trn HL_v9.out t')
         clear t' v9
         have v9 := r'
         clear r'
         go_wp2_with (first | (at_builtin; (with_reducible refine wpList_appT' TV.out t8.out (by have := QL.out; simp only [List.length_nil]; omega) (Nat.succ_le_of_lt v6.lt) ?_ ?_ ?_); rfl; rfl; intro un w9 tn dv hp; refine Hid.out ?_))
         refine Lib.hid ?_
         have nN2 : Hid (un.ownBlock ≠ some b_v2) := Lib.hid (fun e => by
             have lt2 := v2.lt
             rcases hp _ e with h | h
             · exact nTV2.out h
             · omega)
         have nN6 := Lib.hid (tn.old (Nat.lt_succ_self _))
         replace v2 := v2.dx dv (by simpa using nTV2.out)
         replace v6 := v6.dx dv (by simpa using nTV6.out)
         replace v9 := v9.dx dv (by simpa using n_TV_v9.out)
         replace o_m9 := Lib.hid (o_m9.out.nu dv (by intro b hb; exact TV.out.nu (by simpa using hb)))
         replace HD := Lib.hid (HD.out.of_dx dv (by intro b hb; exact Nat.le_trans HL_v6.out (Nat.le_of_succ_le (TV.out.lt (by simpa using hb)).1)))
         replace TV := Lib.hid tn
         clear dv hp tn t8 n82 n86 nTV2 nTV6 ox
         replace TV : Hid (Tr w9 (b_v6 + 1) un (M.trn (i + 1) s)) := Lib.hid (by rw [tn2.out]; exact TV.out)
         have nTV2 := nN2
         have nTV6 := nN6
         clear nN2 nN6 tn2
         go_wp2_with (first | ((with_reducible refine load33 v9 l_m9 ?_ ?_ ?_); rfl; rfl) | ((with_reducible refine store33 m9 l_m9 v6 l_x ?_ ?_ ?_ ?_); rfl; rfl; rfl; intro w' r' t'; refine Hid.out ?_))
         refine Lib.hid ?_
         replace o_m9 := Lib.hid (o_m9.out.trn v6 (NoU8.mach _) t')
         replace TV := Lib.hid (TV.out.trn t' nTV6.out)
         replace v2 := v2.trn t' n_v2_v6.out
         replace v9 := v9.trn t' n_v6_v9.out.symm
         replace HD := Lib.hid (HD.out.trn HL_v6.out t')
         clear t' v6
         have v6 := r'
         clear r'
         go_wp2_with fail
         exact ⟨⟨i + 1, m9, by go_num, hi2.out, HD.out, v2, v6, o_m9.out, e_m9.out, TV.out, nTV2.out⟩, by simp [intOf]; have := hi2.out; omega⟩
       · obtain ⟨k1, e_k1⟩ : ∃ k1, (M.gon (i + 1) s).k = k1 := ⟨_, rfl⟩
         obtain ⟨v1, e_v1⟩ : ∃ v1, (M.gon (i + 1) s).v = v1 := ⟨_, rfl⟩
         rw [e_k1] at hk odd
         have CT := Lib.hid (CB.out k1 v1 e_k1 e_v1 hk)
         obtain ⟨odd1, odd0⟩ := odd hk
         have OD := Lib.hid (And.intro odd1 odd0)
         rw [e_k1, e_v1, if_neg hk] at tn
         have tn2 := tn
         clear CA CB hk tn e_k1 e_v1 odd1 odd0 odd
         have lt2 := v2.lt
         have lt6 := v6.lt
         have ck0 := v6.halted l_x
         rw [hh] at ck0
         go_wp2_with (first | ((with_reducible refine load33 v6 l_x ?_ ?_ ?_); rfl; rfl) | (go_at_call 16; (with_reducible refine (CT.out _ ox.out (T.dn HD.out)).mono ?_); rintro e w' ⟨A8, c8, rfl, t8, d'⟩; refine Hid.out ?_))
         refine Lib.hid ?_
         clear ck0
         replace v2 := v2.dn d'
         replace v6 := v6.dn d'
         replace ox := Lib.hid (ox.out.dn d')
         replace TV := Lib.hid (TV.out.dn d')
         replace HD := hT HD d'
         clear d'
         have n82 := Lib.hid (t8.out.old lt2)
         have n86 := Lib.hid (t8.out.old lt6)
         clear lt2 lt6
         have t8 := Lib.hid t8.out
         go_wp2_with (first | ((with_reducible refine load33 v6 l_x ?_ ?_ ?_); rfl; rfl) | (go_at_call 10; (with_reducible refine (CR.out _ ox.out (T.dn HD.out)).mono ?_); rintro e w' ⟨m9, rfl, o_m9, e_m9, d'⟩; refine Hid.out ?_))
         refine Lib.hid ?_
         replace v2 := v2.dn d'
         replace v6 := v6.dn d'
         replace ox := Lib.hid (ox.out.dn d')
         replace TV := Lib.hid (TV.out.dn d')
         replace t8 := Lib.hid (t8.out.dn d')
         replace HD := hT HD d'
         clear d'
         have l_m9 := o_m9.out.len
         obtain ⟨st, c17⟩ : ∃ st, m9.c.getD 17 0 = st := ⟨_, rfl⟩
         have so : st % 2 = 1 ∧ 0 ≤ st := by rw [← c17, e_m9.out.c]; exact OD.out
         have sq : (st.tmod 2 != 1) = false := by rw [Int.tmod_eq_emod_of_nonneg so.2, so.1]; rfl
         clear so
         have o_m9 := Lib.hid o_m9.out
         go_wp2_with (first | ((with_reducible refine wpList_alloc zeroMach ?_ ?_); rfl; intro b_v9 w' nn; refine Hid.out ?_))
         refine Lib.hid ?_
         have n_v2_v9 := Lib.hid (nn.ne _ v2.lt)
         have n_v6_v9 := Lib.hid (nn.ne _ v6.lt)
         have n_TV_v9 := Lib.hid (TV.out.ne nn.lo)
         have n_t8_v9 := Lib.hid (t8.out.ne nn.lo)
         have HL_v9 : Hid (W.heap.size ≤ b_v9) := Lib.hid (Blk.hi nn HD.out.size)
         have d' := nn.dn
         replace v2 := v2.dn d'
         replace v6 := v6.dn d'
         replace ox := Lib.hid (ox.out.dn d')
         replace TV := Lib.hid (TV.out.dn d')
         replace t8 := Lib.hid (t8.out.dn d')
         replace o_m9 := Lib.hid (o_m9.out.dn d')
         replace HD := hT HD d'
         have v9 := nn.blk
         clear d' nn
         go_wp2_with (first | ((with_reducible refine store33 m9 l_m9 v9 zlen ?_ ?_ ?_ ?_); rfl; rfl; rfl; intro w' r' t'; refine Hid.out ?_))
         refine Lib.hid ?_
         replace ox := Lib.hid (ox.out.trn v9 (NoU8.mach _) t')
         replace TV := Lib.hid (TV.out.trn t' n_TV_v9.out)
         replace t8 := Lib.hid (t8.out.trn t' n_t8_v9.out)
         replace o_m9 := Lib.hid (o_m9.out.trn v9 (NoU8.mach _) t')
         replace v2 := v2.trn t' n_v2_v9.out
         replace v6 := v6.trn t' n_v6_v9.out
         replace HD := Lib.hid (HD.out.trn HL_v9.out t')
         clear t' v9
         have v9 := r'
         clear r'
         have ck0 := v9.word l_m9 17 rfl
         rw [c17] at ck0
         go_wp2_with (first | (at_builtin; (with_reducible refine wpList_appT' TV.out t8.out (by have := QL.out; simp only [List.length_nil, List.length_cons]; omega) (Nat.succ_le_of_lt v6.lt) ?_ ?_ ?_); rfl; rfl; intro un w9 tn dv hp; refine Hid.out ?_))
         refine Lib.hid ?_
         clear ck0
         have nN2 : Hid (un.ownBlock ≠ some b_v2) := Lib.hid (fun e => by
             have lt2 := v2.lt
             rcases hp _ e with h | h
             · exact nTV2.out h
             · omega)
         have nN6 := Lib.hid (tn.old (Nat.lt_succ_self _))
         replace v2 := v2.dx dv (by simpa using nTV2.out)
         replace v6 := v6.dx dv (by simpa using nTV6.out)
         replace v9 := v9.dx dv (by simpa using n_TV_v9.out)
         replace o_m9 := Lib.hid (o_m9.out.nu dv (by intro b hb; exact TV.out.nu (by simpa using hb)))
         replace HD := Lib.hid (HD.out.of_dx dv (by intro b hb; exact Nat.le_trans HL_v6.out (Nat.le_of_succ_le (TV.out.lt (by simpa using hb)).1)))
         replace TV := Lib.hid tn
         clear dv hp tn t8 n82 n86 nTV2 nTV6 ox
         replace TV : Hid (Tr w9 (b_v6 + 1) un (M.trn (i + 1) s)) := Lib.hid (by rw [tn2.out]; exact TV.out)
         have nTV2 := nN2
         have nTV6 := nN6
         clear nN2 nN6 tn2
         go_wp2_with (first | ((with_reducible refine load33 v9 l_m9 ?_ ?_ ?_); rfl; rfl) | ((with_reducible refine store33 m9 l_m9 v6 l_x ?_ ?_ ?_ ?_); rfl; rfl; rfl; intro w' r' t'; refine Hid.out ?_))
         refine Lib.hid ?_
         replace o_m9 := Lib.hid (o_m9.out.trn v6 (NoU8.mach _) t')
         replace TV := Lib.hid (TV.out.trn t' nTV6.out)
         replace v2 := v2.trn t' n_v2_v6.out
         replace v9 := v9.trn t' n_v6_v9.out.symm
         replace HD := Lib.hid (HD.out.trn HL_v6.out t')
         clear t' v6
         have v6 := r'
         clear r'
         go_wp2_with fail
         exact ⟨⟨i + 1, m9, by go_num, hi2.out, HD.out, v2, v6, o_m9.out, e_m9.out, TV.out, nTV2.out⟩, by simp [intOf]; have := hi2.out; omega⟩
     · have hg : (M.gon i s).h = true := by rw [← sx.out.h]; exact hh
       have e := M.cnt_stop hi.out (.inl hg)
       replace TV : Hid (Tr wr (b_v6 + 1) u5 l) := Lib.hid (by have h := TV.out; rw [e, M.trn_cnt, EL.out] at h; exact h)
       clear e
       clear hg ox sx
       have ck0 := v6.halted l_x
       rw [hh] at ck0
       go_wp2_with (first | ((with_reducible refine load33 v2 hm.len ?_ ?_ ?_); rfl; rfl) | (go_at_call 16; (with_reducible refine (D1.out _ (hm.dn HD.out) (T.dn HD.out)).mono ?_); rintro e w' ⟨tq3, rfl, tv3, d'⟩; refine Hid.out ?_))
       refine Lib.hid ?_
       clear ck0
       replace v2 := v2.dn d'
       replace v6 := v6.dn d'
       replace TV := Lib.hid (TV.out.dn d')
       replace HD := hT HD d'
       clear d'
       have tv3 := Lib.hid tv3.out
       go_wp2_with (first | (go_at_call 15; (with_reducible refine (C7.out _ _ _ _ _ TV.out tv3.out).mono ?_); rintro e w' ⟨rfl, d'⟩; refine Hid.out ?_))
       refine Lib.hid ?_
       replace v2 := v2.dn d'
       replace v6 := v6.dn d'
       replace TV := Lib.hid (TV.out.dn d')
       replace tv3 := Lib.hid (tv3.out.dn d')
       replace HD := hT HD d'
       clear d'
       go_wp2_with fail
       go_ret
       exact ⟨rfl, HD.out⟩
   · have e0 : n.toNat ≤ i := by omega
     have e := M.cnt_stop hi.out (.inr e0)
     replace TV : Hid (Tr wr (b_v6 + 1) u5 l) := Lib.hid (by have h := TV.out; rw [e, M.trn_cnt, EL.out] at h; exact h)
     clear e
     clear e0 ox sx
     go_wp2_with (first | ((with_reducible refine load33 v2 hm.len ?_ ?_ ?_); rfl; rfl) | (go_at_call 16; (with_reducible refine (D1.out _ (hm.dn HD.out) (T.dn HD.out)).mono ?_); rintro e w' ⟨tq3, rfl, tv3, d'⟩; refine Hid.out ?_))
     refine Lib.hid ?_
     replace v2 := v2.dn d'
     replace v6 := v6.dn d'
     replace TV := Lib.hid (TV.out.dn d')
     replace HD := hT HD d'
     clear d'
     have tv3 := Lib.hid tv3.out
     go_wp2_with (first | (go_at_call 15; (with_reducible refine (C7.out _ _ _ _ _ TV.out tv3.out).mono ?_); rintro e w' ⟨rfl, d'⟩; refine Hid.out ?_))
     refine Lib.hid ?_
     replace v2 := v2.dn d'
     replace v6 := v6.dn d'
     replace TV := Lib.hid (TV.out.dn d')
     replace tv3 := Lib.hid (tv3.out.dn d')
     replace HD := hT HD d'
     clear d'
     go_wp2_with fail
     go_ret
     exact ⟨rfl, HD.out⟩
theorem rtcWalk (m : Mc) (n : Int) (W : World) (hm : m.Ok W) (T : Env2 W) (hx : m.xs.length ≤ 9223372036854775807) (hy : m.ys.length ≤ 9223372036854775807) (n0 : 0 ≤ n) (n1 : n < 256) : Calls Tryz.prog 6 #[.agg (mach m), .int .u8 n] W fun e W' => e = .returned (.bool true) ∧ Dn W W' := by
 cases hf : decide (m.xs.length ≤ 600 ∧ m.ys.length ≤ 600)
 · exact rtc_few m W hm T hx hy n n0 n1 hf
 · by_cases h : 40 < n
   · exact rtc_big0 m W hm T hx hy n n0 n1 hf h
   · exact rtc_main m W hm T hx hy n n0 n1 hf (by omega)
end Go.Proofs.YtclpdjpaaagkdaaGreatDoor
namespace Go.Proofs.YtclpdjpaaagkdaaGreatDoor.runTrapsAreCounted
open Go.ChangeShapes Go.WideShapes Go.ChangeAt Go.RowKit
set_option linter.unusedVariables false


theorem readable : ∀ t ∈ Tryz.f6.params.toList, Tryz.prog.readableRec t = true ∧ t < Tryz.prog.types.size := by
 rw [Tryz.params6]
 intro t ht
 have hall : ([30, 5].all fun t => Tryz.prog.readableRec t && decide (t < Tryz.prog.types.size)) = true := by kernel_rfl
 have h := List.all_eq_true.1 hall t ht
 simp only [Bool.and_eq_true, decide_eq_true_eq] at h
 exact h

theorem said (H : Type) (ds : List (DataW H)) (hl : ds.length = Tryz.f6.params.size) : (Rows.runTrapsAreCountedSpec.fn H ds).results = [.lit (.bool true)] ∧ (Rows.runTrapsAreCountedSpec.fn H ds).args = ds ∧ (Rows.runTrapsAreCountedSpec.fn H ds).vars = [] := by
 rw [Tryz.params6] at hl
 match ds, hl with
 | [d0, d1], _ => exact ⟨rfl, rfl, rfl⟩

set_option maxRecDepth 100000 in
theorem walk {H : Type} {enc : TypeId × Value → H} (W : World) (base : Nat) (args : Array Value) (ds : List (DataW H)) (ps : List MemPlace) (E : Env W)
   (hval : ∀ (j : Nat) t v, Tryz.f6.params[j]? = some t → args[j]? = some v → Value.okWide Tryz.prog W .any base t v)
   (hA : DataW.TrodAll enc Tryz.prog W 0 (fun _ => true) true Tryz.f6.params.toList args.toList ds ps) :
   Calls Tryz.prog 6 args W fun e W' => e = .returned (.bool true) ∧ Dn W W' := by
 rw [Tryz.params6] at hA hval
 obtain ⟨v0, vs0, d0, ds0, p0, q0, hargs, rfl, rfl, h0, r0⟩ := trodAll_cons hA
 obtain ⟨v1, vs1, d1, ds1, p1, q1, rfl, rfl, rfl, h1, r1⟩ := trodAll_cons r0
 obtain ⟨rfl, rfl, rfl⟩ := trodAll_nil r1
 obtain rfl : args = #[v0, v1] := by cases args; simp_all
 obtain ⟨m0, rfl, o0, l0, y0⟩ := open33 (hval 0 30 v0 rfl rfl) h0
 obtain ⟨x1, rfl, rfl, rfl, w1⟩ := open_int Tryz.underlying5 (hval 1 5 v1 rfl rfl) h1
 have bd1 := bounds_u8 w1
 exact rtcWalk m0 x1 W o0 E.two  l0 y0 (by omega) (by omega) 

set_option maxRecDepth 100000 in
theorem lifted (os : Os) (started : os.Started) (H : Type) (enc : TypeId × Value → H) :
   ReturnsInHanded {} Tryz.checked os 6 .any (fun w args => (Rows.runTrapsAreCountedSpec.pre enc Tryz.prog Tryz.f6 [] false w args ∧ laidMetH Tryz.prog laidL w) ∧ sizedMet enc Tryz.prog Tryz.f6 (OpenSpec.ofChange Rows.runTrapsAreCountedSpec) false w args)
     (Rows.runTrapsAreCountedSpec.post enc Tryz.prog Tryz.f6 false true false false) :=
 returns_of_walk (C := Tryz.checked) rfl own started (by kernel_rfl) Tryz.func6 rfl readable (by kernel_rfl) said
   (ChangeSpec.witness_shaped (enc := enc) (C := Tryz.checked) (os := os) (X := fun w _ => laidMetH Tryz.prog laidL w) false (World.laidAll Tryz.prog os laidL) #[.agg #[.int .u32 0, .int .u32 0, .int .u32 0, .int .u32 0, .int .u32 0, .int .u32 0, .int .u32 0, .int .u32 0, .int .u32 0, .int .u32 0, .int .u32 0, .int .u32 0, .int .u32 0, .int .u32 0, .int .u32 0, .int .u32 0, .int .u32 0, .int .u32 0, .int .u32 0, .int .u32 0, .int .u32 0, .int .u32 0, .int .u32 0, .int .u32 0, .int .u32 0, .int .u32 0, .int .u32 0, .int .u32 0, .int .u32 0, .slice none 0 0, .int .u64 0, .slice none 0 0, .bool false], .int .u8 0] 8 (World.laidAll_os _ _ _)
     (start_shaped os _) (by kernel_rfl) (by kernel_rfl) (by kernel_rfl) (start_met os _)) walk

theorem over : Rows.RunTrapsAreCountedSaid :=
 OpenClaim.holds_of_wide 6 Tryz.f6 rfl rfl rfl rfl rfl rfl rfl ⟨rfl, rfl, rfl, rfl, rfl⟩ rfl rfl rfl rfl rfl (by kernel_rfl) Tryz.func6 (by kernel_rfl)
   (of_decide_eq_true (by kernel_rfl)) (by unfold Func.isWrapper; first | (rw [if_pos (by decide +kernel)]; kernel_rfl) | (rw [if_neg (by decide +kernel)]; exact ⟨rfl, rfl⟩))
   (fun os started H enc _ => lifted os started H enc)

theorem proved : Rows.RunTrapsAreCountedCardSaid :=
 Claim7.holds_tied_plain_at .later [] [.data, .data, .data] true (true, "00447fa595675de86dbacc44586d93df9b9cc5cda1eaed7296832adaa0b000a3") false
   over (fun _ h => by cases h) (by kernel_rfl) (fun _ h => by cases h) runTrapsAreCounted_row_tie rfl ⟨rfl, rfl⟩ (by kernel_rfl) rfl
   (fun f fn hf hfn => by
     obtain rfl : f = 6 := Option.some.inj ((show Tryz.prog.funcNamed "gaoler/gaolerlaw14.RunTrapsAreCounted" = some 6 by kernel_rfl).symm.trans hf) |>.symm
     obtain rfl : fn = Tryz.f6 := (Option.some.inj (Tryz.func6.symm.trans hfn)).symm
     exact ⟨by kernel_rfl, fun j t ht => by
       rw [Tryz.params6] at ht
       have hm : t ∈ [30, 5] := by simpa using Array.mem_of_getElem? ht
       have hall : ([30, 5].all fun u => !Tryz.prog.wantsStandIn u) = true := by kernel_rfl
       exact (show Tryz.prog.wantsStandIn t = false by simpa using List.all_eq_true.1 hall t hm)⟩)
   (by kernel_rfl)
#print axioms proved
end Go.Proofs.YtclpdjpaaagkdaaGreatDoor.runTrapsAreCounted
