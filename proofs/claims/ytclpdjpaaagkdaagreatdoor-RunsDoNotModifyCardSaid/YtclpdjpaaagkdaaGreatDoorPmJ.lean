/-
  Contracts over the translated program and the plain facts behind them, of the texts: RnRefs, RnRefs2, RnSame, RnLit, StRun, RnAwake, RnLw. Conditions: those that stand in each theorem.
-/
import Derived.Test.YtclpdjpaaagkdaaGreatDoorPmI
import Derived.Test.YtclpdjpaaagkdaaGreatDoorPmQ
import Derived.Test.YtclpdjpaaagkdaaGreatDoorPmW
import Derived.Test.YtclpdjpaaagkdaaGreatDoorPmS
import Derived.Test.YtclpdjpaaagkdaaGreatDoorPmV
namespace Go.Proofs.YtclpdjpaaagkdaaGreatDoor
open Go.ChangeShapes Go.WideShapes Go.ChangeAt Go.RowKit Go.Sort
set_option linter.unusedVariables false

set_option maxRecDepth 100000 in
set_option maxHeartbeats 2000000 in
theorem rRun14 (m : Mc) (n : Int) (W : World) (hm : m.Ok W) (hs : m.xs.length ≤ 100000) (hy : m.ys.length + n.toNat ≤ 100000 - 1) (n0 : -9223372036854775808 ≤ n) (n1 : n < 9223372036854775808) :
   Calls Tryz.prog 11 #[.agg (mach m), .int .i64 n] W fun e W' => ∃ m1, e = .returned (.tuple #[.agg (mach m1), .int .i64 (M.cntn n.toNat (M.st0 m))]) ∧ Hid (m1.Ok W') ∧ Hid (Sd (M.gon n.toNat (M.st0 m)) m1) ∧ Dn W W' := by
 have hl := hm.len
 obtain ⟨s0, hs0⟩ : ∃ s0, M.st0 m = s0 := ⟨_, rfl⟩
 rw [hs0]
 have om := hm
 have sd : Sd (M.gon 0 s0) m := by rw [← hs0]; exact ⟨rfl, rfl, rfl, rfl, rfl⟩
 have LZ : Hid (s0.z.length ≤ 100000 ∧ s0.ys.length + n.toNat ≤ 100000 - 1) := Lib.hid (by rw [← hs0]; exact ⟨hs, hy⟩)
 have GL := Lib.hid fun i => M.gon_len i s0
 have HD := Lib.hid (Dn.refl W)
 replace om := Lib.hid om
 replace sd := Lib.hid sd
 clear hs hy
 go_enter Tryz.func11, Tryz.ntmps11
 go_wp2_with (first | ((with_reducible refine wpList_box (vs := (mach m)) ?_ ?_ ?_); rfl; rfl; intro b2 w' nn; refine Hid.out ?_))
 refine Lib.hid ?_
 have HL2 : Hid (W.heap.size ≤ b2) := Lib.hid (Blk.hi nn HD.out.size)
 have d' := nn.dn
 replace HD := hT HD d'
 have g2 := nn.blk
 clear d' nn
 go_wp2_with (first | ((with_reducible refine wpList_alloc zeroMach ?_ ?_); rfl; intro b4 w' nn; refine Hid.out ?_))
 refine Lib.hid ?_
 have n2_4 := Lib.hid (nn.ne _ g2.lt)
 have HL4 : Hid (W.heap.size ≤ b4) := Lib.hid (Blk.hi nn HD.out.size)
 have d' := nn.dn
 replace HD := hT HD d'
 replace g2 := g2.dn d'
 have g4 := nn.blk
 clear d' nn
 replace om := Lib.hid (om.out.dn HD.out)
 go_wp2_with fail
 go_loopw [6] (fun d w => ∃ (i : Nat) (x : Mc), d = .int .i64 i ∧ i ≤ M.cntn n.toNat s0 ∧ Dn W w ∧ Blk w b2 30 (mach x) ∧ Blk w b4 30 (mach Mc.zero) ∧ x.Ok w ∧ Sd (M.gon i s0) x) (fun d _ => M.cntn n.toNat s0 - (intOf d).toNat)
 case atStart => exact ⟨0, m, rfl, Nat.zero_le _, HD.out, g2, g4, om.out, sd.out⟩
 case round =>
   clear g2 g4 om sd HD
   obtain ⟨i, x, rfl, hi, hd, g2, g4, ox, sx⟩ := hrel
   have hlx := ox.len
   replace hi := Lib.hid hi
   have HD := Lib.hid hd
   replace ox := Lib.hid ox
   replace sx := Lib.hid sx
   clear hd
   have c32 := g2.halted hlx
   by_cases hlt : (i : Int) < n
   · cases hh : x.h
     · rw [hh] at c32
       have hg : (M.gon i s0).h = false := by rw [← sx.out.h]; exact hh
       have hi2 := M.cnt_go n.toNat i s0 hi.out hg (by omega)
       have e1 : M.stS x.c x.xs x.ys x.h x.t = M.gon (i + 1) s0 := by
         rw [M.gon_next hg, sx.out.c, sx.out.xs, sx.out.ys, sx.out.h, sx.out.t]; rfl
       have hcl := M.cntn_le n.toNat s0
       have g1 := GL.out i
       have lz := LZ.out
       have CS := Lib.hid fun w => fun (ow : x.Ok w) => rSt x w ow (by rw [sx.out.xs, g1.1]; omega) (by rw [sx.out.ys]; omega)
       rw [e1] at CS
       have w1 : IntKind.i64.wrap ((i : Int) + 1) = (i : Int) + 1 := IntWalk.i64_in _ (by omega)
       replace w1 := Lib.hid w1
       replace hi2 := Lib.hid hi2
       clear e1 hg hh g1 lz hcl
       go_wp2_with (first | ((with_reducible refine load33 g2 hlx ?_ ?_ ?_); rfl; rfl) | (go_at_call 19; (with_reducible refine (CS.out _ ox.out).mono ?_); rintro e w' ⟨x1, rfl, o1, f1, d'⟩; refine Hid.out ?_))
       refine Lib.hid ?_
       have l1 := o1.out.len
       replace g2 := g2.dn d'
       replace g4 := g4.dn d'
       replace HD := hT HD d'
       clear d' ox sx CS c32
       generalize (M.gon (i + 1) s0).k = k1
       generalize (M.gon (i + 1) s0).v = v1
       go_wp2_with (first | ((with_reducible refine store33 x1 l1 g2 hlx ?_ ?_ ?_ ?_); rfl; rfl; rfl; intro w' r' t'; refine Hid.out ?_))
       refine Lib.hid ?_
       replace o1 := Lib.hid (o1.out.trn g2 (NoU8.mach _) t')
       replace g4 := g4.trn t' n2_4.out.symm
       replace HD := Lib.hid (HD.out.trn HL2.out t')
       clear t' g2
       have g2 := r'
       clear r'
       have w2 := w1.out
       go_wp2_with fail
       go_roundw
       case rel => exact ⟨i + 1, x1, by first | rfl | (simp; done) | (congr 1), hi2.out, HD.out, g2, g4, o1.out, f1.out⟩
       case measure => simp [intOf]; have := hi2.out; omega
     · rw [hh] at c32
       have hg : (M.gon i s0).h = true := by rw [← sx.out.h]; exact hh
       have e := Lib.hid (M.cnt_stop hi.out (.inl hg))
       clear hh hg
       go_wp2_with (first | ((with_reducible refine load33 g2 hlx ?_ ?_ ?_); rfl; rfl) | ((with_reducible refine store33 x hlx g4 zlen ?_ ?_ ?_ ?_); rfl; rfl; rfl; intro w' r' t'; refine Hid.out ?_))
       refine Lib.hid ?_
       replace ox := Lib.hid (ox.out.trn g4 (NoU8.mach _) t')
       replace HD := Lib.hid (HD.out.trn HL4.out t')
       clear t' g4
       go_wp2_with fail
       refine retMI rfl rfl rfl r' hlx ?_ rfl
       rw [← M.gon_cn, ← e.out]
       exact ⟨x, rfl, ox, sx, HD.out⟩
   · have e := Lib.hid (M.cnt_stop (n := n.toNat) hi.out (.inr (by omega)))
     have hlt2 : n ≤ (i : Int) := by omega
     clear hlt
     go_wp2_with (first | ((with_reducible refine load33 g2 hlx ?_ ?_ ?_); rfl; rfl) | ((with_reducible refine store33 x hlx g4 zlen ?_ ?_ ?_ ?_); rfl; rfl; rfl; intro w' r' t'; refine Hid.out ?_))
     refine Lib.hid ?_
     replace ox := Lib.hid (ox.out.trn g4 (NoU8.mach _) t')
     replace HD := Lib.hid (HD.out.trn HL4.out t')
     clear t' g4
     go_wp2_with fail
     refine retMI rfl rfl rfl r' hlx ?_ rfl
     rw [← M.gon_cn, ← e.out]
     exact ⟨x, rfl, ox, sx, HD.out⟩
theorem retMII {fn : Func} {o p q : Tmp} {act : Act} {w : World} {b : Nat} {m : Mc} {v u : Value} {Post : Ending → World → Prop} (h : fn.results = #[.cell o 30, .tmp p, .tmp q]) (ho : act.tmps.getD o undef = .pointer (some ⟨b, 0, none⟩)) (hp : act.tmps.getD p undef = v) (hq : act.tmps.getD q undef = u)
   (r : Blk w b 30 (mach m)) (hl : m.c.length = 29) (K : Post (.returned (.tuple #[.agg (mach m), v, u])) w) (hd : act.defers = []) : bodyPost Tryz.prog fn Post .ret act w := by
 have ho' : act.tmps[o]?.getD undef = .pointer (some ⟨b, 0, none⟩) := by simpa using ho
 have hp' : act.tmps[p]?.getD undef = v := by simpa using hp
 have hq' : act.tmps[q]?.getD undef = u := by simpa using hq
 have hl2 := run_loadVar_row (P := Tryz.prog) w b 30 30 _ (0, 0) _ r Tryz.underlying30 rfl (info_mach hl)
 refine bodyPost_ret ?_ hd K
 simp [results, h, hp', hq', ho', asAddr, hl2]
set_option maxRecDepth 100000 in
set_option maxHeartbeats 2000000 in
theorem rUntil14 (m : Mc) (n p : Int) (W : World) (hm : m.Ok W) (hs : m.xs.length ≤ 100000) (hy : m.ys.length + n.toNat ≤ 100000 - 1) (n0 : -9223372036854775808 ≤ n) (n1 : n < 9223372036854775808) :
   Calls Tryz.prog 13 #[.agg (mach m), .int .i64 n, .int .u32 p] W fun e W' => ∃ m1, e = .returned (.tuple #[.agg (mach m1), .int .i64 (M.unt p n.toNat (M.st0 m)).2.1, .bool (M.unt p n.toNat (M.st0 m)).2.2]) ∧ Hid (m1.Ok W') ∧ Hid (Sd (M.unt p n.toNat (M.st0 m)).1 m1) ∧ Dn W W' := by
 have hl := hm.len
 obtain ⟨s0, hs0⟩ : ∃ s0, M.st0 m = s0 := ⟨_, rfl⟩
 rw [hs0]
 have om := hm
 have sd : Sd (M.gon 0 s0) m := by rw [← hs0]; exact ⟨rfl, rfl, rfl, rfl, rfl⟩
 have LZ : Hid (s0.z.length ≤ 100000 ∧ s0.ys.length + n.toNat ≤ 100000 - 1) := Lib.hid (by rw [← hs0]; exact ⟨hs, hy⟩)
 have GL := Lib.hid fun i => M.gon_len i s0
 have HD := Lib.hid (Dn.refl W)
 replace om := Lib.hid om
 replace sd := Lib.hid sd
 clear hs hy
 go_enter Tryz.func13, Tryz.ntmps13
 go_wp2_with (first | ((with_reducible refine wpList_box (vs := (mach m)) ?_ ?_ ?_); rfl; rfl; intro b3 w' nn; refine Hid.out ?_))
 refine Lib.hid ?_
 have HL3 : Hid (W.heap.size ≤ b3) := Lib.hid (Blk.hi nn HD.out.size)
 have d' := nn.dn
 replace HD := hT HD d'
 have g3 := nn.blk
 clear d' nn
 go_wp2_with (first | ((with_reducible refine wpList_alloc zeroMach ?_ ?_); rfl; intro b6 w' nn; refine Hid.out ?_))
 refine Lib.hid ?_
 have n3_6 := Lib.hid (nn.ne _ g3.lt)
 have HL6 : Hid (W.heap.size ≤ b6) := Lib.hid (Blk.hi nn HD.out.size)
 have d' := nn.dn
 replace HD := hT HD d'
 replace g3 := g3.dn d'
 have g6 := nn.blk
 clear d' nn
 replace om := Lib.hid (om.out.dn HD.out)
 go_wp2_with fail
 go_loopw [9] (fun d w => ∃ (i : Nat) (x : Mc), d = .int .i64 i ∧ i ≤ M.cntn n.toNat s0 ∧ Dn W w ∧ Blk w b3 30 (mach x) ∧ Blk w b6 30 (mach Mc.zero) ∧ x.Ok w ∧ Sd (M.gon i s0) x ∧ ∀ j, j < i → M.pc (M.gon j s0).c ≠ p) (fun d _ => M.cntn n.toNat s0 - (intOf d).toNat)
 case atStart => exact ⟨0, m, rfl, Nat.zero_le _, HD.out, g3, g6, om.out, sd.out, fun j h => absurd h (Nat.not_lt_zero _)⟩
 case round =>
   clear g3 g6 om sd HD
   obtain ⟨i, x, rfl, hi, hd, g3, g6, ox, sx, hj⟩ := hrel
   have hlx := ox.len
   replace hi := Lib.hid hi
   have HD := Lib.hid hd
   replace ox := Lib.hid ox
   replace sx := Lib.hid sx
   replace hj := Lib.hid hj
   clear hd
   have c32 := g3.halted hlx
   have c16 := g3.word hlx 16 rfl
   have np : (x.c.getD 16 0 == p) = decide (M.pc (M.gon i s0).c = p) := by
     rw [← sx.out.c]
     rfl
   replace np := Lib.hid np
   obtain ⟨pc, hpc⟩ : ∃ pc, x.c.getD 16 0 = pc := ⟨_, rfl⟩
   rw [hpc] at c16 np
   clear hpc
   by_cases hp : M.pc (M.gon i s0).c = p
   · have hb : (pc == p) = true := by rw [np.out]; exact decide_eq_true hp
     have en := Lib.hid (M.unt_is p n.toNat i s0 hi.out hj.out hp)
     clear hp np
     go_wp2_with (first | ((with_reducible refine load33 g3 hlx ?_ ?_ ?_); rfl; rfl) | ((with_reducible refine store33 x hlx g6 zlen ?_ ?_ ?_ ?_); rfl; rfl; rfl; intro w' r' t'; refine Hid.out ?_))
     refine Lib.hid ?_
     replace ox := Lib.hid (ox.out.trn g6 (NoU8.mach _) t')
     replace HD := Lib.hid (HD.out.trn HL6.out t')
     clear t' g6
     go_wp2_with fail
     refine retMII rfl rfl rfl rfl r' hlx ?_ rfl
     rw [en.out]
     exact ⟨x, rfl, ox, sx, HD.out⟩
   · have hb : (pc == p) = false := by rw [np.out]; exact decide_eq_false hp
     clear np
     by_cases hlt : (i : Int) < n
     · cases hh : x.h
       · rw [hh] at c32
         have hg : (M.gon i s0).h = false := by rw [← sx.out.h]; exact hh
         have hi2 := M.cnt_go n.toNat i s0 hi.out hg (by omega)
         have e1 : M.stS x.c x.xs x.ys x.h x.t = M.gon (i + 1) s0 := by
           rw [M.gon_next hg, sx.out.c, sx.out.xs, sx.out.ys, sx.out.h, sx.out.t]; rfl
         have hcl := M.cntn_le n.toNat s0
         have g1 := GL.out i
         have lz := LZ.out
         have CS := Lib.hid fun w => fun (ow : x.Ok w) => rSt x w ow (by rw [sx.out.xs, g1.1]; omega) (by rw [sx.out.ys]; omega)
         rw [e1] at CS
         have w1 : IntKind.i64.wrap ((i : Int) + 1) = (i : Int) + 1 := IntWalk.i64_in _ (by omega)
         replace w1 := Lib.hid w1
         replace hi2 := Lib.hid hi2
         clear e1 hg hh g1 lz hcl
         replace hp := Lib.hid hp
         go_wp2_with (first | ((with_reducible refine load33 g3 hlx ?_ ?_ ?_); rfl; rfl) | (go_at_call 19; (with_reducible refine (CS.out _ ox.out).mono ?_); rintro e w' ⟨x1, rfl, o1, f1, d'⟩; refine Hid.out ?_))
         refine Lib.hid ?_
         have l1 := o1.out.len
         replace g3 := g3.dn d'
         replace g6 := g6.dn d'
         replace HD := hT HD d'
         clear d' ox sx CS c32 c16 hb
         generalize (M.gon (i + 1) s0).k = k1
         generalize (M.gon (i + 1) s0).v = v1
         go_wp2_with (first | ((with_reducible refine store33 x1 l1 g3 hlx ?_ ?_ ?_ ?_); rfl; rfl; rfl; intro w' r' t'; refine Hid.out ?_))
         refine Lib.hid ?_
         replace o1 := Lib.hid (o1.out.trn g3 (NoU8.mach _) t')
         replace g6 := g6.trn t' n3_6.out.symm
         replace HD := Lib.hid (HD.out.trn HL3.out t')
         clear t' g3
         have g3 := r'
         clear r'
         have w2 := w1.out
         go_wp2_with fail
         go_roundw
         case rel =>
           refine ⟨i + 1, x1, by first | rfl | (simp; done) | (congr 1), hi2.out, HD.out, g3, g6, o1.out, f1.out, fun j hj2 => ?_⟩
           rcases Nat.lt_or_ge j i with h | h
           · exact hj.out j h
           · obtain rfl : j = i := by omega
             exact hp.out
         case measure => simp [intOf]; have := hi2.out; omega
       · rw [hh] at c32
         have hg : (M.gon i s0).h = true := by rw [← sx.out.h]; exact hh
         have e := M.cnt_stop hi.out (.inl hg)
         have en := Lib.hid (M.unt_none p n.toNat s0 (fun j hj2 => by
             rcases Nat.lt_or_ge j i with h | h
             · exact hj.out j h
             · obtain rfl : j = i := by omega
               exact hp))
         rw [← e, ← M.gon_cn, ← e] at en
         clear hh hg hp e
         go_wp2_with (first | ((with_reducible refine load33 g3 hlx ?_ ?_ ?_); rfl; rfl) | ((with_reducible refine store33 x hlx g6 zlen ?_ ?_ ?_ ?_); rfl; rfl; rfl; intro w' r' t'; refine Hid.out ?_))
         refine Lib.hid ?_
         replace ox := Lib.hid (ox.out.trn g6 (NoU8.mach _) t')
         replace HD := Lib.hid (HD.out.trn HL6.out t')
         clear t' g6
         go_wp2_with fail
         refine retMII rfl rfl rfl rfl r' hlx ?_ rfl
         rw [en.out]
         exact ⟨x, rfl, ox, sx, HD.out⟩
     · have e := M.cnt_stop (n := n.toNat) hi.out (.inr (by omega))
       have en := Lib.hid (M.unt_none p n.toNat s0 (fun j hj2 => by
           rcases Nat.lt_or_ge j i with h | h
           · exact hj.out j h
           · obtain rfl : j = i := by omega
             exact hp))
       rw [← e, ← M.gon_cn, ← e] at en
       have hlt2 : n ≤ (i : Int) := by omega
       clear hlt hp e
       go_wp2_with (first | ((with_reducible refine load33 g3 hlx ?_ ?_ ?_); rfl; rfl) | ((with_reducible refine store33 x hlx g6 zlen ?_ ?_ ?_ ?_); rfl; rfl; rfl; intro w' r' t'; refine Hid.out ?_))
       refine Lib.hid ?_
       replace ox := Lib.hid (ox.out.trn g6 (NoU8.mach _) t')
       replace HD := Lib.hid (HD.out.trn HL6.out t')
       clear t' g6
       go_wp2_with fail
       refine retMII rfl rfl rfl rfl r' hlx ?_ rfl
       rw [en.out]
       exact ⟨x, rfl, ox, sx, HD.out⟩

set_option maxRecDepth 100000 in
set_option maxHeartbeats 2000000 in
theorem rTraps14 (m : Mc) (n : Int) (W : World) (hm : m.Ok W) (hs : m.xs.length ≤ 100000) (hy : m.ys.length + n.toNat ≤ 100000 - 1) (n0 : -9223372036854775808 ≤ n) (n1 : n < 9223372036854775808) (hn : n.toNat ≤ 90000) :
   Calls Tryz.prog 17 #[.agg (mach m), .int .i64 n] W fun e W' => ∃ v, e = .returned v ∧ Hid (Tr W' W.heap.size v (M.trn n.toNat (M.st0 m))) ∧ Dn W W' := by
 have hl := hm.len
 obtain ⟨s0, hs0⟩ : ∃ s0, M.st0 m = s0 := ⟨_, rfl⟩
 rw [hs0]
 have om := hm
 have sd : Sd (M.gon 0 s0) m := by rw [← hs0]; exact ⟨rfl, rfl, rfl, rfl, rfl⟩
 have LZ : Hid (s0.z.length ≤ 100000 ∧ s0.ys.length + n.toNat ≤ 100000 - 1) := Lib.hid (by rw [← hs0]; exact ⟨hs, hy⟩)
 have GL := Lib.hid fun i => M.gon_len i s0
 have HD := Lib.hid (Dn.refl W)
 replace om := Lib.hid om
 replace sd := Lib.hid sd
 clear hs hy
 go_enter Tryz.func17, Tryz.ntmps17
 go_wp2_with (first | ((with_reducible refine wpList_box (vs := (mach m)) ?_ ?_ ?_); rfl; rfl; intro b2 w' nn; refine Hid.out ?_))
 refine Lib.hid ?_
 have HL2 : Hid (W.heap.size ≤ b2) := Lib.hid (Blk.hi nn HD.out.size)
 have d' := nn.dn
 replace HD := hT HD d'
 have g2 := nn.blk
 clear d' nn
 replace om := Lib.hid (om.out.dn HD.out)
 go_wp2_with fail
 go_loopw [5, 6] (fun u d w => ∃ (i : Nat) (x : Mc), d = .int .i64 i ∧ i ≤ M.cntn n.toNat s0 ∧ Dn W w ∧ Blk w b2 30 (mach x) ∧ x.Ok w ∧ Sd (M.gon i s0) x ∧ Tr w W.heap.size u (M.trn i s0) ∧ u.ownBlock ≠ some b2) (fun _ d _ => M.cntn n.toNat s0 - (intOf d).toNat)
 case atStart => exact ⟨0, m, rfl, Nat.zero_le _, HD.out, g2, om.out, sd.out, Tr.nil _ _, by simp [Value.ownBlock]⟩
 case round =>
   clear g2 om sd HD
   obtain ⟨i, x, rfl, hi, hd, g2, ox, sx, TV, hv2⟩ := hrel
   have hlx := ox.len
   replace hi := Lib.hid hi
   have HD := Lib.hid hd
   replace ox := Lib.hid ox
   replace sx := Lib.hid sx
   replace TV := Lib.hid TV
   replace hv2 := Lib.hid hv2
   clear hd
   have c32 := g2.halted hlx
   by_cases hlt : (i : Int) < n
   · cases hh : x.h
     · rw [hh] at c32
       have hg : (M.gon i s0).h = false := by rw [← sx.out.h]; exact hh
       have hi2 := M.cnt_go n.toNat i s0 hi.out hg (by omega)
       have e1 : M.stS x.c x.xs x.ys x.h x.t = M.gon (i + 1) s0 := by
         rw [M.gon_next hg, sx.out.c, sx.out.xs, sx.out.ys, sx.out.h, sx.out.t]; rfl
       have hcl := M.cntn_le n.toNat s0
       have g1 := GL.out i
       have lz := LZ.out
       have CS := Lib.hid fun w => fun (ow : x.Ok w) => rSt x w ow (by rw [sx.out.xs, g1.1]; omega) (by rw [sx.out.ys]; omega)
       rw [e1] at CS
       have w1 : IntKind.i64.wrap ((i : Int) + 1) = (i : Int) + 1 := IntWalk.i64_in _ (by omega)
       replace w1 := Lib.hid w1
       replace hi2 := Lib.hid hi2
       have tn := Lib.hid (M.trn_next (i := i) (n := n.toNat) hi2.out)
       have F := M.stS_f (c := x.c) (xs := x.xs) (ys := x.ys) (t := x.t) ox.out.core (fw_rng ox.out)
       have e2 := e1
       rw [hh] at e2
       rw [e2] at F
       have HZ := Lib.hid fun h => (F.go h).1
       have tl : Hid ((M.trn i s0).length ≤ 100000 - 1) := Lib.hid (by have h1 := M.trn_len i s0; have h2 := M.cntn_le i s0; have h4 := hn; omega)
       clear e1 e2 F hg hh g1 lz hcl
       go_wp2_with (first | ((with_reducible refine load33 g2 hlx ?_ ?_ ?_); rfl; rfl) | (go_at_call 19; (with_reducible refine (CS.out _ ox.out).mono ?_); rintro e w' ⟨x1, rfl, o1, f1, d'⟩; refine Hid.out ?_))
       refine Lib.hid ?_
       have l1 := o1.out.len
       replace g2 := g2.dn d'
       replace HD := hT HD d'
       replace TV := Lib.hid (TV.out.dn d')
       clear d' ox sx CS c32
       generalize (M.gon (i + 1) s0).k = k1 at tn HZ ⊢
       generalize (M.gon (i + 1) s0).v = v1 at tn HZ ⊢
       go_wp2_with (first | ((with_reducible refine wpList_alloc zeroMach ?_ ?_); rfl; intro b7 w' nn; refine Hid.out ?_))
       refine Lib.hid ?_
       have n2_7 := Lib.hid (nn.ne _ g2.lt)
       have nv7 := Lib.hid (TV.out.ne nn.lo)
       have HL7 : Hid (W.heap.size ≤ b7) := Lib.hid (Blk.hi nn HD.out.size)
       have d' := nn.dn
       replace o1 := Lib.hid (o1.out.dn d')
       replace TV := Lib.hid (TV.out.dn d')
       replace HD := hT HD d'
       replace g2 := g2.dn d'
       have g7 := nn.blk
       clear d' nn
       go_wp2_with (first | ((with_reducible refine wpList_alloc zeroTrap ?_ ?_); rfl; intro b8 w' nn; refine Hid.out ?_))
       refine Lib.hid ?_
       have n2_8 := Lib.hid (nn.ne _ g2.lt)
       have n7_8 := Lib.hid (nn.ne _ g7.lt)
       have nv8 := Lib.hid (TV.out.ne nn.lo)
       have HL8 : Hid (W.heap.size ≤ b8) := Lib.hid (Blk.hi nn HD.out.size)
       have d' := nn.dn
       replace o1 := Lib.hid (o1.out.dn d')
       replace TV := Lib.hid (TV.out.dn d')
       replace HD := hT HD d'
       replace g2 := g2.dn d'
       replace g7 := g7.dn d'
       have g8 := nn.blk
       clear d' nn
       go_wp2_with (first | ((with_reducible refine store33 x1 l1 g7 zlen ?_ ?_ ?_ ?_); rfl; rfl; rfl; intro w' r' t'; refine Hid.out ?_))
       refine Lib.hid ?_
       replace o1 := Lib.hid (o1.out.trn g7 (NoU8.mach _) t')
       replace g2 := g2.trn t' n2_7.out
       replace g8 := g8.trn t' n7_8.out.symm
       replace HD := Lib.hid (HD.out.trn HL7.out t')
       replace TV := Lib.hid (TV.out.trn t' nv7.out)
       clear t' g7
       have g7 := r'
       clear r'
       go_wp2_with (first | ((with_reducible refine storeTrap (k := k1) (v := v1) g8 ?_ ?_ ?_ ?_); rfl; rfl; rfl; intro w' r' t'; refine Hid.out ?_))
       refine Lib.hid ?_
       replace o1 := Lib.hid (o1.out.trn g8 (NoU8.trap _ _) t')
       replace g2 := g2.trn t' n2_8.out
       replace g7 := g7.trn t' n7_8.out
       replace HD := Lib.hid (HD.out.trn HL8.out t')
       replace TV := Lib.hid (TV.out.trn t' nv8.out)
       clear t' g8
       have g8 := r'
       clear r'
       have c8 := g8.cell (i := 0) (v := .int .i64 k1) rfl
       have w2 := w1.out
       by_cases hk : k1 = 0
       · have hb : (k1 != 0) = false := by simp [hk]
         rw [if_pos hk, List.append_nil] at tn
         clear hk
         go_wp2_with (first | ((with_reducible refine load33 g7 l1 ?_ ?_ ?_); rfl; rfl) | ((with_reducible refine store33 x1 l1 g2 hlx ?_ ?_ ?_ ?_); rfl; rfl; rfl; intro w' r' t'; refine Hid.out ?_))
         refine Lib.hid ?_
         replace o1 := Lib.hid (o1.out.trn g2 (NoU8.mach _) t')
         replace HD := Lib.hid (HD.out.trn HL2.out t')
         replace TV := Lib.hid (TV.out.trn t' hv2.out)
         clear t' g2
         have g2 := r'
         clear r'
         go_wp2_with fail
         go_roundw
         case rel => exact ⟨i + 1, x1, by first | rfl | (simp; done) | (congr 1), hi2.out, HD.out, g2, o1.out, f1.out, by rw [tn.out]; exact TV.out, hv2.out⟩
         case measure => simp [intOf]; have := hi2.out; omega
       · have hb : (k1 != 0) = true := by simp [hk]
         rw [if_neg hk] at tn
         clear hk
         go_wp2_with (first | ((with_reducible refine loadTrap g8 ?_ ?_ ?_); rfl; rfl) | ((with_reducible refine wpList_oneT (k := .int .i64 k1) (v := .int .u32 v1) ?_ ?_ ?_); rfl; rfl; intro bt w' nn; refine Hid.out ?_))
         refine Lib.hid ?_
         have TL := Lib.hid (Tr.lit nn)
         have d' := nn.dn
         replace g2 := g2.dn d'
         replace g7 := g7.dn d'
         replace o1 := Lib.hid (o1.out.dn d')
         replace HD := hT HD d'
         replace TV := Lib.hid (TV.out.dn d')
         clear d' nn g8 c8
         have wz := HD.out.size
         go_wp2_with (first | (at_builtin; (with_reducible refine wpList_appT' TV.out TL.out (by have := tl.out; simp only [List.length_cons, List.length_nil]; omega) wz ?_ ?_ ?_); rfl; rfl; intro u1 w9 tv dv hp; refine Hid.out ?_))
         refine Lib.hid ?_
         have nv2 : Hid (u1.ownBlock ≠ some b2) := Lib.hid (fun e => by
             have lt2 := g2.lt
             rcases hp _ e with h | h
             · exact hv2.out h
             · omega)
         replace g2 := g2.dx dv (by simpa using hv2.out)
         replace g7 := g7.dx dv (by simpa using nv7.out)
         replace o1 := Lib.hid (o1.out.nu dv (by intro b hb; exact TV.out.nu (by simpa using hb)))
         replace HD := Lib.hid (HD.out.of_dx dv (by intro b hb; exact (TV.out.lt (by simpa using hb)).1))
         replace tv := Lib.hid tv
         clear dv hp TL TV wz
         go_wp2_with (first | ((with_reducible refine load33 g7 l1 ?_ ?_ ?_); rfl; rfl) | ((with_reducible refine store33 x1 l1 g2 hlx ?_ ?_ ?_ ?_); rfl; rfl; rfl; intro w' r' t'; refine Hid.out ?_))
         refine Lib.hid ?_
         replace o1 := Lib.hid (o1.out.trn g2 (NoU8.mach _) t')
         replace HD := Lib.hid (HD.out.trn HL2.out t')
         replace tv := Lib.hid (tv.out.trn t' nv2.out)
         clear t' g2
         have g2 := r'
         clear r'
         go_wp2_with fail
         go_roundw
         case rel => exact ⟨i + 1, x1, by first | rfl | (simp; done) | (congr 1), hi2.out, HD.out, g2, o1.out, f1.out, by rw [tn.out]; exact tv.out, nv2.out⟩
         case measure => simp [intOf]; have := hi2.out; omega
     · rw [hh] at c32
       have hg : (M.gon i s0).h = true := by rw [← sx.out.h]; exact hh
       have e := Lib.hid (M.cnt_stop hi.out (.inl hg))
       clear hh hg
       go_wp2_with fail
       go_ret
       rw [← M.trn_cnt, ← e.out]
       exact ⟨u5, rfl, TV, HD.out⟩
   · have e := Lib.hid (M.cnt_stop (n := n.toNat) hi.out (.inr (by omega)))
     have hlt2 : n ≤ (i : Int) := by omega
     clear hlt
     go_wp2_with fail
     go_ret
     rw [← M.trn_cnt, ← e.out]
     exact ⟨u5, rfl, TV, HD.out⟩

set_option maxRecDepth 100000 in
set_option maxHeartbeats 2000000 in
theorem rSame14 {W : World} {lo lo2 : Nat} {v u : Value} {l : List (Int × Int)} (hv : Tr W lo v l) (hu : Tr W lo2 u l) (hn : l.length ≤ 100000) : Calls Tryz.prog 15 #[v, u] W fun e W' => e = .returned (.bool true) ∧ Dn W W' := by
 obtain ⟨A, c, rfl⟩ := hv.form
 obtain ⟨B, d, rfl⟩ := hu.form
 have V := Lib.hid hv
 have U := Lib.hid hu
 clear hv hu
 have HD := Lib.hid (Dn.refl W)
 go_enter Tryz.func15, Tryz.ntmps15
 go_wp2_with fail
 go_loopw [5] (fun k w => ∃ i : Nat, i ≤ l.length ∧ k = .int .i64 i ∧ Dn W w) (fun k _ => l.length - (intOf k).toNat)
 case atStart => exact ⟨0, Nat.zero_le _, rfl, HD.out⟩
 case round =>
   clear HD
   obtain ⟨i, hi, rfl, hd⟩ := hrel
   have HD := Lib.hid hd
   clear hd
   by_cases hlt : i < l.length
   · obtain ⟨g, cap, cur, eA, _, gA, xA⟩ := V.out.part hlt
     obtain ⟨g2, cap2, cur2, eB, _, gB, xB⟩ := U.out.part hlt
     cases eA
     cases eB
     replace gA := gA.dn HD.out
     replace gB := gB.dn HD.out
     generalize (l.getD i (0, 0)).1 = k at xA xB
     generalize (l.getD i (0, 0)).2 = t at xA xB
     have q0 := eqTrap_same k t
     rw [Nat.mul_comm 2 i] at xA xB
     have hlt2 : (i : Int) < (l.length : Int) := by omega
     have hi0 : (0 : Int) ≤ (i : Int) := by omega
     have w1 : IntKind.i64.wrap ((i : Int) + 1) = (i : Int) + 1 := IntWalk.i64_in _ (by omega)
     go_wp2_with fail
     refine wp_region_picks [] [0, 1, 2, 3, 4, 5, 6, 7, 8] 0 (by kernel_rfl) (by kernel_rfl) rfl (by kernel_rfl) ?_
     simp only [pickL, List.drop_succ_cons, List.drop_zero, List.take_succ_cons, List.take_zero, List.cons_append, List.nil_append]
     refine ⟨?_, ?_, ?_⟩
     rotate_left 1
     refine ⟨_, calx_pure (by rfl) (fun u => by go_simp; rfl), ?_⟩
     simp only [Act.put, tA, tS, tZ]
     refine ⟨_, calx_pure (by rfl) (fun u => by go_simp; rfl), ?_⟩
     simp only [Act.put, tA, tS, tZ]
     refine ⟨_, calx_pure (by rfl) (fun u => by go_simp; rfl), ?_⟩
     simp only [Act.put, tA, tS, tZ]
     refine ⟨_, calx_cut gA (by simp) (i * 2) 2 xA rfl Tryz.underlying46 rfl infoTrap (by rfl) rfl, ?_⟩
     simp only [Act.put, tA, tS, tZ]
     refine ⟨_, calx_pure (by rfl) (fun u => by go_simp; rfl), ?_⟩
     simp only [Act.put, tA, tS, tZ]
     refine ⟨_, calx_pure (by rfl) (fun u => by go_simp; rfl), ?_⟩
     simp only [Act.put, tA, tS, tZ]
     refine ⟨_, calx_pure (by rfl) (fun u => by go_simp; rfl), ?_⟩
     simp only [Act.put, tA, tS, tZ]
     refine ⟨_, calx_cut gB (by simp) (i * 2) 2 xB rfl Tryz.underlying46 rfl infoTrap (by rfl) rfl, ?_⟩
     simp only [Act.put, tA, tS, tZ]
     refine ⟨.bool false, calx_pure (by rfl) (fun u => by go_simp), ?_⟩
     simp only [Act.put, tA, tS, tZ]
     exact rfl
     refine wpX_end (by kernel_rfl) fun w' dx => NoPanic.normal ?_
     replace HD := Lib.hid (HD.out.trans ((Dn.drawn wr).trans dx))
     clear dx gA gB q0
     go_wp2_with fail
     go_roundw
     case rel => exact ⟨i + 1, by omega, by first | rfl | (simp; done) | (congr 1), HD.out⟩
     case measure => simp [intOf]; omega
   · have hge : (l.length : Int) ≤ (i : Int) := by omega
     go_wp2_with fail
     go_ret
     exact ⟨rfl, HD.out⟩

theorem rnRunL (m : Mc) (n : Int) (s : M.SRes) (es : M.st0 m = s) (N : Nat) (eN : M.cntn n.toNat s = N) (r : M.SRes) (er : M.gon n.toNat s = r) (W : World) (hm : m.Ok W) (hs : m.xs.length ≤ 90000) (hy : m.ys.length + n.toNat ≤ 90000) (n0 : -9223372036854775808 ≤ n) (n1 : n < 9223372036854775808) (T : Env2 W) :
   Calls Tryz.prog 10 #[.agg (mach m), .int .i64 n] W fun e W' => ∃ m1, e = .returned (.tuple #[.agg (mach m1), .int .i64 N]) ∧ Hid (m1.Ok W') ∧ Hid (Sd r m1) ∧ Dn W W' := by
 subst es eN er
 exact rnRun m n W hm (by omega) (by omega) n0 n1 T
theorem rRunL (m : Mc) (n : Int) (s : M.SRes) (es : M.st0 m = s) (N : Nat) (eN : M.cntn n.toNat s = N) (r : M.SRes) (er : M.gon n.toNat s = r) (W : World) (hm : m.Ok W) (hs : m.xs.length ≤ 90000) (hy : m.ys.length + n.toNat ≤ 90000) (n0 : -9223372036854775808 ≤ n) (n1 : n < 9223372036854775808) :
   Calls Tryz.prog 11 #[.agg (mach m), .int .i64 n] W fun e W' => ∃ m1, e = .returned (.tuple #[.agg (mach m1), .int .i64 N]) ∧ Hid (m1.Ok W') ∧ Hid (Sd r m1) ∧ Dn W W' := by
 subst es eN er
 exact rRun14 m n W hm (by omega) (by omega) n0 n1
theorem rnUntilL (m : Mc) (n p : Int) (s : M.SRes) (es : M.st0 m = s) (N : Nat) (eN : (M.unt p n.toNat s).2.1 = N) (b : Bool) (eb : (M.unt p n.toNat s).2.2 = b) (r : M.SRes) (er : (M.unt p n.toNat s).1 = r) (W : World) (hm : m.Ok W) (hs : m.xs.length ≤ 90000) (hy : m.ys.length + n.toNat ≤ 90000) (n0 : -9223372036854775808 ≤ n) (n1 : n < 9223372036854775808) (T : Env2 W) :
   Calls Tryz.prog 12 #[.agg (mach m), .int .i64 n, .int .u32 p] W fun e W' => ∃ m1, e = .returned (.tuple #[.agg (mach m1), .int .i64 N, .bool b]) ∧ Hid (m1.Ok W') ∧ Hid (Sd r m1) ∧ Dn W W' := by
 subst es eN eb er
 exact rnUntil m n p W hm (by omega) (by omega) n0 n1 T
theorem rUntilL (m : Mc) (n p : Int) (s : M.SRes) (es : M.st0 m = s) (N : Nat) (eN : (M.unt p n.toNat s).2.1 = N) (b : Bool) (eb : (M.unt p n.toNat s).2.2 = b) (r : M.SRes) (er : (M.unt p n.toNat s).1 = r) (W : World) (hm : m.Ok W) (hs : m.xs.length ≤ 90000) (hy : m.ys.length + n.toNat ≤ 90000) (n0 : -9223372036854775808 ≤ n) (n1 : n < 9223372036854775808) :
   Calls Tryz.prog 13 #[.agg (mach m), .int .i64 n, .int .u32 p] W fun e W' => ∃ m1, e = .returned (.tuple #[.agg (mach m1), .int .i64 N, .bool b]) ∧ Hid (m1.Ok W') ∧ Hid (Sd r m1) ∧ Dn W W' := by
 subst es eN eb er
 exact rUntil14 m n p W hm (by omega) (by omega) n0 n1
theorem rnTrapsL (m : Mc) (n : Int) (s : M.SRes) (es : M.st0 m = s) (l : List (Int × Int)) (el : M.trn n.toNat s = l) (W : World) (hm : m.Ok W) (hs : m.xs.length ≤ 90000) (hy : m.ys.length + n.toNat ≤ 90000) (n0 : -9223372036854775808 ≤ n) (n1 : n < 9223372036854775808) (T : Env2 W) :
   Calls Tryz.prog 16 #[.agg (mach m), .int .i64 n] W fun e W' => ∃ v, e = .returned v ∧ Hid (Tr W' W.heap.size v l) ∧ Dn W W' := by
 subst es el
 exact rnTraps m n W hm (by omega) (by omega) (by omega) n0 n1 T
theorem rTrapsL (m : Mc) (n : Int) (s : M.SRes) (es : M.st0 m = s) (l : List (Int × Int)) (el : M.trn n.toNat s = l) (W : World) (hm : m.Ok W) (hs : m.xs.length ≤ 90000) (hy : m.ys.length + n.toNat ≤ 90000) (n0 : -9223372036854775808 ≤ n) (n1 : n < 9223372036854775808) :
   Calls Tryz.prog 17 #[.agg (mach m), .int .i64 n] W fun e W' => ∃ v, e = .returned v ∧ Hid (Tr W' W.heap.size v l) ∧ Dn W W' := by
 subst es el
 exact rTraps14 m n W hm (by omega) (by omega) n0 n1 (by omega)

theorem Env.two {W : World} (h : Env W) : Env2 W := ⟨h.isa, h.csr⟩
section
variable (m : Mc) (c xs ys : List Int) (h : Bool) (t : Int) (hc : m.c = c) (hx : m.xs = xs) (hy : m.ys = ys) (hh : m.h = h) (ht : m.t = t) (r : M.SRes) (k v : Int) (hk : r.k = k) (hv : r.v = v) (hs : xs.length ≤ 100000) (hl : ys.length ≤ 100000) (W : World) (hm : m.Ok W) (T : Env2 W)
include hc hx hy hh ht hk hv hs hl hm T
end
theorem rsame_s {m1 m2 : Mc} {r1 r2 : M.SRes} (W : World) (o1 : m1.Ok W) (o2 : m2.Ok W) (f1 : Sd r1 m1) (f2 : Sd r2 m2) (ec : r1.c = r2.c) (ez : r1.z = r2.z) (et : r1.t = r2.t) (ey : r1.ys = r2.ys) (eh : r1.h = r2.h) (hz : r1.z.length ≤ 100000) (hy : r1.ys.length ≤ 100000) :
   Calls Tryz.prog 14 #[.agg (mach m1), .agg (mach m2)] W fun e W' => e = .returned (.bool true) ∧ Dn W W' :=
 rsame m1 m2 W o1 o2 (by rw [f1.xs]; exact hz) (by rw [f1.ys]; exact hy) (by rw [f1.c, f2.c, ec]) (by rw [f1.xs, f2.xs, ez]) (by rw [f1.t, f2.t, et]) (by rw [f1.ys, f2.ys, ey]) (by rw [f1.h, f2.h, eh])
section
variable {ops : Array Oper} {rest : List Oper} {dst : Option Tmp} {x y : Operand} {ty : TypeId} {pos : String} {aft : Array Edge} {gd : Option (Nat × Bool)} {a : Act} {w : World} {Q : Exit → Act → World → Prop}
theorem wpList_makeS {n : Nat} (hn : n ≤ 100000) (hw : Region.wanted ⟨dst, .makeSlice 27 x y, ty, pos, aft, gd⟩ (yielded ops a.tmps) = true) (hx : a.eval x = .int .i64 (n : Int)) (hy : a.eval y = .int .i64 (n : Int))
   (h : ∀ b w', New w w' b 5 (ints .u8 (List.replicate n 0)) → wpList Tryz.prog ops Q rest (a.put dst (.slice (some ⟨b, 0, none⟩) n n)) w') :
   wpList Tryz.prog ops Q (⟨dst, .makeSlice 27 x y, ty, pos, aft, gd⟩ :: rest) a w := wpList_make8 hn hw hx hy (h _ _ (New.mk' w _ _))
end
theorem st_core_lit {c : List Int} (h : (decide (c.length = 29) && c.all fun x => decide (0 ≤ x ∧ x < 4294967296)) = true) : M.Core c := by
 simp only [Bool.and_eq_true, decide_eq_true_eq, List.all_eq_true] at h
 exact M.core_of h.1 h.2

def awR (g : Nat) (c : List Int) : Mc := ⟨c, some ⟨g, 0, none⟩, 12, [0, 0, 0, 80, 0, 0, 0, 0, 0, 0, 0, 96], 0, none, 0, [], false⟩
def rwX : List Int := [0, 0, 0, 80, 0, 0, 0, 0, 0, 0, 0, 96]
def rwC1 : List Int := [0, 0, 0, 0, 0, 0, 0, 0, 0, 0, 0, 0, 0, 0, 0, 0, 0, 1, 0, 0, 0, 0, 0, 0, 0, 0, 0, 0, 0]
def rwCA : List Int := [0, 0, 0, 0, 0, 0, 0, 0, 0, 0, 0, 0, 0, 0, 0, 0, 0, 1, 0, 0, 0, 8, 0, 0, 0, 0, 0, 0, 0]
def rw0 : M.SRes := ⟨[0, 0, 0, 0, 0, 0, 0, 0, 0, 0, 0, 0, 0, 0, 0, 0, 0, 1, 0, 0, 0, 8, 0, 0, 0, 0, 0, 0, 0], rwX, [], false, 0, 0, 0⟩
def rw1 : M.SRes := ⟨[0, 0, 0, 0, 0, 0, 0, 0, 0, 0, 0, 0, 0, 0, 0, 0, 8, 5, 0, 5, 0, 8, 0, 0, 0, 0, 0, 0, 0], rwX, [], false, 1, 5, 0⟩
def rw2 : M.SRes := ⟨[0, 0, 0, 0, 0, 0, 0, 0, 0, 0, 0, 0, 0, 0, 0, 0, 12, 5, 0, 5, 0, 8, 0, 0, 0, 0, 0, 0, 0], rwX, [], true, 2, 0, 0⟩
theorem rw_g9 : M.gon 9 rw0 = rw2 := by kernel_rfl
theorem rw_g1 : M.gon 1 rw0 = rw1 := by kernel_rfl
theorem rw_c9 : M.cntn 9 rw0 = 2 := by kernel_rfl
theorem rw_c1 : M.cntn 1 rw0 = 1 := by kernel_rfl
theorem rw_t9 : M.trn 9 rw0 = [(5, 0)] := by kernel_rfl
theorem rw_u8 : M.unt 8 9 rw0 = (rw1, 1, true) := by kernel_rfl
theorem rw_u44 : M.unt 44 9 rw0 = (rw2, 2, false) := by kernel_rfl
theorem rwCA_core : M.Core rwCA := st_core_lit (by decide)
theorem awR_ok {w : World} {g : Nat} (hb : Bs w (some ⟨g, 0, none⟩) 12 rwX) : (awR g rwCA).Ok w := ⟨rwCA_core, hb, bs_nil w, (by decide : (0 : Int) ≤ 0), (by decide : (0 : Int) < 18446744073709551616)⟩
theorem info8r : (Tryz.prog.info? 5).map (·.size) = some 1 := by kernel_rfl
theorem Tr.single {w : World} {lo : Nat} {v : Value} {k t : Int} (h : Tr w lo v [(k, t)]) : ∃ g cap cur, v = .slice (some ⟨g, 0, none⟩) 1 cap ∧ 1 ≤ cap ∧ Blk w g 46 cur ∧ cur[0]? = some (.int .i64 k) := by
 obtain ⟨g, cap, cur, e, h1, g1, x1⟩ := h.part (i := 0) (by simp)
 refine ⟨g, cap, cur, e, h1, g1, ?_⟩
 have h0 : (cur.extract (2 * 0) (2 * 0 + 2))[0]? = some (.int .i64 k) := by rw [x1]; rfl
 rw [Array.getElem?_extract] at h0
 split at h0
 · simpa using h0
 · cases h0
set_option maxRecDepth 100000 in
set_option maxHeartbeats 2000000 in
theorem awakeR (W : World) (T : Env2 W) : Calls Tryz.prog 8 #[] W fun e W' => e = .returned (.bool true) ∧ Dn W W' := by
 have HD := Lib.hid (Dn.refl W)
 go_enter Tryz.func8, Tryz.ntmps8
 go_wp2_with (first | ((with_reducible refine wpList_makeS (n := 12) (by decide) ?_ ?_ ?_ ?_); rfl; rfl; rfl; intro b_g w' nn; refine Hid.out ?_))
 refine Lib.hid ?_
 have HL_g : Hid (W.heap.size ≤ b_g) := Lib.hid (Blk.hi nn HD.out.size)
 have d' := nn.dn
 replace HD := hT HD d'
 have g := nn.blk
 clear d' nn
 go_wp2_with (first | ((with_reducible refine wpList_alloc zeroMach ?_ ?_); rfl; intro b_v1 w' nn; refine Hid.out ?_))
 refine Lib.hid ?_
 have n_g_v1 := Lib.hid (nn.ne _ g.lt)
 have HL_v1 : Hid (W.heap.size ≤ b_v1) := Lib.hid (Blk.hi nn HD.out.size)
 have d' := nn.dn
 replace g := g.dn d'
 replace HD := hT HD d'
 have v1 := nn.blk
 clear d' nn
 go_wp2_with (first | ((with_reducible refine store33 (awR b_g (zeros 29)) rfl v1 zlen ?_ ?_ ?_ ?_); rfl; rfl; rfl; intro w' r' t'; refine Hid.out ?_))
 refine Lib.hid ?_
 replace g := g.trn t' n_g_v1.out
 replace HD := Lib.hid (HD.out.trn HL_v1.out t')
 clear t' v1
 have v1 := r'
 clear r'
 go_wp2_with (first | ((with_reducible refine storeWord (i := 17) (u := 1) v1 rfl ?_ ?_ ?_ ?_ ?_); rfl; rfl; rfl; rfl; intro w' r' t'; refine Hid.out ?_))
 refine Lib.hid ?_
 replace g := g.trn t' n_g_v1.out
 replace r' : Blk w' b_v1 30 (mach (awR b_g rwC1)) := r'
 replace HD := Lib.hid (HD.out.trn HL_v1.out t')
 clear t' v1
 have v1 := r'
 clear r'
 go_wp2_with (first | ((with_reducible refine storeWord (i := 21) (u := 8) v1 rfl ?_ ?_ ?_ ?_ ?_); rfl; rfl; rfl; rfl; intro w' r' t'; refine Hid.out ?_))
 refine Lib.hid ?_
 replace g := g.trn t' n_g_v1.out
 replace r' : Blk w' b_v1 30 (mach (awR b_g rwCA)) := r'
 replace HD := Lib.hid (HD.out.trn HL_v1.out t')
 clear t' v1
 have v1 := r'
 clear r'
 have kk : w'.cell? ⟨b_v1, 29, none⟩ = some (.slice (some ⟨b_g, 0, none⟩) 12 12) := v1.mem (m := awR b_g rwCA) rfl
 go_wp2_with (first | ((with_reducible refine wpList_store_int (i := 3) (u := 80) (Blk.row g) info8r ?_ ?_ ?_ ?_ ?_); rfl; rfl; rfl; (exact (by decide : 3 < (List.replicate 12 (0 : Int)).length)); intro w' r' t'; refine Hid.out ?_))
 refine Lib.hid ?_
 replace v1 := v1.trn t' n_g_v1.out.symm
 replace HD := Lib.hid (HD.out.trn HL_g.out t')
 clear t' g kk
 have g := Row.blk r'
 clear r'
 have kk : w'.cell? ⟨b_v1, 29, none⟩ = some (.slice (some ⟨b_g, 0, none⟩) 12 12) := v1.mem (m := awR b_g rwCA) rfl
 go_wp2_with (first | ((with_reducible refine wpList_store_int (i := 11) (u := 96) (Blk.row g) info8r ?_ ?_ ?_ ?_ ?_); rfl; rfl; rfl; (exact (by decide : 11 < ((List.replicate 12 (0 : Int)).set 3 80).length)); intro w' r' t'; refine Hid.out ?_))
 refine Lib.hid ?_
 replace v1 := v1.trn t' n_g_v1.out.symm
 replace HD := Lib.hid (HD.out.trn HL_g.out t')
 have oz : Hid (Bs w' (some ⟨b_g, 0, none⟩) 12 rwX) := Lib.hid (Bs.of_row (xs := rwX) r' (fun y hy => by simp [rwX] at hy; omega))
 clear t' r' g kk
 have C9 := Lib.hid fun (w : World) (hb : Bs w (some ⟨b_g, 0, none⟩) 12 rwX) (t : Env2 w) => rnRunL (awR b_g rwCA) 9 rw0 rfl 2 rw_c9 rw2 rw_g9 w (awR_ok hb) (Nat.le_of_ble_eq_true rfl) (Nat.le_of_ble_eq_true rfl) (by decide) (by decide) t
 have C1 := Lib.hid fun (w : World) (hb : Bs w (some ⟨b_g, 0, none⟩) 12 rwX) (t : Env2 w) => rnRunL (awR b_g rwCA) 1 rw0 rfl 1 rw_c1 rw1 rw_g1 w (awR_ok hb) (Nat.le_of_ble_eq_true rfl) (Nat.le_of_ble_eq_true rfl) (by decide) (by decide) t
 have C0 := Lib.hid fun (w : World) (hb : Bs w (some ⟨b_g, 0, none⟩) 12 rwX) (t : Env2 w) => rnRunL (awR b_g rwCA) (-1) rw0 rfl 0 rfl rw0 rfl w (awR_ok hb) (Nat.le_of_ble_eq_true rfl) (Nat.le_of_ble_eq_true rfl) (by decide) (by decide) t
 have Ct := Lib.hid fun (w : World) (hb : Bs w (some ⟨b_g, 0, none⟩) 12 rwX) (t : Env2 w) => rnTrapsL (awR b_g rwCA) 9 rw0 rfl [(5, 0)] rw_t9 w (awR_ok hb) (Nat.le_of_ble_eq_true rfl) (Nat.le_of_ble_eq_true rfl) (by decide) (by decide) t
 have U8 := Lib.hid fun (w : World) (hb : Bs w (some ⟨b_g, 0, none⟩) 12 rwX) (t : Env2 w) => rnUntilL (awR b_g rwCA) 9 8 rw0 rfl 1 (by rw [show (9 : Int).toNat = 9 from rfl, rw_u8]) true (by rw [show (9 : Int).toNat = 9 from rfl, rw_u8]) rw1 (by rw [show (9 : Int).toNat = 9 from rfl, rw_u8]) w (awR_ok hb) (Nat.le_of_ble_eq_true rfl) (Nat.le_of_ble_eq_true rfl) (by decide) (by decide) t
 have U44 := Lib.hid fun (w : World) (hb : Bs w (some ⟨b_g, 0, none⟩) 12 rwX) (t : Env2 w) => rnUntilL (awR b_g rwCA) 9 44 rw0 rfl 2 (by rw [show (9 : Int).toNat = 9 from rfl, rw_u44]) false (by rw [show (9 : Int).toNat = 9 from rfl, rw_u44]) rw2 (by rw [show (9 : Int).toNat = 9 from rfl, rw_u44]) w (awR_ok hb) (Nat.le_of_ble_eq_true rfl) (Nat.le_of_ble_eq_true rfl) (by decide) (by decide) t
 go_wp2_with (first | ((with_reducible refine load33 v1 rfl ?_ ?_ ?_); rfl; rfl) | (go_at_call 10; (with_reducible refine (C9.out _ oz.out (T.dn HD.out)).mono ?_); rintro e w' ⟨ma, rfl, oma, ema, d'⟩; refine Hid.out ?_))
 refine Lib.hid ?_
 replace v1 := v1.dn d'
 replace oz := Lib.hid (oz.out.dn d')
 replace HD := hT HD d'
 clear d'
 have lma := oma.out.len
 have nma16 : ma.c.getD 16 0 = 12 := by rw [ema.out.c]; rfl
 have nma30 : ma.t = 2 := ema.out.t
 have nma32 : ma.h = true := ema.out.h
 go_wp2_with (first | ((with_reducible refine wpList_alloc zeroMach ?_ ?_); rfl; intro b_v2 w' nn; refine Hid.out ?_))
 refine Lib.hid ?_
 have n_v1_v2 := Lib.hid (nn.ne _ v1.lt)
 have HL_v2 : Hid (W.heap.size ≤ b_v2) := Lib.hid (Blk.hi nn HD.out.size)
 have d' := nn.dn
 replace v1 := v1.dn d'
 replace oz := Lib.hid (oz.out.dn d')
 replace HD := hT HD d'
 have v2 := nn.blk
 clear d' nn
 go_wp2_with (first | ((with_reducible refine store33 ma lma v2 zlen ?_ ?_ ?_ ?_); rfl; rfl; rfl; intro w' r' t'; refine Hid.out ?_))
 refine Lib.hid ?_
 replace oz := Lib.hid (oz.out.trn v2 (NoU8.mach _) t')
 replace v1 := v1.trn t' n_v1_v2.out
 replace HD := Lib.hid (HD.out.trn HL_v2.out t')
 clear t' v2
 have v2 := r'
 clear r'
 go_wp2_with (first | ((with_reducible refine load33 v1 rfl ?_ ?_ ?_); rfl; rfl) | (go_at_call 10; (with_reducible refine (C1.out _ oz.out (T.dn HD.out)).mono ?_); rintro e w' ⟨mb, rfl, omb, emb, d'⟩; refine Hid.out ?_))
 refine Lib.hid ?_
 replace v1 := v1.dn d'
 replace v2 := v2.dn d'
 replace oz := Lib.hid (oz.out.dn d')
 replace HD := hT HD d'
 clear d'
 have lmb := omb.out.len
 have nmb16 : mb.c.getD 16 0 = 8 := by rw [emb.out.c]; rfl
 go_wp2_with (first | ((with_reducible refine wpList_alloc zeroMach ?_ ?_); rfl; intro b_v4 w' nn; refine Hid.out ?_))
 refine Lib.hid ?_
 have n_v1_v4 := Lib.hid (nn.ne _ v1.lt)
 have n_v2_v4 := Lib.hid (nn.ne _ v2.lt)
 have HL_v4 : Hid (W.heap.size ≤ b_v4) := Lib.hid (Blk.hi nn HD.out.size)
 have d' := nn.dn
 replace v1 := v1.dn d'
 replace v2 := v2.dn d'
 replace oz := Lib.hid (oz.out.dn d')
 replace HD := hT HD d'
 have v4 := nn.blk
 clear d' nn
 go_wp2_with (first | ((with_reducible refine store33 mb lmb v4 zlen ?_ ?_ ?_ ?_); rfl; rfl; rfl; intro w' r' t'; refine Hid.out ?_))
 refine Lib.hid ?_
 replace oz := Lib.hid (oz.out.trn v4 (NoU8.mach _) t')
 replace v1 := v1.trn t' n_v1_v4.out
 replace v2 := v2.trn t' n_v2_v4.out
 replace HD := Lib.hid (HD.out.trn HL_v4.out t')
 clear t' v4
 have v4 := r'
 clear r'
 go_wp2_with (first | ((with_reducible refine load33 v1 rfl ?_ ?_ ?_); rfl; rfl) | (go_at_call 16; (with_reducible refine (Ct.out _ oz.out (T.dn HD.out)).mono ?_); rintro e w' ⟨vt, rfl, tv, d'⟩; refine Hid.out ?_))
 refine Lib.hid ?_
 replace v1 := v1.dn d'
 replace v2 := v2.dn d'
 replace v4 := v4.dn d'
 replace oz := Lib.hid (oz.out.dn d')
 replace HD := hT HD d'
 clear d'
 obtain ⟨b_gt, cap, cur, rfl, hcap, gt, xt⟩ := tv.out.single
 clear tv
 go_wp2_with (first | ((with_reducible refine load33 v1 rfl ?_ ?_ ?_); rfl; rfl) | (go_at_call 12; (with_reducible refine (U8.out _ oz.out (T.dn HD.out)).mono ?_); rintro e w' ⟨mc, rfl, omc, emc, d'⟩; refine Hid.out ?_))
 refine Lib.hid ?_
 replace v1 := v1.dn d'
 replace v2 := v2.dn d'
 replace v4 := v4.dn d'
 replace gt := gt.dn d'
 replace oz := Lib.hid (oz.out.dn d')
 replace HD := hT HD d'
 clear d'
 have lmc := omc.out.len
 have nmc16 : mc.c.getD 16 0 = 8 := by rw [emc.out.c]; rfl
 go_wp2_with (first | ((with_reducible refine wpList_alloc zeroMach ?_ ?_); rfl; intro b_v7 w' nn; refine Hid.out ?_))
 refine Lib.hid ?_
 have n_v1_v7 := Lib.hid (nn.ne _ v1.lt)
 have n_v2_v7 := Lib.hid (nn.ne _ v2.lt)
 have n_v4_v7 := Lib.hid (nn.ne _ v4.lt)
 have n_gt_v7 := Lib.hid (nn.ne _ gt.lt)
 have HL_v7 : Hid (W.heap.size ≤ b_v7) := Lib.hid (Blk.hi nn HD.out.size)
 have d' := nn.dn
 replace v1 := v1.dn d'
 replace v2 := v2.dn d'
 replace v4 := v4.dn d'
 replace gt := gt.dn d'
 replace oz := Lib.hid (oz.out.dn d')
 replace HD := hT HD d'
 have v7 := nn.blk
 clear d' nn
 go_wp2_with (first | ((with_reducible refine store33 mc lmc v7 zlen ?_ ?_ ?_ ?_); rfl; rfl; rfl; intro w' r' t'; refine Hid.out ?_))
 refine Lib.hid ?_
 replace oz := Lib.hid (oz.out.trn v7 (NoU8.mach _) t')
 replace v1 := v1.trn t' n_v1_v7.out
 replace v2 := v2.trn t' n_v2_v7.out
 replace v4 := v4.trn t' n_v4_v7.out
 replace gt := gt.trn t' n_gt_v7.out
 replace HD := Lib.hid (HD.out.trn HL_v7.out t')
 clear t' v7
 have v7 := r'
 clear r'
 go_wp2_with (first | ((with_reducible refine load33 v1 rfl ?_ ?_ ?_); rfl; rfl) | (go_at_call 12; (with_reducible refine (U44.out _ oz.out (T.dn HD.out)).mono ?_); rintro e w' ⟨md, rfl, omd, emd, d'⟩; refine Hid.out ?_))
 refine Lib.hid ?_
 replace v1 := v1.dn d'
 replace v2 := v2.dn d'
 replace v4 := v4.dn d'
 replace gt := gt.dn d'
 replace v7 := v7.dn d'
 replace oz := Lib.hid (oz.out.dn d')
 replace HD := hT HD d'
 clear d'
 have lmd := omd.out.len
 go_wp2_with (first | ((with_reducible refine wpList_alloc zeroMach ?_ ?_); rfl; intro b_v10 w' nn; refine Hid.out ?_))
 refine Lib.hid ?_
 have n_v1_v10 := Lib.hid (nn.ne _ v1.lt)
 have n_v2_v10 := Lib.hid (nn.ne _ v2.lt)
 have n_v4_v10 := Lib.hid (nn.ne _ v4.lt)
 have n_gt_v10 := Lib.hid (nn.ne _ gt.lt)
 have n_v7_v10 := Lib.hid (nn.ne _ v7.lt)
 have HL_v10 : Hid (W.heap.size ≤ b_v10) := Lib.hid (Blk.hi nn HD.out.size)
 have d' := nn.dn
 replace v1 := v1.dn d'
 replace v2 := v2.dn d'
 replace v4 := v4.dn d'
 replace gt := gt.dn d'
 replace v7 := v7.dn d'
 replace oz := Lib.hid (oz.out.dn d')
 replace HD := hT HD d'
 have v10 := nn.blk
 clear d' nn
 go_wp2_with (first | ((with_reducible refine store33 md lmd v10 zlen ?_ ?_ ?_ ?_); rfl; rfl; rfl; intro w' r' t'; refine Hid.out ?_))
 refine Lib.hid ?_
 replace oz := Lib.hid (oz.out.trn v10 (NoU8.mach _) t')
 replace v1 := v1.trn t' n_v1_v10.out
 replace v2 := v2.trn t' n_v2_v10.out
 replace v4 := v4.trn t' n_v4_v10.out
 replace gt := gt.trn t' n_gt_v10.out
 replace v7 := v7.trn t' n_v7_v10.out
 replace HD := Lib.hid (HD.out.trn HL_v10.out t')
 clear t' v10
 have v10 := r'
 clear r'
 go_wp2_with (first | ((with_reducible refine load33 v1 rfl ?_ ?_ ?_); rfl; rfl) | (go_at_call 10; (with_reducible refine (C0.out _ oz.out (T.dn HD.out)).mono ?_); rintro e w' ⟨me, rfl, ome, eme, d'⟩; refine Hid.out ?_))
 refine Lib.hid ?_
 replace v1 := v1.dn d'
 replace v2 := v2.dn d'
 replace v4 := v4.dn d'
 replace gt := gt.dn d'
 replace v7 := v7.dn d'
 replace v10 := v10.dn d'
 replace oz := Lib.hid (oz.out.dn d')
 replace HD := hT HD d'
 clear d'
 have lme := ome.out.len
 go_wp2_with (first | ((with_reducible refine wpList_alloc zeroMach ?_ ?_); rfl; intro b_v13 w' nn; refine Hid.out ?_))
 refine Lib.hid ?_
 have n_v1_v13 := Lib.hid (nn.ne _ v1.lt)
 have n_v2_v13 := Lib.hid (nn.ne _ v2.lt)
 have n_v4_v13 := Lib.hid (nn.ne _ v4.lt)
 have n_gt_v13 := Lib.hid (nn.ne _ gt.lt)
 have n_v7_v13 := Lib.hid (nn.ne _ v7.lt)
 have n_v10_v13 := Lib.hid (nn.ne _ v10.lt)
 have HL_v13 : Hid (W.heap.size ≤ b_v13) := Lib.hid (Blk.hi nn HD.out.size)
 have d' := nn.dn
 replace v1 := v1.dn d'
 replace v2 := v2.dn d'
 replace v4 := v4.dn d'
 replace gt := gt.dn d'
 replace v7 := v7.dn d'
 replace v10 := v10.dn d'
 replace oz := Lib.hid (oz.out.dn d')
 replace HD := hT HD d'
 have v13 := nn.blk
 clear d' nn
 go_wp2_with (first | ((with_reducible refine store33 me lme v13 zlen ?_ ?_ ?_ ?_); rfl; rfl; rfl; intro w' r' t'; refine Hid.out ?_))
 refine Lib.hid ?_
 replace oz := Lib.hid (oz.out.trn v13 (NoU8.mach _) t')
 replace v1 := v1.trn t' n_v1_v13.out
 replace v2 := v2.trn t' n_v2_v13.out
 replace v4 := v4.trn t' n_v4_v13.out
 replace gt := gt.trn t' n_gt_v13.out
 replace v7 := v7.trn t' n_v7_v13.out
 replace v10 := v10.trn t' n_v10_v13.out
 replace HD := Lib.hid (HD.out.trn HL_v13.out t')
 clear t' v13
 have v13 := r'
 clear r'
 have ct := gt.cell (i := 0) (v := .int .i64 5) xt
 go_upto_region 12 with (fail)
 try simp only [List.append]
 have ck0 := v2.halted lma
 rw [nma32] at ck0
 have ck1 := v2.time lma
 rw [nma30] at ck1
 have ck2 := v2.word lma 16 rfl
 rw [nma16] at ck2
 have ck3 := v4.word lmb 16 rfl
 rw [nmb16] at ck3
 have ck4 := v7.word lmc 16 rfl
 rw [nmc16] at ck4
 go_wp2_with fail
 go_ret
 exact ⟨rfl, HD.out⟩

namespace M
def bare (s : SRes) : SRes := ⟨s.c, s.z, s.ys, s.h, s.t, 0, 0⟩
theorem nx_bare (s : SRes) : nx (bare s) = nx s := rfl
theorem gon_bare (n : Nat) (s : SRes) : bare (gon n (bare s)) = bare (gon n s) := by
 cases n with
 | zero => rfl
 | succ n =>
   cases h : s.h
   · rw [gon_s h, gon_s (s := bare s) h, nx_bare]
   · rw [gon_h h, gon_h (s := bare s) h]; rfl
theorem cntn_bare (n : Nat) (s : SRes) : cntn n (bare s) = cntn n s := by
 cases n with
 | zero => rfl
 | succ n =>
   cases h : s.h
   · rw [cntn_s h, cntn_s (s := bare s) h, nx_bare]
   · rw [cntn_h h, cntn_h (s := bare s) h]
theorem trn_bare (n : Nat) (s : SRes) : trn n (bare s) = trn n s := by
 cases n with
 | zero => rfl
 | succ n =>
   cases h : s.h
   · rw [trn_s h, trn_s (s := bare s) h, nx_bare]
   · rw [trn_h h, trn_h (s := bare s) h]
theorem gon_one {s : SRes} (h : s.h = false) : gon 1 s = nx s ∧ cntn 1 s = 1 ∧ trn 1 s = (if (nx s).k = 0 then [] else [((nx s).k, (nx s).v)]) := by
 rw [gon_s h, cntn_s h, trn_s h]
 exact ⟨rfl, rfl, List.append_nil _⟩
end M
theorem st0_bare {r : M.SRes} {m : Mc} (h : Sd r m) : M.st0 m = M.bare r := by
 unfold M.st0 M.bare
 rw [h.c, h.xs, h.ys, h.h, h.t]
theorem Sd.of_bare {r r' : M.SRes} {m : Mc} (h : Sd r m) (e : M.bare r = M.bare r') : Sd r' m :=
 ⟨h.c.trans (by have h1 := congrArg M.SRes.c e; exact h1), h.xs.trans (by have h1 := congrArg M.SRes.z e; exact h1), h.t.trans (by have h1 := congrArg M.SRes.t e; exact h1), h.ys.trans (by have h1 := congrArg M.SRes.ys e; exact h1), h.h.trans (by have h1 := congrArg M.SRes.h e; exact h1)⟩
theorem Sd.self (m : Mc) : Sd (M.st0 m) m := ⟨rfl, rfl, rfl, rfl, rfl⟩
theorem rnRunB (m : Mc) (n : Int) (s : M.SRes) (fs : Sd s m) (N : Nat) (eN : M.cntn n.toNat s = N) (r : M.SRes) (er : M.gon n.toNat s = r) (W : World) (hm : m.Ok W) (hs : s.z.length ≤ 90000) (hy : s.ys.length + n.toNat ≤ 90000) (n0 : -9223372036854775808 ≤ n) (n1 : n < 9223372036854775808) (T : Env2 W) :
   Calls Tryz.prog 10 #[.agg (mach m), .int .i64 n] W fun e W' => ∃ m1, e = .returned (.tuple #[.agg (mach m1), .int .i64 N]) ∧ Hid (m1.Ok W') ∧ Hid (Sd r m1) ∧ Dn W W' := by
 refine (rnRunL m n (M.bare s) (st0_bare fs) N (by rw [M.cntn_bare]; exact eN) _ rfl W hm (by rw [fs.xs]; exact hs) (by rw [fs.ys]; exact hy) n0 n1 T).mono fun e W' h => ?_
 obtain ⟨m1, e1, o1, f1, d⟩ := h
 exact ⟨m1, e1, o1, Lib.hid (f1.out.of_bare (by rw [← er]; exact M.gon_bare _ _)), d⟩
theorem rnTrapsB (m : Mc) (n : Int) (s : M.SRes) (fs : Sd s m) (l : List (Int × Int)) (el : M.trn n.toNat s = l) (W : World) (hm : m.Ok W) (hs : s.z.length ≤ 90000) (hy : s.ys.length + n.toNat ≤ 90000) (n0 : -9223372036854775808 ≤ n) (n1 : n < 9223372036854775808) (T : Env2 W) :
   Calls Tryz.prog 16 #[.agg (mach m), .int .i64 n] W fun e W' => ∃ v, e = .returned v ∧ Hid (Tr W' W.heap.size v l) ∧ Dn W W' :=
 rnTrapsL m n (M.bare s) (st0_bare fs) l (by rw [M.trn_bare]; exact el) W hm (by rw [fs.xs]; exact hs) (by rw [fs.ys]; exact hy) n0 n1 T
theorem rnRunH (m : Mc) (hh : m.h = true) (n : Int) (W : World) (hm : m.Ok W) (hs : m.xs.length ≤ 90000) (hy : m.ys.length + n.toNat ≤ 90000) (n0 : -9223372036854775808 ≤ n) (n1 : n < 9223372036854775808) (T : Env2 W) :
   Calls Tryz.prog 10 #[.agg (mach m), .int .i64 n] W fun e W' => ∃ m1, e = .returned (.tuple #[.agg (mach m1), .int .i64 0]) ∧ Hid (m1.Ok W') ∧ Hid (Sd (M.st0 m) m1) ∧ Dn W W' :=
 rnRunL m n (M.st0 m) rfl 0 (M.cntn_h hh) (M.st0 m) (M.gon_h hh) W hm hs hy n0 n1 T
theorem rnTrapsH (m : Mc) (hh : m.h = true) (n : Int) (W : World) (hm : m.Ok W) (hs : m.xs.length ≤ 90000) (hy : m.ys.length + n.toNat ≤ 90000) (n0 : -9223372036854775808 ≤ n) (n1 : n < 9223372036854775808) (T : Env2 W) :
   Calls Tryz.prog 16 #[.agg (mach m), .int .i64 n] W fun e W' => ∃ A c, e = .returned (.slice A 0 c) ∧ Dn W W' := by
 refine (rnTrapsL m n (M.st0 m) rfl [] (M.trn_h hh) W hm hs hy n0 n1 T).mono fun e W' h => ?_
 obtain ⟨v, e1, t, d⟩ := h
 obtain ⟨A, c, rfl⟩ := t.out.form
 exact ⟨A, c, e1, d⟩
theorem rnRun1 (m : Mc) (s : M.SRes) (fs : Sd s m) (hh : s.h = false) (r : M.SRes) (er : M.nx s = r) (W : World) (hm : m.Ok W) (hs : s.z.length ≤ 90000) (hy : s.ys.length + 1 ≤ 90000) (T : Env2 W) :
   Calls Tryz.prog 10 #[.agg (mach m), .int .i64 1] W fun e W' => ∃ m1, e = .returned (.tuple #[.agg (mach m1), .int .i64 1]) ∧ Hid (m1.Ok W') ∧ Hid (Sd r m1) ∧ Dn W W' :=
 rnRunB m 1 s fs 1 (M.gon_one hh).2.1 r ((M.gon_one hh).1.trans er) W hm hs hy (by decide) (by decide) T
theorem rnTraps0 (m : Mc) (s : M.SRes) (fs : Sd s m) (hh : s.h = false) (h0 : (M.nx s).k = 0) (W : World) (hm : m.Ok W) (hs : s.z.length ≤ 90000) (hy : s.ys.length + 1 ≤ 90000) (T : Env2 W) :
   Calls Tryz.prog 16 #[.agg (mach m), .int .i64 1] W fun e W' => ∃ A c, e = .returned (.slice A 0 c) ∧ Hid (Tr W' W.heap.size (.slice A 0 c) []) ∧ Dn W W' := by
 refine (rnTrapsB m 1 s fs [] ((M.gon_one hh).2.2.trans (if_pos h0)) W hm hs hy (by decide) (by decide) T).mono fun e W' h => ?_
 obtain ⟨v, e1, t, d⟩ := h
 obtain ⟨A, c, rfl⟩ := t.out.form
 exact ⟨A, c, e1, t, d⟩
theorem rnTraps1 (m : Mc) (s : M.SRes) (fs : Sd s m) (hh : s.h = false) (k v : Int) (hk : (M.nx s).k = k) (hv : (M.nx s).v = v) (h0 : k ≠ 0) (W : World) (hm : m.Ok W) (hs : s.z.length ≤ 90000) (hy : s.ys.length + 1 ≤ 90000) (T : Env2 W) :
   Calls Tryz.prog 16 #[.agg (mach m), .int .i64 1] W fun e W' => ∃ A c, e = .returned (.slice A 1 c) ∧ Hid (Tr W' W.heap.size (.slice A 1 c) [(k, v)]) ∧ Dn W W' := by
 refine (rnTrapsB m 1 s fs [(k, v)] ((M.gon_one hh).2.2.trans (by rw [hk, hv, if_neg h0])) W hm hs hy (by decide) (by decide) T).mono fun e W' h => ?_
 obtain ⟨v, e1, t, d⟩ := h
 obtain ⟨A, c, rfl⟩ := t.out.form
 exact ⟨A, c, e1, t, d⟩
theorem Orw.old {w : World} {lo : Nat} {e : TypeId} {s : Nat} {v : Value} {n : Nat} {xs : List Value} {b : Nat} (h : Orw w lo e s v n xs) (hb : b < lo) : v.ownBlock ≠ some b := fun hk => absurd (h.lt hk).1 (by omega)
def RtRel (W : World) (b2 b6 : Nat) (m : Mc) (s : M.SRes) (n : Nat) (u d : Value) (w : World) : Prop :=
 ∃ (i : Nat) (x : Mc), d = .int .i64 i ∧ i ≤ M.cntn n s ∧ Dn W w ∧ Blk w b2 30 (mach m) ∧ Blk w b6 30 (mach x) ∧ x.Ok w ∧ Sd (M.gon i s) x ∧ Tr w (b6 + 1) u (M.trn i s) ∧ u.ownBlock ≠ some b2
theorem M.round {w : World} {s : M.SRes} {n i : Nat} {x : Mc} (ox : x.Ok w) (sx : Sd (M.gon i s) x) (hh : x.h = false) (hi : i ≤ M.cntn n s) (hn : i < n) :
   (M.gon i s).h = false ∧ i < M.cntn n s ∧ M.nx (M.gon i s) = M.gon (i + 1) s ∧ M.trn (i + 1) s = M.trn i s ++ (if (M.gon (i + 1) s).k = 0 then [] else [((M.gon (i + 1) s).k, (M.gon (i + 1) s).v)]) ∧ ((M.gon (i + 1) s).k ≠ 0 → (M.gon (i + 1) s).c.getD 17 0 % 2 = 1 ∧ 0 ≤ (M.gon (i + 1) s).c.getD 17 0) := by
 have hg : (M.gon i s).h = false := by rw [← sx.h]; exact hh
 have hi2 := M.cnt_go n i s hi hg hn
 refine ⟨hg, hi2, (M.gon_next hg).symm, M.trn_next hi2, fun hk => ?_⟩
 have F := M.stS_f (c := x.c) (xs := x.xs) (ys := x.ys) (t := x.t) ox.core (fw_rng ox)
 have e1 : M.stS x.c x.xs x.ys false x.t = M.gon (i + 1) s := by
   rw [M.gon_next hg, sx.c, sx.xs, sx.ys, sx.t, ← hg]; rfl
 rw [e1] at F
 have f := F.trap hk
 have hs : M.sup (M.gon (i + 1) s).c = true := by rw [f.1]; exact M.en_sup ox.core hk f.2.2.2.2.1 f.2.2.2.2.2
 have h2 : (M.gon (i + 1) s).c.getD 17 0 % 2 = 1 := by unfold M.sup M.csr at hs; simpa using hs
 refine ⟨h2, ?_⟩
 have hc : M.Core (M.gon (i + 1) s).c := by rw [f.1]; exact ox.core.enter f.2.2.2.2.1 f.2.2.2.2.2
 exact (hc.rng 17).1
def RnRel (N : Nat) (w0 : World) (k : Value) (w : World) : Prop := ∃ j : Nat, j ≤ N ∧ k = .int .i64 j ∧ Dn w0 w
theorem by_78 {ys : List Int} (h : M.By ys) : M.By (ys ++ [77, 78]) := fun x hx => by
 rcases List.mem_append.1 hx with h1 | h1
 · exact h x h1
 · simp only [List.mem_cons, List.not_mem_nil, or_false] at h1
   rcases h1 with rfl | rfl <;> decide
theorem byte2_bs (w : World) : Bs (w.alloc (.cells #[.int .u8 77, .int .u8 78] 5)) (some ⟨w.heap.size, 0, none⟩) 2 [77, 78] := by
 have h : Row (w.alloc (.cells (ints .u8 [77, 78]) 5)) w.heap.size 5 .u8 [77, 78] := Row.new w 5 .u8 [77, 78]
 exact Bs.of_row h (fun y hy => by simp at hy; omega)
theorem Bs.behind {w : World} {g c : Nat} {ys us : List Int} (h : Bs w (some ⟨g, 0, none⟩) c (ys ++ us)) {i : Nat} {u : Int} (hu : us[i]? = some u) : w.cell? ⟨g, ys.length + i, none⟩ = some (.int .u8 u) := by
 obtain ⟨ad, e, _, hc⟩ := h.2.2 (by rintro h0; have := (List.append_eq_nil_iff.1 h0).2; subst this; simp at hu)
 cases e
 have := hc (ys.length + i) u (by rw [List.getElem?_append_right (by omega), Nat.add_sub_cancel_left]; exact hu)
 rwa [add0] at this
theorem Bs.head {w : World} {A : Option Addr} {c : Nat} {ys us : List Int} (h : Bs w A c (ys ++ us)) : Bs w A c ys := by
 have := h.take (A' := A) (l := ys.length) (by simp) rfl
 rwa [List.take_left'] at this
 rfl
section
variable {ops : Array Oper} {Q : Exit → Act → World → Prop} {md : Region.Mode} {w0 w : World} {bs : List Nat} {k fuel : Nat} {listed : Array Bool} {a : Act} {dst : Option Tmp} {s x : Operand} {ty : TypeId} {pos : String} {aft : Array Edge} {v u : Value} {l j : List (Int × Int)} {lo lo2 : Nat}
theorem Dx.dx_new {w u y : World} {cs : List Nat} (h : Dx bs w u) (t : Dx cs u y) (hc : ∀ c ∈ cs, w.heap.size ≤ c) : Dx bs w y :=
 ⟨t.os.trans h.os, t.tape.trans h.tape, t.output.trans h.output, Nat.le_trans h.size t.size, fun i hi hn => (t.block i (Nat.lt_of_lt_of_le hi h.size) (fun e => Nat.not_lt_of_le (hc i e) hi)).trans (h.block i hi hn)⟩
theorem x1_appT (hk : ops[k]? = some ⟨dst, .call { callee := .builtin .append, args := #[s, x], argTypes := #[39, 39] }, ty, pos, aft, none⟩) (hv : Tr w lo v l) (hu : Tr w lo2 u j) (hn : l.length + j.length ≤ 100000) (h0 : w0.heap.size ≤ lo) (hb : lo ≤ w.heap.size) (hs : a.eval s = v) (hx : a.eval x = u) (hw : Dx bs w0 w)
   (h : ∀ v' y, Tr y lo v' (l ++ j) → Dx v.ownBlock.toList w y → Dx bs w0 y → wpX Tryz.prog md ops Q bs w0 fuel (listed.setIfInBounds k true) (a.put dst v') y) : wpX1 Tryz.prog md ops Q bs w0 k fuel listed a w := by
 intro x dx
 obtain ⟨v', w', hr, h2, h3, h4⟩ := run_appT ty (hv.dn dx) (hu.dn dx) hn (Nat.le_trans hb dx.size)
 have d2 : Dx bs w0 w' := (hw.trans (Dn.dx dx)).dx_new h3 (by intro c hc; exact Nat.le_trans h0 (hv.lt (by simpa using hc)).1)
 unfold Go.wpOp
 simp only [hk]
 rw [if_pos (by rfl)]
 refine .inl ?_
 unfold Oper.wp execOp
 simp only [Go.resolve, invoke, builtin, Sem.run_bind, Sem.run_pure, Result.andThen_ok, List.map_toArray, List.map_cons, List.map_nil, hs, hx, hr]
 exact ⟨d2, h v' w' h2 ((Dn.dx dx).trans h3) d2⟩
theorem x1_noT (hk : ops[k]? = some ⟨dst, .buildSlice 39 0 #[], ty, pos, aft, none⟩) (hw : Dx bs w0 w)
   (h : ∀ b y, Dn w y → Tr y w0.heap.size (.slice (some ⟨b, 0, none⟩) 0 0) [] → Dx bs w0 y → wpX Tryz.prog md ops Q bs w0 fuel (listed.setIfInBounds k true) (a.put dst (.slice (some ⟨b, 0, none⟩) 0 0)) y) : wpX1 Tryz.prog md ops Q bs w0 k fuel listed a w := by
 obtain ⟨i, hi, hz, hs, hby⟩ := info_parts infoTr
 have hr : ∀ x : World, (Instr.buildSlice 39 0 #[]).run Tryz.prog x = .ok (.slice (some ⟨x.heap.size, 0, none⟩) 0 0) (x.alloc (.cells #[] 46)) := fun x => by
   simp [Instr.buildSlice, run_underlying Tryz.underlying39, sizeOf, typeInfo, hi, newRow, Instr.fill]
   rw [show Array.range 0 = #[] from rfl, List.map_toArray]
   rfl
 intro x dx
 unfold Go.wpOp
 simp only [hk]
 rw [if_pos (by rfl)]
 refine .inl ?_
 unfold Oper.wp execOp
 simp only [List.map_toArray, List.map_nil, Sem.run_bind, hr, Result.andThen_ok]
 have nn := New.mk' x 46 (#[] : Array Value)
 have d2 : Dx bs w0 (x.alloc (.cells #[] 46)) := (hw.trans (Dn.dx dx)).trans (Dn.dx nn.dn)
 have t : Tr (x.alloc (.cells #[] 46)) x.heap.size (.slice (some ⟨x.heap.size, 0, none⟩) 0 0) [] := Orw.lit (n := 0) nn rfl (fun i y hy => by simp at hy) (by decide)
 exact ⟨d2, h _ _ (dx.trans nn.dn) (t.mono (hw.trans (Dn.dx dx)).size) d2⟩
end
end Go.Proofs.YtclpdjpaaagkdaaGreatDoor
