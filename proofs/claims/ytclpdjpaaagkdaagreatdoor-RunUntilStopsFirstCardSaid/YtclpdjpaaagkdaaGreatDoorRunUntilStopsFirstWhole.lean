/-
  The law RunUntilStopsFirst of the law package returns true at every input, and each argument reads as it did; conditions: the listed package variables hold what the program's text lays there (the card ties them to it).
-/
import Derived.Test.YtclpdjpaaagkdaaGreatDoorCards
import Derived.Test.YtclpdjpaaagkdaaGreatDoorTie
import Derived.Test.YtclpdjpaaagkdaaGreatDoorPmJ
import Derived.Test.YtclpdjpaaagkdaaGreatDoorPmW
import Derived.Test.YtclpdjpaaagkdaaGreatDoorPmG
namespace Go.Proofs.YtclpdjpaaagkdaaGreatDoor
open Go.ChangeShapes Go.WideShapes Go.ChangeAt Go.RowKit Go.Sort
set_option linter.unusedVariables false

set_option maxRecDepth 100000 in
set_option maxHeartbeats 2000000 in
theorem rus_few (m : Mc) (W : World) (hm : m.Ok W) (T : Env2 W) (hx : m.xs.length ≤ 9223372036854775807) (hy : m.ys.length ≤ 9223372036854775807) (n p : Int) (n0 : 0 ≤ n) (n1 : n < 256) (p0 : 0 ≤ p) (p1 : p < 4294967296) (hf : decide (m.xs.length ≤ 600 ∧ m.ys.length ≤ 600) = false) :
   Calls Tryz.prog 5 #[.agg (mach m), .int .u8 n, .int .u32 p] W fun e W' => e = .returned (.bool true) ∧ Dn W W' := by
 have C0 := Lib.hid fun w => fun (t : Env2 w) => awakeR w t
 have CF := Lib.hid fun w => fun (ow : m.Ok w) => rfew m false w ow hx hy hf
 clear hf
 have HD := Lib.hid (Dn.refl W)
 go_enter Tryz.func5, Tryz.ntmps5
 go_wp2_with (first | ((with_reducible refine wpList_box (vs := (mach m)) ?_ ?_ ?_); rfl; rfl; intro b_v3 w' nn; refine Hid.out ?_))
 refine Lib.hid ?_
 have d' := nn.dn
 replace HD := hT HD d'
 have v3 := nn.blk
 clear d' nn
 go_wp2_with (first | (go_at_call 8; (with_reducible refine (C0.out _ (T.dn HD.out)).mono ?_); rintro e w' ⟨rfl, d'⟩; refine Hid.out ?_))
 refine Lib.hid ?_
 replace v3 := v3.dn d'
 replace HD := hT HD d'
 clear d'
 go_wp2_with (first | ((with_reducible refine load33 v3 hm.len ?_ ?_ ?_); rfl; rfl) | (go_at_call 9; (with_reducible refine (CF.out _ (hm.dn HD.out)).mono ?_); rintro e w' ⟨rfl, d'⟩; refine Hid.out ?_))
 refine Lib.hid ?_
 replace v3 := v3.dn d'
 replace HD := hT HD d'
 clear d'
 go_wp2_with (first | (go_at_call 8; (with_reducible refine (C0.out _ (T.dn HD.out)).mono ?_); rintro e w' ⟨rfl, d'⟩; refine Hid.out ?_))
 refine Lib.hid ?_
 replace v3 := v3.dn d'
 replace HD := hT HD d'
 clear d'
 go_wp2_with fail
 go_ret
 exact ⟨rfl, HD.out⟩
set_option maxRecDepth 100000 in
set_option maxHeartbeats 2000000 in
theorem rus_big0 (m : Mc) (W : World) (hm : m.Ok W) (T : Env2 W) (hx : m.xs.length ≤ 9223372036854775807) (hy : m.ys.length ≤ 9223372036854775807) (n p : Int) (n0 : 0 ≤ n) (n1 : n < 256) (p0 : 0 ≤ p) (p1 : p < 4294967296) (hf : decide (m.xs.length ≤ 600 ∧ m.ys.length ≤ 600) = true) (b : 40 < n) :
   Calls Tryz.prog 5 #[.agg (mach m), .int .u8 n, .int .u32 p] W fun e W' => e = .returned (.bool true) ∧ Dn W W' := by
 have C0 := Lib.hid fun w => fun (t : Env2 w) => awakeR w t
 have CF := Lib.hid fun w => fun (ow : m.Ok w) => rfew m true w ow hx hy hf
 clear hf
 have HD := Lib.hid (Dn.refl W)
 go_enter Tryz.func5, Tryz.ntmps5
 go_wp2_with (first | ((with_reducible refine wpList_box (vs := (mach m)) ?_ ?_ ?_); rfl; rfl; intro b_v3 w' nn; refine Hid.out ?_))
 refine Lib.hid ?_
 have d' := nn.dn
 replace HD := hT HD d'
 have v3 := nn.blk
 clear d' nn
 go_wp2_with (first | (go_at_call 8; (with_reducible refine (C0.out _ (T.dn HD.out)).mono ?_); rintro e w' ⟨rfl, d'⟩; refine Hid.out ?_))
 refine Lib.hid ?_
 replace v3 := v3.dn d'
 replace HD := hT HD d'
 clear d'
 go_wp2_with (first | ((with_reducible refine load33 v3 hm.len ?_ ?_ ?_); rfl; rfl) | (go_at_call 9; (with_reducible refine (CF.out _ (hm.dn HD.out)).mono ?_); rintro e w' ⟨rfl, d'⟩; refine Hid.out ?_))
 refine Lib.hid ?_
 replace v3 := v3.dn d'
 replace HD := hT HD d'
 clear d'
 go_wp2_with (first | (go_at_call 8; (with_reducible refine (C0.out _ (T.dn HD.out)).mono ?_); rintro e w' ⟨rfl, d'⟩; refine Hid.out ?_))
 refine Lib.hid ?_
 replace v3 := v3.dn d'
 replace HD := hT HD d'
 clear d'
 go_wp2_with fail
 go_ret
 exact ⟨rfl, HD.out⟩
set_option maxRecDepth 100000 in
set_option maxHeartbeats 2000000 in
theorem rus_main (m : Mc) (W : World) (hm : m.Ok W) (T : Env2 W) (hx : m.xs.length ≤ 9223372036854775807) (hy : m.ys.length ≤ 9223372036854775807) (n p : Int) (n0 : 0 ≤ n) (n1 : n < 256) (p0 : 0 ≤ p) (p1 : p < 4294967296) (hf : decide (m.xs.length ≤ 600 ∧ m.ys.length ≤ 600) = true) (n40 : n ≤ 40) :
   Calls Tryz.prog 5 #[.agg (mach m), .int .u8 n, .int .u32 p] W fun e W' => e = .returned (.bool true) ∧ Dn W W' := by
 have hl := hm.len
 have hs : m.xs.length ≤ 600 := by simp only [decide_eq_true_eq] at hf; omega
 have hn : m.ys.length ≤ 600 := by simp only [decide_eq_true_eq] at hf; omega
 have hc := hm.core
 obtain ⟨s, e_s⟩ : ∃ s, M.st0 m = s := ⟨_, rfl⟩
 have fs : Sd s m := e_s ▸ Sd.self m
 have zs : s.z.length = m.xs.length := congrArg List.length fs.xs.symm
 have ysl : s.ys.length = m.ys.length := congrArg List.length fs.ys.symm
 obtain ⟨K, e_K⟩ : ∃ K, (M.unt p n.toNat s).2.1 = K := ⟨_, rfl⟩
 obtain ⟨b, e_b⟩ : ∃ b, (M.unt p n.toNat s).2.2 = b := ⟨_, rfl⟩
 obtain ⟨q, e_q⟩ : ∃ q, (M.unt p n.toNat s).1 = q := ⟨_, rfl⟩
 obtain ⟨u1, u2, u3, u4, u5, u6⟩ := M.unt_run p n.toNat s
 rw [e_K] at u1 u2 u3 u5 u6
 rw [e_q] at u2 u4 u6
 rw [e_b] at u4 u6
 have hkn : (K : Int).toNat = K := Int.toNat_natCast K
 have g1 := M.gon_len K s
 rw [← u2] at g1
 obtain ⟨ms, e_ms⟩ : ∃ ms : Mc, ms = { m with h := true } := ⟨_, rfl⟩
 have l_ms : ms.c.length = 29 := by rw [e_ms]; exact hl
 have h_ms : ms.h = true := by rw [e_ms]
 have okS : ms.Ok W := by rw [e_ms]; exact ⟨hc, hm.mem, hm.out, hm.t0, hm.t1⟩
 have xms : ms.xs.length = m.xs.length ∧ ms.ys.length = m.ys.length := by rw [e_ms]; exact ⟨rfl, rfl⟩
 have HMS : Hid (({ m with h := true } : Mc) = ms) := Lib.hid e_ms.symm
 obtain ⟨s2, e_s2⟩ : ∃ s2, M.st0 ms = s2 := ⟨_, rfl⟩
 have fms : Sd s2 ms := e_s2 ▸ Sd.self ms
 have z2 : s2.z.length = m.xs.length ∧ s2.ys.length = m.ys.length := by rw [← e_s2]; exact xms
 have C0 := Lib.hid fun w => fun (t : Env2 w) => awakeR w t
 have CF := Lib.hid fun w => fun (ow : m.Ok w) => rfew m true w ow hx hy hf
 clear hf
 have C1 := Lib.hid fun w => fun (ow : m.Ok w) (t : Env2 w) => rnUntilL m n p s e_s K e_K b e_b q e_q w ow (by omega) (by omega) (by omega) (by omega) t
 have C2 := Lib.hid fun w => fun (ow : m.Ok w) (t : Env2 w) => rnRunB m (K : Int) s fs K (by rw [hkn]; exact u3) q (by rw [hkn]; exact u2.symm) w ow (by omega) (by omega) (by omega) (by omega) t
 have CL := Lib.hid fun (j : Nat) (hj : j < K) (w : World) (ow : m.Ok w) (t : Env2 w) => rnRunB m (j : Int) s fs _ rfl (M.gon j s) (by rw [Int.toNat_natCast]) w ow (by omega) (by omega) (by omega) (by omega) t
 have C5 := Lib.hid fun (w : World) (ow : ms.Ok w) (t : Env2 w) => (by have h := rnRunH ms h_ms n w ow (by omega) (by omega) (by omega) (by omega) t; rw [e_s2] at h; exact h : Calls Tryz.prog 10 #[.agg (mach ms), .int .i64 n] w fun e W' => ∃ m1, e = .returned (.tuple #[.agg (mach m1), .int .i64 0]) ∧ Hid (m1.Ok W') ∧ Hid (Sd s2 m1) ∧ Dn w W')
 have C6 := Lib.hid fun (w : World) (ow : ms.Ok w) (t : Env2 w) => rnTrapsH ms h_ms n w ow (by omega) (by omega) (by omega) (by omega) t
 have CS := Lib.hid fun (w : World) (r : M.SRes) (m1 m2 : Mc) (o1 : m1.Ok w) (o2 : m2.Ok w) (f1 : Sd r m1) (f2 : Sd r m2) (a : r.z.length ≤ 100000) (b : r.ys.length ≤ 100000) => rsame_s w o1 o2 f1 f2 rfl rfl rfl rfl rfl a b
 have a1 : Hid (q.z.length ≤ 100000 ∧ q.ys.length ≤ 100000) := Lib.hid (by omega)
 have a2 : Hid (s2.z.length ≤ 100000 ∧ s2.ys.length ≤ 100000) := Lib.hid (by omega)
 have U4 := Lib.hid u4
 have U5 := Lib.hid u5
 have HQ : Hid (b = true ∨ (b = false ∧ ((K : Int) == n) = true) ∨ (b = false ∧ ((K : Int) == n) = false ∧ q.h = true)) := Lib.hid (by
     cases hb : b
     · rcases u6 hb with h | h
       · exact .inr (.inl ⟨rfl, by rw [beq_iff_eq]; omega⟩)
       · by_cases hh : (K : Int) = n
         · exact .inr (.inl ⟨rfl, by rw [beq_iff_eq]; exact hh⟩)
         · exact .inr (.inr ⟨rfl, by rw [beq_eq_false_iff_ne]; exact hh, h⟩)
     · exact .inl rfl)
 have w0_ : IntKind.i64.wrap n = n := IntWalk.i64_in _ (by omega)
 have q1 : decide ((K : Int) < 0) = false := decide_eq_false (by omega)
 have q2 : decide (n < (K : Int)) = false := by simp; omega
 have q3 : ((K : Int) != (K : Int)) = false := by simp
 have q4 : (b != b) = false := by simp
 have FMS := Lib.hid fms
 have KB : Hid (K ≤ 40) := Lib.hid (by omega)
 clear u1 u2 u3 u4 u5 u6 hkn g1 e_ms xms fms z2 e_s e_K e_b e_q e_s2 zs ysl hs hn h_ms
 have HD := Lib.hid (Dn.refl W)
 go_enter Tryz.func5, Tryz.ntmps5
 go_wp2_with (first | ((with_reducible refine wpList_box (vs := (mach m)) ?_ ?_ ?_); rfl; rfl; intro b_v3 w' nn; refine Hid.out ?_))
 refine Lib.hid ?_
 have d' := nn.dn
 replace HD := hT HD d'
 have v3 := nn.blk
 clear d' nn
 go_wp2_with (first | (go_at_call 8; (with_reducible refine (C0.out _ (T.dn HD.out)).mono ?_); rintro e w' ⟨rfl, d'⟩; refine Hid.out ?_))
 refine Lib.hid ?_
 replace v3 := v3.dn d'
 replace HD := hT HD d'
 clear d'
 go_wp2_with (first | ((with_reducible refine load33 v3 hm.len ?_ ?_ ?_); rfl; rfl) | (go_at_call 9; (with_reducible refine (CF.out _ (hm.dn HD.out)).mono ?_); rintro e w' ⟨rfl, d'⟩; refine Hid.out ?_))
 refine Lib.hid ?_
 replace v3 := v3.dn d'
 replace HD := hT HD d'
 clear d'
 go_wp2_with (first | ((with_reducible refine load33 v3 hm.len ?_ ?_ ?_); rfl; rfl) | (go_at_call 12; (with_reducible refine (C1.out _ (hm.dn HD.out) (T.dn HD.out)).mono ?_); rintro e w' ⟨m1, rfl, o_m1, e_m1, d'⟩; refine Hid.out ?_))
 refine Lib.hid ?_
 replace v3 := v3.dn d'
 replace HD := hT HD d'
 clear d'
 have l_m1 := o_m1.out.len
 obtain ⟨q9, c16⟩ : ∃ q9, m1.c.getD 16 0 = q9 := ⟨_, rfl⟩
 have np : (q9 == p) = b := by rw [← c16, e_m1.out.c, U4.out]; rfl
 have o_m1 := Lib.hid o_m1.out
 go_wp2_with (first | ((with_reducible refine wpList_alloc zeroMach ?_ ?_); rfl; intro b_v7 w' nn; refine Hid.out ?_))
 refine Lib.hid ?_
 have n_v3_v7 := Lib.hid (nn.ne _ v3.lt)
 have HL_v7 : Hid (W.heap.size ≤ b_v7) := Lib.hid (Blk.hi nn HD.out.size)
 have d' := nn.dn
 replace v3 := v3.dn d'
 replace o_m1 := Lib.hid (o_m1.out.dn d')
 replace HD := hT HD d'
 have v7 := nn.blk
 clear d' nn
 go_wp2_with (first | ((with_reducible refine store33 m1 l_m1 v7 zlen ?_ ?_ ?_ ?_); rfl; rfl; rfl; intro w' r' t'; refine Hid.out ?_))
 refine Lib.hid ?_
 replace o_m1 := Lib.hid (o_m1.out.trn v7 (NoU8.mach _) t')
 replace v3 := v3.trn t' n_v3_v7.out
 replace HD := Lib.hid (HD.out.trn HL_v7.out t')
 clear t' v7
 have v7 := r'
 clear r'
 go_wp2_with (first | ((with_reducible refine load33 v3 hm.len ?_ ?_ ?_); rfl; rfl) | (go_at_call 10; (with_reducible refine (C2.out _ (hm.dn HD.out) (T.dn HD.out)).mono ?_); rintro e w' ⟨m2, rfl, o_m2, e_m2, d'⟩; refine Hid.out ?_))
 refine Lib.hid ?_
 replace v3 := v3.dn d'
 replace v7 := v7.dn d'
 replace o_m1 := Lib.hid (o_m1.out.dn d')
 replace HD := hT HD d'
 clear d'
 have l_m2 := o_m2.out.len
 have o_m2 := Lib.hid o_m2.out
 go_wp2_with (first | ((with_reducible refine wpList_alloc zeroMach ?_ ?_); rfl; intro b_v10 w' nn; refine Hid.out ?_))
 refine Lib.hid ?_
 have n_v3_v10 := Lib.hid (nn.ne _ v3.lt)
 have n_v7_v10 := Lib.hid (nn.ne _ v7.lt)
 have HL_v10 : Hid (W.heap.size ≤ b_v10) := Lib.hid (Blk.hi nn HD.out.size)
 have d' := nn.dn
 replace v3 := v3.dn d'
 replace v7 := v7.dn d'
 replace o_m1 := Lib.hid (o_m1.out.dn d')
 replace o_m2 := Lib.hid (o_m2.out.dn d')
 replace HD := hT HD d'
 have v10 := nn.blk
 clear d' nn
 go_wp2_with (first | ((with_reducible refine store33 m2 l_m2 v10 zlen ?_ ?_ ?_ ?_); rfl; rfl; rfl; intro w' r' t'; refine Hid.out ?_))
 refine Lib.hid ?_
 replace o_m1 := Lib.hid (o_m1.out.trn v10 (NoU8.mach _) t')
 replace o_m2 := Lib.hid (o_m2.out.trn v10 (NoU8.mach _) t')
 replace v3 := v3.trn t' n_v3_v10.out
 replace v7 := v7.trn t' n_v7_v10.out
 replace HD := Lib.hid (HD.out.trn HL_v10.out t')
 clear t' v10
 have v10 := r'
 clear r'
 go_wp2_with (first | ((with_reducible refine load33 v7 l_m1 ?_ ?_ ?_); rfl; rfl) | ((with_reducible refine load33 v10 l_m2 ?_ ?_ ?_); rfl; rfl) | (go_at_call 14; (with_reducible refine (CS.out _ q m1 m2 o_m1.out o_m2.out e_m1.out e_m2.out a1.out.1 a1.out.2).mono ?_); rintro e w' ⟨rfl, d'⟩; refine Hid.out ?_))
 refine Lib.hid ?_
 replace v3 := v3.dn d'
 replace v7 := v7.dn d'
 replace v10 := v10.dn d'
 replace o_m1 := Lib.hid (o_m1.out.dn d')
 replace o_m2 := Lib.hid (o_m2.out.dn d')
 replace HD := hT HD d'
 clear d'
 have ck0 := v7.word l_m1 16 rfl
 rw [c16] at ck0
 go_wp2_with fail
 clear ck0
 go_loopw [12] (fun k w => RnRel K w' k w) (fun k _ => K - (intOf k).toNat)
 case atStart => exact ⟨0, Nat.zero_le _, rfl, Dn.refl _⟩
 case round =>
   obtain ⟨j, hj, rfl, dn⟩ := hrel
   replace v3 := v3.dn dn
   replace v7 := v7.dn dn
   replace v10 := v10.dn dn
   replace o_m1 := Lib.hid (o_m1.out.dn dn)
   replace o_m2 := Lib.hid (o_m2.out.dn dn)
   have HW := Lib.hid (HD.out.trans dn)
   have DJ := Lib.hid dn
   clear HD dn
   by_cases hlt : j < K
   · have hlt2 : (j : Int) < K := by omega
     have w9 : IntKind.i64.wrap ((j : Int) + 1) = (j : Int) + 1 := IntWalk.i64_in _ (by have := KB.out; omega)
     have C4 := Lib.hid (CL.out j hlt)
     obtain ⟨gj, e_gj⟩ : ∃ gj, M.gon j s = gj := ⟨_, rfl⟩
     have G4 : Hid ((M.pc gj.c == p) = false) := Lib.hid (by rw [beq_eq_false_iff_ne, ← e_gj]; exact U5.out j hlt)
     rw [e_gj] at C4
     clear e_gj
     generalize M.cntn (j : Int).toNat s = N4 at C4
     have okr := hm.dn HW.out
     have TR := T.dn HW.out
     have HD := Lib.hid (Dn.refl wr)
     go_wp2_with (first | ((with_reducible refine load33 v3 hm.len ?_ ?_ ?_); rfl; rfl) | (go_at_call 10; (with_reducible refine (C4.out _ (okr.dn HD.out) (TR.dn HD.out)).mono ?_); rintro e w' ⟨m3, rfl, o_m3, e_m3, d'⟩; refine Hid.out ?_))
     refine Lib.hid ?_
     replace v3 := v3.dn d'
     replace v7 := v7.dn d'
     replace v10 := v10.dn d'
     replace o_m1 := Lib.hid (o_m1.out.dn d')
     replace o_m2 := Lib.hid (o_m2.out.dn d')
     replace HD := hT HD d'
     clear d'
     have l_m3 := o_m3.out.len
     obtain ⟨q8, d16⟩ : ∃ q8, m3.c.getD 16 0 = q8 := ⟨_, rfl⟩
     have np3 : (q8 == p) = false := by rw [← d16, e_m3.out.c]; exact G4.out
     have o_m3 := Lib.hid o_m3.out
     go_wp2_with (first | ((with_reducible refine wpList_alloc zeroMach ?_ ?_); rfl; intro b_v13 w' nn; refine Hid.out ?_))
     refine Lib.hid ?_
     have n_v3_v13 := Lib.hid (nn.ne _ v3.lt)
     have n_v7_v13 := Lib.hid (nn.ne _ v7.lt)
     have n_v10_v13 := Lib.hid (nn.ne _ v10.lt)
     have HL_v13 : Hid (wr.heap.size ≤ b_v13) := Lib.hid (Blk.hi nn HD.out.size)
     have d' := nn.dn
     replace v3 := v3.dn d'
     replace v7 := v7.dn d'
     replace v10 := v10.dn d'
     replace o_m1 := Lib.hid (o_m1.out.dn d')
     replace o_m2 := Lib.hid (o_m2.out.dn d')
     replace o_m3 := Lib.hid (o_m3.out.dn d')
     replace HD := hT HD d'
     have v13 := nn.blk
     clear d' nn
     go_wp2_with (first | ((with_reducible refine store33 m3 l_m3 v13 zlen ?_ ?_ ?_ ?_); rfl; rfl; rfl; intro w' r' t'; refine Hid.out ?_))
     refine Lib.hid ?_
     replace o_m1 := Lib.hid (o_m1.out.trn v13 (NoU8.mach _) t')
     replace o_m2 := Lib.hid (o_m2.out.trn v13 (NoU8.mach _) t')
     replace o_m3 := Lib.hid (o_m3.out.trn v13 (NoU8.mach _) t')
     replace v3 := v3.trn t' n_v3_v13.out
     replace v7 := v7.trn t' n_v7_v13.out
     replace v10 := v10.trn t' n_v10_v13.out
     replace HD := Lib.hid (HD.out.trn HL_v13.out t')
     clear t' v13
     have v13 := r'
     clear r'
     have ck0 := v13.word l_m3 16 rfl
     rw [d16] at ck0
     go_wp2_with fail
     clear ck0
     exact ⟨⟨j + 1, by omega, by go_num, DJ.out.trans HD.out⟩, by simp [intOf]; omega⟩
   · have hlt2 : ¬ (j : Int) < K := by omega
     have HD := HW
     clear hlt
     go_wp2_with (first | ((with_reducible refine load33 v3 hm.len ?_ ?_ ?_); rfl; rfl) | ((with_reducible refine wpList_alloc zeroMach ?_ ?_); rfl; intro b_v15 w' nn; refine Hid.out ?_))
     refine Lib.hid ?_
     have n_v3_v15 := Lib.hid (nn.ne _ v3.lt)
     have n_v7_v15 := Lib.hid (nn.ne _ v7.lt)
     have n_v10_v15 := Lib.hid (nn.ne _ v10.lt)
     have HL_v15 : Hid (W.heap.size ≤ b_v15) := Lib.hid (Blk.hi nn HD.out.size)
     have d' := nn.dn
     replace v3 := v3.dn d'
     replace v7 := v7.dn d'
     replace v10 := v10.dn d'
     replace o_m1 := Lib.hid (o_m1.out.dn d')
     replace o_m2 := Lib.hid (o_m2.out.dn d')
     replace HD := hT HD d'
     have v15 := nn.blk
     clear d' nn
     go_wp2_with (first | ((with_reducible refine store33 m hm.len v15 zlen ?_ ?_ ?_ ?_); rfl; rfl; rfl; intro w' r' t'; refine Hid.out ?_))
     refine Lib.hid ?_
     replace o_m1 := Lib.hid (o_m1.out.trn v15 (NoU8.mach _) t')
     replace o_m2 := Lib.hid (o_m2.out.trn v15 (NoU8.mach _) t')
     replace v3 := v3.trn t' n_v3_v15.out
     replace v7 := v7.trn t' n_v7_v15.out
     replace v10 := v10.trn t' n_v10_v15.out
     replace HD := Lib.hid (HD.out.trn HL_v15.out t')
     clear t' v15
     have v15 := r'
     clear r'
     go_wp2_with (first | ((with_reducible refine storeHalted (u := true) v15 hl ?_ ?_ ?_ ?_); rfl; rfl; rfl; intro w' r' t'; refine Hid.out ?_))
     refine Lib.hid ?_
     replace o_m1 := Lib.hid (o_m1.out.trn v15 (NoU8.mach _) t')
     replace o_m2 := Lib.hid (o_m2.out.trn v15 (NoU8.mach _) t')
     replace v3 := v3.trn t' n_v3_v15.out
     replace v7 := v7.trn t' n_v7_v15.out
     replace v10 := v10.trn t' n_v10_v15.out
     rw [HMS.out] at r'
     replace HD := Lib.hid (HD.out.trn HL_v15.out t')
     clear t' v15
     have v15 := r'
     clear r'
     go_wp2_with (first | ((with_reducible refine load33 v15 l_ms ?_ ?_ ?_); rfl; rfl) | (go_at_call 10; (with_reducible refine (C5.out _ (okS.dn HD.out) (T.dn HD.out)).mono ?_); rintro e w' ⟨m5, rfl, o_m5, e_m5, d'⟩; refine Hid.out ?_))
     refine Lib.hid ?_
     replace v3 := v3.dn d'
     replace v7 := v7.dn d'
     replace v10 := v10.dn d'
     replace v15 := v15.dn d'
     replace o_m1 := Lib.hid (o_m1.out.dn d')
     replace o_m2 := Lib.hid (o_m2.out.dn d')
     replace HD := hT HD d'
     clear d'
     have l_m5 := o_m5.out.len
     have o_m5 := Lib.hid o_m5.out
     go_wp2_with (first | ((with_reducible refine wpList_alloc zeroMach ?_ ?_); rfl; intro b_v16 w' nn; refine Hid.out ?_))
     refine Lib.hid ?_
     have n_v3_v16 := Lib.hid (nn.ne _ v3.lt)
     have n_v7_v16 := Lib.hid (nn.ne _ v7.lt)
     have n_v10_v16 := Lib.hid (nn.ne _ v10.lt)
     have n_v15_v16 := Lib.hid (nn.ne _ v15.lt)
     have HL_v16 : Hid (W.heap.size ≤ b_v16) := Lib.hid (Blk.hi nn HD.out.size)
     have d' := nn.dn
     replace v3 := v3.dn d'
     replace v7 := v7.dn d'
     replace v10 := v10.dn d'
     replace v15 := v15.dn d'
     replace o_m1 := Lib.hid (o_m1.out.dn d')
     replace o_m2 := Lib.hid (o_m2.out.dn d')
     replace o_m5 := Lib.hid (o_m5.out.dn d')
     replace HD := hT HD d'
     have v16 := nn.blk
     clear d' nn
     go_wp2_with (first | ((with_reducible refine store33 m5 l_m5 v16 zlen ?_ ?_ ?_ ?_); rfl; rfl; rfl; intro w' r' t'; refine Hid.out ?_))
     refine Lib.hid ?_
     replace o_m1 := Lib.hid (o_m1.out.trn v16 (NoU8.mach _) t')
     replace o_m2 := Lib.hid (o_m2.out.trn v16 (NoU8.mach _) t')
     replace o_m5 := Lib.hid (o_m5.out.trn v16 (NoU8.mach _) t')
     replace v3 := v3.trn t' n_v3_v16.out
     replace v7 := v7.trn t' n_v7_v16.out
     replace v10 := v10.trn t' n_v10_v16.out
     replace v15 := v15.trn t' n_v15_v16.out
     replace HD := Lib.hid (HD.out.trn HL_v16.out t')
     clear t' v16
     have v16 := r'
     clear r'
     go_wp2_with (first | ((with_reducible refine load33 v16 l_m5 ?_ ?_ ?_); rfl; rfl) | ((with_reducible refine load33 v15 l_ms ?_ ?_ ?_); rfl; rfl) | (go_at_call 14; (with_reducible refine (CS.out _ s2 m5 ms o_m5.out (okS.dn HD.out) e_m5.out FMS.out a2.out.1 a2.out.2).mono ?_); rintro e w' ⟨rfl, d'⟩; refine Hid.out ?_))
     refine Lib.hid ?_
     replace v3 := v3.dn d'
     replace v7 := v7.dn d'
     replace v10 := v10.dn d'
     replace v15 := v15.dn d'
     replace v16 := v16.dn d'
     replace o_m1 := Lib.hid (o_m1.out.dn d')
     replace o_m2 := Lib.hid (o_m2.out.dn d')
     replace o_m5 := Lib.hid (o_m5.out.dn d')
     replace HD := hT HD d'
     clear d'
     go_wp2_with (first | ((with_reducible refine load33 v15 l_ms ?_ ?_ ?_); rfl; rfl) | (go_at_call 16; (with_reducible refine (C6.out _ (okS.dn HD.out) (T.dn HD.out)).mono ?_); rintro e w' ⟨A9, c9, rfl, d'⟩; refine Hid.out ?_))
     refine Lib.hid ?_
     replace v3 := v3.dn d'
     replace v7 := v7.dn d'
     replace v10 := v10.dn d'
     replace v15 := v15.dn d'
     replace v16 := v16.dn d'
     replace o_m1 := Lib.hid (o_m1.out.dn d')
     replace o_m2 := Lib.hid (o_m2.out.dn d')
     replace o_m5 := Lib.hid (o_m5.out.dn d')
     replace HD := hT HD d'
     clear d'
     have cH := v7.halted l_m1
     rcases HQ.out with hb | ⟨hb, hk⟩ | ⟨hb, hk, hh⟩
     all_goals subst hb
     · go_wp2_with fail
       go_ret
       exact ⟨rfl, HD.out⟩
     · go_wp2_with fail
       go_ret
       exact ⟨rfl, HD.out⟩
     · rw [e_m1.out.h, hh] at cH
       go_wp2_with fail
       go_ret
       exact ⟨rfl, HD.out⟩
theorem rusWalk (m : Mc) (n p : Int) (W : World) (hm : m.Ok W) (T : Env2 W) (hx : m.xs.length ≤ 9223372036854775807) (hy : m.ys.length ≤ 9223372036854775807) (n0 : 0 ≤ n) (n1 : n < 256) (p0 : 0 ≤ p) (p1 : p < 4294967296) : Calls Tryz.prog 5 #[.agg (mach m), .int .u8 n, .int .u32 p] W fun e W' => e = .returned (.bool true) ∧ Dn W W' := by
 cases hf : decide (m.xs.length ≤ 600 ∧ m.ys.length ≤ 600)
 · exact rus_few m W hm T hx hy n p n0 n1 p0 p1 hf
 · by_cases h : 40 < n
   · exact rus_big0 m W hm T hx hy n p n0 n1 p0 p1 hf h
   · exact rus_main m W hm T hx hy n p n0 n1 p0 p1 hf (by omega)
end Go.Proofs.YtclpdjpaaagkdaaGreatDoor
namespace Go.Proofs.YtclpdjpaaagkdaaGreatDoor.runUntilStopsFirst
open Go.ChangeShapes Go.WideShapes Go.ChangeAt Go.RowKit
set_option linter.unusedVariables false


theorem readable : ∀ t ∈ Tryz.f5.params.toList, Tryz.prog.readableRec t = true ∧ t < Tryz.prog.types.size := by
 rw [Tryz.params5]
 intro t ht
 have hall : ([30, 5, 22].all fun t => Tryz.prog.readableRec t && decide (t < Tryz.prog.types.size)) = true := by kernel_rfl
 have h := List.all_eq_true.1 hall t ht
 simp only [Bool.and_eq_true, decide_eq_true_eq] at h
 exact h

theorem said (H : Type) (ds : List (DataW H)) (hl : ds.length = Tryz.f5.params.size) : (Rows.runUntilStopsFirstSpec.fn H ds).results = [.lit (.bool true)] ∧ (Rows.runUntilStopsFirstSpec.fn H ds).args = ds ∧ (Rows.runUntilStopsFirstSpec.fn H ds).vars = [] := by
 rw [Tryz.params5] at hl
 match ds, hl with
 | [d0, d1, d2], _ => exact ⟨rfl, rfl, rfl⟩

set_option maxRecDepth 100000 in
theorem walk {H : Type} {enc : TypeId × Value → H} (W : World) (base : Nat) (args : Array Value) (ds : List (DataW H)) (ps : List MemPlace) (E : Env W)
   (hval : ∀ (j : Nat) t v, Tryz.f5.params[j]? = some t → args[j]? = some v → Value.okWide Tryz.prog W .any base t v)
   (hA : DataW.TrodAll enc Tryz.prog W 0 (fun _ => true) true Tryz.f5.params.toList args.toList ds ps) :
   Calls Tryz.prog 5 args W fun e W' => e = .returned (.bool true) ∧ Dn W W' := by
 rw [Tryz.params5] at hA hval
 obtain ⟨v0, vs0, d0, ds0, p0, q0, hargs, rfl, rfl, h0, r0⟩ := trodAll_cons hA
 obtain ⟨v1, vs1, d1, ds1, p1, q1, rfl, rfl, rfl, h1, r1⟩ := trodAll_cons r0
 obtain ⟨v2, vs2, d2, ds2, p2, q2, rfl, rfl, rfl, h2, r2⟩ := trodAll_cons r1
 obtain ⟨rfl, rfl, rfl⟩ := trodAll_nil r2
 obtain rfl : args = #[v0, v1, v2] := by cases args; simp_all
 obtain ⟨m0, rfl, o0, l0, y0⟩ := open33 (hval 0 30 v0 rfl rfl) h0
 obtain ⟨x1, rfl, rfl, rfl, w1⟩ := open_int Tryz.underlying5 (hval 1 5 v1 rfl rfl) h1
 have bd1 := bounds_u8 w1
 obtain ⟨x2, rfl, rfl, rfl, w2⟩ := open_int Tryz.underlying22 (hval 2 22 v2 rfl rfl) h2
 have bd2 := bounds_u32 w2
 exact rusWalk m0 x1 x2 W o0 E.two  l0 y0 (by omega) (by omega) (by omega) (by omega) 

set_option maxRecDepth 100000 in
theorem lifted (os : Os) (started : os.Started) (H : Type) (enc : TypeId × Value → H) :
   ReturnsInHanded {} Tryz.checked os 5 .any (fun w args => (Rows.runUntilStopsFirstSpec.pre enc Tryz.prog Tryz.f5 [] false w args ∧ laidMetH Tryz.prog laidL w) ∧ sizedMet enc Tryz.prog Tryz.f5 (OpenSpec.ofChange Rows.runUntilStopsFirstSpec) false w args)
     (Rows.runUntilStopsFirstSpec.post enc Tryz.prog Tryz.f5 false true false false) :=
 returns_of_walk (C := Tryz.checked) rfl own started (by kernel_rfl) Tryz.func5 rfl readable (by kernel_rfl) said
   (ChangeSpec.witness_shaped (enc := enc) (C := Tryz.checked) (os := os) (X := fun w _ => laidMetH Tryz.prog laidL w) false (World.laidAll Tryz.prog os laidL) #[.agg #[.int .u32 0, .int .u32 0, .int .u32 0, .int .u32 0, .int .u32 0, .int .u32 0, .int .u32 0, .int .u32 0, .int .u32 0, .int .u32 0, .int .u32 0, .int .u32 0, .int .u32 0, .int .u32 0, .int .u32 0, .int .u32 0, .int .u32 0, .int .u32 0, .int .u32 0, .int .u32 0, .int .u32 0, .int .u32 0, .int .u32 0, .int .u32 0, .int .u32 0, .int .u32 0, .int .u32 0, .int .u32 0, .int .u32 0, .slice none 0 0, .int .u64 0, .slice none 0 0, .bool false], .int .u8 0, .int .u32 0] 8 (World.laidAll_os _ _ _)
     (start_shaped os _) (by kernel_rfl) (by kernel_rfl) (by kernel_rfl) (start_met os _)) walk

theorem over : Rows.RunUntilStopsFirstSaid :=
 OpenClaim.holds_of_wide 5 Tryz.f5 rfl rfl rfl rfl rfl rfl rfl ⟨rfl, rfl, rfl, rfl, rfl⟩ rfl rfl rfl rfl rfl (by kernel_rfl) Tryz.func5 (by kernel_rfl)
   (of_decide_eq_true (by kernel_rfl)) (by unfold Func.isWrapper; first | (rw [if_pos (by decide +kernel)]; kernel_rfl) | (rw [if_neg (by decide +kernel)]; exact ⟨rfl, rfl⟩))
   (fun os started H enc _ => lifted os started H enc)

theorem proved : Rows.RunUntilStopsFirstCardSaid :=
 Claim7.holds_tied_plain_at .later [] [.data, .data, .data] true (true, "00447fa595675de86dbacc44586d93df9b9cc5cda1eaed7296832adaa0b000a3") false
   over (fun _ h => by cases h) (by kernel_rfl) (fun _ h => by cases h) runUntilStopsFirst_row_tie rfl ⟨rfl, rfl⟩ (by kernel_rfl) rfl
   (fun f fn hf hfn => by
     obtain rfl : f = 5 := Option.some.inj ((show Tryz.prog.funcNamed "gaoler/gaolerlaw14.RunUntilStopsFirst" = some 5 by kernel_rfl).symm.trans hf) |>.symm
     obtain rfl : fn = Tryz.f5 := (Option.some.inj (Tryz.func5.symm.trans hfn)).symm
     exact ⟨by kernel_rfl, fun j t ht => by
       rw [Tryz.params5] at ht
       have hm : t ∈ [30, 5, 22] := by simpa using Array.mem_of_getElem? ht
       have hall : ([30, 5, 22].all fun u => !Tryz.prog.wantsStandIn u) = true := by kernel_rfl
       exact (show Tryz.prog.wantsStandIn t = false by simpa using List.all_eq_true.1 hall t hm)⟩)
   (by kernel_rfl)
#print axioms proved
end Go.Proofs.YtclpdjpaaagkdaaGreatDoor.runUntilStopsFirst
