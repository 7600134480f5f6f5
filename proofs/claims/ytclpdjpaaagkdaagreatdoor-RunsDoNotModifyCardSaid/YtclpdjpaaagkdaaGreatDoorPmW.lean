/-
  Contracts over the translated program and the plain facts behind them, of the texts: StCuA, StCuB, StCuC, StCuD, StDo, StFrame. Conditions: those that stand in each theorem.
-/
import Derived.LaidMore
import Derived.Stop.Joined
import Derived.Lay
import Derived.Lib.LaidU8
import Derived.Shelf.Vars
import Derived.Test.YtclpdjpaaagkdaaGreatDoorPmV
import Derived.Test.YtclpdjpaaagkdaaGreatDoorPmX
import Derived.Test.YtclpdjpaaagkdaaGreatDoorPmA
import Derived.Test.YtclpdjpaaagkdaaGreatDoorPmG
import Derived.Test.YtclpdjpaaagkdaaGreatDoorPmT
namespace Go.Proofs.YtclpdjpaaagkdaaGreatDoor
open Go.ChangeShapes Go.WideShapes Go.ChangeAt Go.RowKit Go.Sort
set_option linter.unusedVariables false

set_option maxRecDepth 100000 in
set_option maxHeartbeats 2000000 in
theorem stCurA (m : Mc) (W : World) (hm : m.Ok W) (hs : m.xs.length ≤ 100000) (x k v : Int) (ex : M.alv m.c m.xs (M.pc m.c) 4 = x) (ek : M.acz m.c m.xs.length (M.pc m.c) 4 = k) (ev : M.atv m.c m.xs.length (M.pc m.c) 4 = v) (hk : (!(k == 0 && v == 0)) = true) :
   Calls Tryz.prog 43 #[.agg (mach m)] W fun e W' => e = .returned (.tuple #[.agg (ins 0 0 0 0 0), .agg #[.int .i64 k, .int .u32 v]]) ∧ Dn W W' := by
 have hl := hm.len
 have hc := hm.core
 have C1 := Lib.hid fun w => fun (ow : m.Ok w) => ffetch m w ow hs x k v ex ek ev
 have CT := Lib.hid (stTrapped k v true hk)
 have D1 := Lib.hid fun w (d : Dn W w) => C1.out w (hm.dn d)
 have D2 := Lib.hid fun w (d : Dn W w) => CT.out w
 have R1 : Hid (Rg [1, 2] [0, 1] [[2], [3]]) := Lib.hid trivial
 have S : Hid (Sw W W []) := Lib.hid (Dn.refl W)
 go_enter Tryz.func43, Tryz.ntmps43
 exact Wr

set_option maxRecDepth 100000 in
set_option maxHeartbeats 2000000 in
theorem stCurB (m : Mc) (W : World) (hm : m.Ok W) (hs : m.xs.length ≤ 100000) (x : Int) (ex : M.alv m.c m.xs (M.pc m.c) 4 = x) (ek : M.acz m.c m.xs.length (M.pc m.c) 4 = 0) (ev : M.atv m.c m.xs.length (M.pc m.c) 4 = 0) (T : Is.Tabs W) (x0 : 0 ≤ x) (x1 : x < 4294967296) (hd : Is.M.dok x = false) :
   Calls Tryz.prog 43 #[.agg (mach m)] W fun e W' => e = .returned (.tuple #[.agg (ins 0 0 0 0 0), .agg #[.int .i64 1, .int .u32 x]]) ∧ Dn W W' := by
 have hl := hm.len
 have hc := hm.core
 have C1 := Lib.hid fun w => fun (ow : m.Ok w) => ffetch m w ow hs x 0 0 ex ek ev
 have CT := Lib.hid (stTrapped 0 0 false rfl)
 clear ex ek ev
 have C2 := Lib.hid fun w => fun (t : Is.Tabs w) => stDecNo x x0 x1 hd w t
 clear hd
 have C3 := Lib.hid (stChecks m.c x 0 0 0 0 0 false hl)
 have K1 := Lib.hid fun (b3 b1 : Nat) (w : World) (g3 : Blk w b3 4 #[.bool false]) (g1 : Blk w b1 22 #[.int .u32 x]) => stChk1No x b3 b1 w g3 g1
 have CH := Lib.hid (stTrapped 1 x true (by simp))
 have HD := Lib.hid (Dn.refl W)
 go_enter Tryz.func43, Tryz.ntmps43
 go_wp2_with (first | ((with_reducible refine wpList_box (vs := (mach m)) ?_ ?_ ?_); rfl; rfl; intro b_v1 w' nn; refine Hid.out ?_))
 refine Lib.hid ?_
 have d' := nn.dn
 replace HD := hT HD d'
 have v1 := nn.blk
 clear d' nn
 go_wp2_with (first | ((with_reducible refine wpList_alloc zeroI ?_ ?_); rfl; intro b_v2 w' nn; refine Hid.out ?_))
 refine Lib.hid ?_
 have n_v1_v2 := Lib.hid (nn.ne _ v1.lt)
 have HL_v2 : Hid (W.heap.size ≤ b_v2) := Lib.hid (Blk.hi nn HD.out.size)
 have d' := nn.dn
 replace v1 := v1.dn d'
 replace HD := hT HD d'
 have v2 := nn.blk
 clear d' nn
 go_wp2_with (first | ((with_reducible refine wpList_alloc zeroTrap ?_ ?_); rfl; intro b_v3 w' nn; refine Hid.out ?_))
 refine Lib.hid ?_
 have n_v1_v3 := Lib.hid (nn.ne _ v1.lt)
 have n_v2_v3 := Lib.hid (nn.ne _ v2.lt)
 have HL_v3 : Hid (W.heap.size ≤ b_v3) := Lib.hid (Blk.hi nn HD.out.size)
 have d' := nn.dn
 replace v1 := v1.dn d'
 replace v2 := v2.dn d'
 replace HD := hT HD d'
 have v3 := nn.blk
 clear d' nn
 go_wp2_with (first | ((with_reducible refine load33 v1 hl ?_ ?_ ?_); rfl; rfl) | (go_at_call 64; (with_reducible refine (C1.out _ (hm.dn HD.out)).mono ?_); rintro e w' ⟨rfl, d'⟩; refine Hid.out ?_))
 refine Lib.hid ?_
 replace v1 := v1.dn d'
 replace v2 := v2.dn d'
 replace v3 := v3.dn d'
 replace HD := hT HD d'
 clear d'
 go_wp2_with (first | ((with_reducible refine wpList_alloc zeroTrap ?_ ?_); rfl; intro b_v5 w' nn; refine Hid.out ?_))
 refine Lib.hid ?_
 have n_v1_v5 := Lib.hid (nn.ne _ v1.lt)
 have n_v2_v5 := Lib.hid (nn.ne _ v2.lt)
 have n_v3_v5 := Lib.hid (nn.ne _ v3.lt)
 have HL_v5 : Hid (W.heap.size ≤ b_v5) := Lib.hid (Blk.hi nn HD.out.size)
 have d' := nn.dn
 replace v1 := v1.dn d'
 replace v2 := v2.dn d'
 replace v3 := v3.dn d'
 replace HD := hT HD d'
 have v5 := nn.blk
 clear d' nn
 go_wp2_with (first | ((with_reducible refine storeTrap (k := 0) (v := 0) v5 ?_ ?_ ?_ ?_); rfl; rfl; rfl; intro w' r' t'; refine Hid.out ?_))
 refine Lib.hid ?_
 replace v1 := v1.trn t' n_v1_v5.out
 replace v2 := v2.trn t' n_v2_v5.out
 replace v3 := v3.trn t' n_v3_v5.out
 replace HD := Lib.hid (HD.out.trn HL_v5.out t')
 clear t' v5
 have v5 := r'
 clear r'
 go_wp2_with (first | ((with_reducible refine loadTrap v5 ?_ ?_ ?_); rfl; rfl) | (go_at_call 44; (with_reducible refine (CT.out _).mono ?_); rintro e w' ⟨rfl, d'⟩; refine Hid.out ?_))
 refine Lib.hid ?_
 replace v1 := v1.dn d'
 replace v2 := v2.dn d'
 replace v3 := v3.dn d'
 replace v5 := v5.dn d'
 replace HD := hT HD d'
 clear d'
 go_wp2_with (first | (go_at_call 65; (with_reducible refine (C2.out _ (T.dn HD.out)).mono ?_); rintro e w' ⟨rfl, d'⟩; refine Hid.out ?_))
 refine Lib.hid ?_
 replace v1 := v1.dn d'
 replace v2 := v2.dn d'
 replace v3 := v3.dn d'
 replace v5 := v5.dn d'
 replace HD := hT HD d'
 clear d'
 go_wp2_with (first | ((with_reducible refine wpList_alloc zeroI ?_ ?_); rfl; intro b_v6 w' nn; refine Hid.out ?_))
 refine Lib.hid ?_
 have n_v1_v6 := Lib.hid (nn.ne _ v1.lt)
 have n_v2_v6 := Lib.hid (nn.ne _ v2.lt)
 have n_v3_v6 := Lib.hid (nn.ne _ v3.lt)
 have n_v5_v6 := Lib.hid (nn.ne _ v5.lt)
 have HL_v6 : Hid (W.heap.size ≤ b_v6) := Lib.hid (Blk.hi nn HD.out.size)
 have d' := nn.dn
 replace v1 := v1.dn d'
 replace v2 := v2.dn d'
 replace v3 := v3.dn d'
 replace v5 := v5.dn d'
 replace HD := hT HD d'
 have v6 := nn.blk
 clear d' nn
 go_wp2_with (first | ((with_reducible refine storeI (op := 0) (rd := 0) (ra := 0) (rb := 0) (imm := 0) v6 ?_ ?_ ?_ ?_); rfl; rfl; rfl; intro w' r' t'; refine Hid.out ?_))
 refine Lib.hid ?_
 replace v1 := v1.trn t' n_v1_v6.out
 replace v2 := v2.trn t' n_v2_v6.out
 replace v3 := v3.trn t' n_v3_v6.out
 replace v5 := v5.trn t' n_v5_v6.out
 replace HD := Lib.hid (HD.out.trn HL_v6.out t')
 clear t' v6
 have v6 := r'
 clear r'
 go_wp2_with (first | ((with_reducible refine loadCore v1 hl ?_ ?_ ?_); rfl; rfl) | ((with_reducible refine loadI v6 ?_ ?_ ?_); rfl; rfl) | (go_at_call 66; (with_reducible refine (C3.out _).mono ?_); rintro e w' ⟨b_gg, b_q0, b_q1, b_q2, b_q3, rfl, gg, q0, q1, q2, q3, d'⟩; refine Hid.out ?_))
 refine Lib.hid ?_
 replace v1 := v1.dn d'
 replace v2 := v2.dn d'
 replace v3 := v3.dn d'
 replace v5 := v5.dn d'
 replace v6 := v6.dn d'
 replace HD := hT HD d'
 clear d'
 replace gg := gg.out
 replace q0 := q0.out
 replace q1 := q1.out
 replace q2 := q2.out
 replace q3 := q3.out
 go_wp2_with fail
 refine wp_loop_rounds 3 ?_
 rw [rounds_succ]
 have kk := gg.cell (i := 0) (v := .func (.func 84) #[] #[.pointer (some ⟨b_q3, 0, none⟩), .pointer (some ⟨b_q1, 0, none⟩)]) rfl
 go_wp2_with (first | (go_at_call 84; (with_reducible refine (K1.out b_q3 b_q1 _ q3 q1).mono ?_); rintro e w' ⟨rfl, d'⟩; refine Hid.out ?_))
 refine Lib.hid ?_
 replace v1 := v1.dn d'
 replace v2 := v2.dn d'
 replace v3 := v3.dn d'
 replace v5 := v5.dn d'
 replace v6 := v6.dn d'
 replace gg := gg.dn d'
 replace q0 := q0.dn d'
 replace q1 := q1.dn d'
 replace q2 := q2.dn d'
 replace q3 := q3.dn d'
 replace HD := hT HD d'
 clear d'
 clear kk
 go_wp2_with (first | ((with_reducible refine wpList_alloc zeroTrap ?_ ?_); rfl; intro b_v10 w' nn; refine Hid.out ?_))
 refine Lib.hid ?_
 have n_v1_v10 := Lib.hid (nn.ne _ v1.lt)
 have n_v2_v10 := Lib.hid (nn.ne _ v2.lt)
 have n_v3_v10 := Lib.hid (nn.ne _ v3.lt)
 have n_v5_v10 := Lib.hid (nn.ne _ v5.lt)
 have n_v6_v10 := Lib.hid (nn.ne _ v6.lt)
 have n_gg_v10 := Lib.hid (nn.ne _ gg.lt)
 have n_q0_v10 := Lib.hid (nn.ne _ q0.lt)
 have n_q1_v10 := Lib.hid (nn.ne _ q1.lt)
 have n_q2_v10 := Lib.hid (nn.ne _ q2.lt)
 have n_q3_v10 := Lib.hid (nn.ne _ q3.lt)
 have HL_v10 : Hid (W.heap.size ≤ b_v10) := Lib.hid (Blk.hi nn HD.out.size)
 have d' := nn.dn
 replace v1 := v1.dn d'
 replace v2 := v2.dn d'
 replace v3 := v3.dn d'
 replace v5 := v5.dn d'
 replace v6 := v6.dn d'
 replace gg := gg.dn d'
 replace q0 := q0.dn d'
 replace q1 := q1.dn d'
 replace q2 := q2.dn d'
 replace q3 := q3.dn d'
 replace HD := hT HD d'
 have v10 := nn.blk
 clear d' nn
 go_wp2_with (first | ((with_reducible refine storeTrap (k := 1) (v := x) v10 ?_ ?_ ?_ ?_); rfl; rfl; rfl; intro w' r' t'; refine Hid.out ?_))
 refine Lib.hid ?_
 replace v1 := v1.trn t' n_v1_v10.out
 replace v2 := v2.trn t' n_v2_v10.out
 replace v3 := v3.trn t' n_v3_v10.out
 replace v5 := v5.trn t' n_v5_v10.out
 replace v6 := v6.trn t' n_v6_v10.out
 replace gg := gg.trn t' n_gg_v10.out
 replace q0 := q0.trn t' n_q0_v10.out
 replace q1 := q1.trn t' n_q1_v10.out
 replace q2 := q2.trn t' n_q2_v10.out
 replace q3 := q3.trn t' n_q3_v10.out
 replace HD := Lib.hid (HD.out.trn HL_v10.out t')
 clear t' v10
 have v10 := r'
 clear r'
 go_wp2_with (first | ((with_reducible refine loadTrap v10 ?_ ?_ ?_); rfl; rfl) | (go_at_call 44; (with_reducible refine (CH.out _).mono ?_); rintro e w' ⟨rfl, d'⟩; refine Hid.out ?_))
 refine Lib.hid ?_
 replace v1 := v1.dn d'
 replace v2 := v2.dn d'
 replace v3 := v3.dn d'
 replace v5 := v5.dn d'
 replace v6 := v6.dn d'
 replace gg := gg.dn d'
 replace q0 := q0.dn d'
 replace q1 := q1.dn d'
 replace q2 := q2.dn d'
 replace q3 := q3.dn d'
 replace v10 := v10.dn d'
 replace HD := hT HD d'
 clear d'
 go_wp2_with fail
 clear gg q0 q1 q2 q3
 have nx_v1 : b_v1 ∉ [b_v2, b_v3] := (by simp only [List.mem_cons, List.not_mem_nil, or_false, not_or]; exact ⟨n_v1_v2.out, n_v1_v3.out⟩)
 have nx_v5 : b_v5 ∉ [b_v2, b_v3] := (by simp only [List.mem_cons, List.not_mem_nil, or_false, not_or]; exact ⟨n_v2_v5.out.symm, n_v3_v5.out.symm⟩)
 have nx_v6 : b_v6 ∉ [b_v2, b_v3] := (by simp only [List.mem_cons, List.not_mem_nil, or_false, not_or]; exact ⟨n_v2_v6.out.symm, n_v3_v6.out.symm⟩)
 have nx_v10 : b_v10 ∉ [b_v2, b_v3] := (by simp only [List.mem_cons, List.not_mem_nil, or_false, not_or]; exact ⟨n_v2_v10.out.symm, n_v3_v10.out.symm⟩)
 have hbs : ∀ b ∈ [b_v2, b_v3], ∃ t cs, Blk w' b t cs ∧ NoU8 cs := by
   intro b hb
   simp only [List.mem_cons, List.not_mem_nil, or_false] at hb
   rcases hb with rfl | rfl
   · exact ⟨_, _, v2, (NoU8.ins _ _ _ _ _)⟩
   · exact ⟨_, _, v3, (NoU8.trap _ _)⟩
 have hbl : ∀ b ∈ [b_v2, b_v3], W.heap.size ≤ b := by
   intro b hb
   simp only [List.mem_cons, List.not_mem_nil, or_false] at hb
   rcases hb with rfl | rfl
   · exact HL_v2.out
   · exact HL_v3.out
 refine wp_region_picks [b_v2, b_v3] [0, 1] 2 (by kernel_rfl) (by kernel_rfl) rfl (by kernel_rfl) ?_
 simp only [pickL, List.drop_succ_cons, List.drop_zero, List.take_succ_cons, List.take_zero, List.cons_append, List.nil_append]
 refine ⟨?_, ?_, ?_⟩
 rotate_left 1
 refine ⟨_, calx_pure (by rfl) (fun u => by go_simp; rfl), ?_⟩
 simp only [Act.put, tA, tS, tZ]
 refine ⟨_, calxTrap v10 nx_v10 (by rfl) rfl, ?_⟩
 simp only [Act.put, tA, tS, tZ]
 exact rfl
 have e0 : Dx [b_v2, b_v3] w' w'.drew := Dn.dx (Dn.drawn _)
 have f_v2 := v2.dn (Dn.drawn w')
 have f_v3 := v3.dn (Dn.drawn w')
 refine wpX_one 2 (by kernel_rfl) ?_
 refine x1_store 0 (vs := (ins 0 0 0 0 0)) rfl f_v2 (.inl (by simp)) infoI (by simp [ins]) (insOne _ _ _ _ _) rfl rfl e0 fun u1 y1 du1 t1 e1 g1 => ?_
 rw [lay_all (ins 0 0 0 0 0) (ins 0 0 0 0 0) rfl] at g1
 replace f_v3 := (f_v3.dn du1).trn t1 n_v2_v3.out.symm
 clear f_v2 e0
 have f_v2 := g1
 have e0 := e1
 clear g1 t1 du1 e1
 refine wpX_one 3 (by kernel_rfl) ?_
 refine x1_store 0 (vs := #[.int .i64 1, .int .u32 x]) rfl f_v3 (.inl (by simp)) infoTrap (by simp) (by simp [Value.oneCell']) rfl rfl e0 fun u1 y1 du1 t1 e1 g1 => ?_
 rw [lay_all #[.int .i64 0, .int .u32 0] #[.int .i64 1, .int .u32 x] rfl] at g1
 replace f_v2 := (f_v2.dn du1).trn t1 n_v2_v3.out
 clear f_v3 e0
 have f_v3 := g1
 have e0 := e1
 clear g1 t1 du1 e1
 refine wpX_end (by kernel_rfl) fun w' dx => NoPanic.normal ?_
 have D := e0.trans (Dn.dx dx)
 replace f_v2 := f_v2.dn dx
 replace f_v3 := f_v3.dn dx
 clear e0 dx
 replace v1 := v1.dx D nx_v1
 replace v5 := v5.dx D nx_v5
 replace v6 := v6.dx D nx_v6
 replace v10 := v10.dx D nx_v10
 replace HD := Lib.hid (HD.out.of_dx D hbl)
 clear v2 v3 D hbs hbl nx_v1 nx_v5 nx_v6 nx_v10
 have v2 := f_v2
 clear f_v2
 have v3 := f_v3
 clear f_v3
 go_wp2_with fail
 exact retIT rfl rfl rfl v2 v3 ⟨rfl, HD.out⟩ rfl

set_option maxRecDepth 100000 in
set_option maxHeartbeats 2000000 in
theorem stCurC (m : Mc) (W : World) (hm : m.Ok W) (hs : m.xs.length ≤ 100000) (x : Int) (ex : M.alv m.c m.xs (M.pc m.c) 4 = x) (ek : M.acz m.c m.xs.length (M.pc m.c) 4 = 0) (ev : M.atv m.c m.xs.length (M.pc m.c) 4 = 0) (T : Is.Tabs W) (x0 : 0 ≤ x) (x1 : x < 4294967296) (op rd ra rb imm : Int) (e1 : Is.M.dOp x = op) (e2 : Is.M.dRd x = rd) (e3 : Is.M.dRa x = ra) (e4 : Is.M.dRb x = rb) (e5 : Is.M.dImm x = imm) (hd : Is.M.dok x = true) (HK : ∀ (b2 b0 b1 : Nat) (w : World), Blk w b2 63 (ins op rd ra rb imm) → Blk w b0 26 (ints .u32 m.c) → Blk w b1 22 #[.int .u32 x] → Calls Tryz.prog 86 #[.pointer (some ⟨b2, 0, none⟩), .pointer (some ⟨b0, 0, none⟩), .pointer (some ⟨b1, 0, none⟩)] w fun e W' => e = .returned (.agg #[.int .i64 2, .int .u32 x]) ∧ Dn w W') :
   Calls Tryz.prog 43 #[.agg (mach m)] W fun e W' => e = .returned (.tuple #[.agg (ins 0 0 0 0 0), .agg #[.int .i64 2, .int .u32 x]]) ∧ Dn W W' := by
 have hl := hm.len
 have hc := hm.core
 have C1 := Lib.hid fun w => fun (ow : m.Ok w) => ffetch m w ow hs x 0 0 ex ek ev
 have CT := Lib.hid (stTrapped 0 0 false rfl)
 clear ex ek ev
 have C2 := Lib.hid fun w => fun (t : Is.Tabs w) => (by have h := stDecYes x x0 x1 hd w t; rw [e1, e2, e3, e4, e5] at h; exact h : Calls Tryz.prog 65 #[.int .u32 x] w fun e W' => e = .returned (.tuple #[.agg (ins op rd ra rb imm), .bool true]) ∧ Dn w W')
 clear e1 e2 e3 e4 e5 hd
 have C3 := Lib.hid (stChecks m.c x op rd ra rb imm true hl)
 have K1 := Lib.hid fun (b3 b1 : Nat) (w : World) (g3 : Blk w b3 4 #[.bool true]) (g1 : Blk w b1 22 #[.int .u32 x]) => stChk1Yes x b3 b1 w g3 g1
 have K2 := Lib.hid fun (b2 b0 b1 : Nat) (w : World) (g2 : Blk w b2 63 (ins op rd ra rb imm)) (g0 : Blk w b0 26 (ints .u32 m.c)) (g1 : Blk w b1 22 #[.int .u32 x]) => HK b2 b0 b1 w g2 g0 g1
 clear HK
 have CH := Lib.hid (stTrapped 2 x true (by simp))
 have HD := Lib.hid (Dn.refl W)
 go_enter Tryz.func43, Tryz.ntmps43
 go_wp2_with (first | ((with_reducible refine wpList_box (vs := (mach m)) ?_ ?_ ?_); rfl; rfl; intro b_v1 w' nn; refine Hid.out ?_))
 refine Lib.hid ?_
 have d' := nn.dn
 replace HD := hT HD d'
 have v1 := nn.blk
 clear d' nn
 go_wp2_with (first | ((with_reducible refine wpList_alloc zeroI ?_ ?_); rfl; intro b_v2 w' nn; refine Hid.out ?_))
 refine Lib.hid ?_
 have n_v1_v2 := Lib.hid (nn.ne _ v1.lt)
 have HL_v2 : Hid (W.heap.size ≤ b_v2) := Lib.hid (Blk.hi nn HD.out.size)
 have d' := nn.dn
 replace v1 := v1.dn d'
 replace HD := hT HD d'
 have v2 := nn.blk
 clear d' nn
 go_wp2_with (first | ((with_reducible refine wpList_alloc zeroTrap ?_ ?_); rfl; intro b_v3 w' nn; refine Hid.out ?_))
 refine Lib.hid ?_
 have n_v1_v3 := Lib.hid (nn.ne _ v1.lt)
 have n_v2_v3 := Lib.hid (nn.ne _ v2.lt)
 have HL_v3 : Hid (W.heap.size ≤ b_v3) := Lib.hid (Blk.hi nn HD.out.size)
 have d' := nn.dn
 replace v1 := v1.dn d'
 replace v2 := v2.dn d'
 replace HD := hT HD d'
 have v3 := nn.blk
 clear d' nn
 go_wp2_with (first | ((with_reducible refine load33 v1 hl ?_ ?_ ?_); rfl; rfl) | (go_at_call 64; (with_reducible refine (C1.out _ (hm.dn HD.out)).mono ?_); rintro e w' ⟨rfl, d'⟩; refine Hid.out ?_))
 refine Lib.hid ?_
 replace v1 := v1.dn d'
 replace v2 := v2.dn d'
 replace v3 := v3.dn d'
 replace HD := hT HD d'
 clear d'
 go_wp2_with (first | ((with_reducible refine wpList_alloc zeroTrap ?_ ?_); rfl; intro b_v5 w' nn; refine Hid.out ?_))
 refine Lib.hid ?_
 have n_v1_v5 := Lib.hid (nn.ne _ v1.lt)
 have n_v2_v5 := Lib.hid (nn.ne _ v2.lt)
 have n_v3_v5 := Lib.hid (nn.ne _ v3.lt)
 have HL_v5 : Hid (W.heap.size ≤ b_v5) := Lib.hid (Blk.hi nn HD.out.size)
 have d' := nn.dn
 replace v1 := v1.dn d'
 replace v2 := v2.dn d'
 replace v3 := v3.dn d'
 replace HD := hT HD d'
 have v5 := nn.blk
 clear d' nn
 go_wp2_with (first | ((with_reducible refine storeTrap (k := 0) (v := 0) v5 ?_ ?_ ?_ ?_); rfl; rfl; rfl; intro w' r' t'; refine Hid.out ?_))
 refine Lib.hid ?_
 replace v1 := v1.trn t' n_v1_v5.out
 replace v2 := v2.trn t' n_v2_v5.out
 replace v3 := v3.trn t' n_v3_v5.out
 replace HD := Lib.hid (HD.out.trn HL_v5.out t')
 clear t' v5
 have v5 := r'
 clear r'
 go_wp2_with (first | ((with_reducible refine loadTrap v5 ?_ ?_ ?_); rfl; rfl) | (go_at_call 44; (with_reducible refine (CT.out _).mono ?_); rintro e w' ⟨rfl, d'⟩; refine Hid.out ?_))
 refine Lib.hid ?_
 replace v1 := v1.dn d'
 replace v2 := v2.dn d'
 replace v3 := v3.dn d'
 replace v5 := v5.dn d'
 replace HD := hT HD d'
 clear d'
 go_wp2_with (first | (go_at_call 65; (with_reducible refine (C2.out _ (T.dn HD.out)).mono ?_); rintro e w' ⟨rfl, d'⟩; refine Hid.out ?_))
 refine Lib.hid ?_
 replace v1 := v1.dn d'
 replace v2 := v2.dn d'
 replace v3 := v3.dn d'
 replace v5 := v5.dn d'
 replace HD := hT HD d'
 clear d'
 go_wp2_with (first | ((with_reducible refine wpList_alloc zeroI ?_ ?_); rfl; intro b_v6 w' nn; refine Hid.out ?_))
 refine Lib.hid ?_
 have n_v1_v6 := Lib.hid (nn.ne _ v1.lt)
 have n_v2_v6 := Lib.hid (nn.ne _ v2.lt)
 have n_v3_v6 := Lib.hid (nn.ne _ v3.lt)
 have n_v5_v6 := Lib.hid (nn.ne _ v5.lt)
 have HL_v6 : Hid (W.heap.size ≤ b_v6) := Lib.hid (Blk.hi nn HD.out.size)
 have d' := nn.dn
 replace v1 := v1.dn d'
 replace v2 := v2.dn d'
 replace v3 := v3.dn d'
 replace v5 := v5.dn d'
 replace HD := hT HD d'
 have v6 := nn.blk
 clear d' nn
 go_wp2_with (first | ((with_reducible refine storeI (op := op) (rd := rd) (ra := ra) (rb := rb) (imm := imm) v6 ?_ ?_ ?_ ?_); rfl; rfl; rfl; intro w' r' t'; refine Hid.out ?_))
 refine Lib.hid ?_
 replace v1 := v1.trn t' n_v1_v6.out
 replace v2 := v2.trn t' n_v2_v6.out
 replace v3 := v3.trn t' n_v3_v6.out
 replace v5 := v5.trn t' n_v5_v6.out
 replace HD := Lib.hid (HD.out.trn HL_v6.out t')
 clear t' v6
 have v6 := r'
 clear r'
 go_wp2_with (first | ((with_reducible refine loadCore v1 hl ?_ ?_ ?_); rfl; rfl) | ((with_reducible refine loadI v6 ?_ ?_ ?_); rfl; rfl) | (go_at_call 66; (with_reducible refine (C3.out _).mono ?_); rintro e w' ⟨b_gg, b_q0, b_q1, b_q2, b_q3, rfl, gg, q0, q1, q2, q3, d'⟩; refine Hid.out ?_))
 refine Lib.hid ?_
 replace v1 := v1.dn d'
 replace v2 := v2.dn d'
 replace v3 := v3.dn d'
 replace v5 := v5.dn d'
 replace v6 := v6.dn d'
 replace HD := hT HD d'
 clear d'
 replace gg := gg.out
 replace q0 := q0.out
 replace q1 := q1.out
 replace q2 := q2.out
 replace q3 := q3.out
 go_wp2_with fail
 refine wp_loop_rounds 3 ?_
 rw [rounds_succ]
 have kk := gg.cell (i := 0) (v := .func (.func 84) #[] #[.pointer (some ⟨b_q3, 0, none⟩), .pointer (some ⟨b_q1, 0, none⟩)]) rfl
 go_wp2_with (first | (go_at_call 84; (with_reducible refine (K1.out b_q3 b_q1 _ q3 q1).mono ?_); rintro e w' ⟨rfl, d'⟩; refine Hid.out ?_))
 refine Lib.hid ?_
 replace v1 := v1.dn d'
 replace v2 := v2.dn d'
 replace v3 := v3.dn d'
 replace v5 := v5.dn d'
 replace v6 := v6.dn d'
 replace gg := gg.dn d'
 replace q0 := q0.dn d'
 replace q1 := q1.dn d'
 replace q2 := q2.dn d'
 replace q3 := q3.dn d'
 replace HD := hT HD d'
 clear d'
 clear kk
 go_wp2_with (first | ((with_reducible refine wpList_alloc zeroTrap ?_ ?_); rfl; intro b_v10 w' nn; refine Hid.out ?_))
 refine Lib.hid ?_
 have n_v1_v10 := Lib.hid (nn.ne _ v1.lt)
 have n_v2_v10 := Lib.hid (nn.ne _ v2.lt)
 have n_v3_v10 := Lib.hid (nn.ne _ v3.lt)
 have n_v5_v10 := Lib.hid (nn.ne _ v5.lt)
 have n_v6_v10 := Lib.hid (nn.ne _ v6.lt)
 have n_gg_v10 := Lib.hid (nn.ne _ gg.lt)
 have n_q0_v10 := Lib.hid (nn.ne _ q0.lt)
 have n_q1_v10 := Lib.hid (nn.ne _ q1.lt)
 have n_q2_v10 := Lib.hid (nn.ne _ q2.lt)
 have n_q3_v10 := Lib.hid (nn.ne _ q3.lt)
 have HL_v10 : Hid (W.heap.size ≤ b_v10) := Lib.hid (Blk.hi nn HD.out.size)
 have d' := nn.dn
 replace v1 := v1.dn d'
 replace v2 := v2.dn d'
 replace v3 := v3.dn d'
 replace v5 := v5.dn d'
 replace v6 := v6.dn d'
 replace gg := gg.dn d'
 replace q0 := q0.dn d'
 replace q1 := q1.dn d'
 replace q2 := q2.dn d'
 replace q3 := q3.dn d'
 replace HD := hT HD d'
 have v10 := nn.blk
 clear d' nn
 go_wp2_with (first | ((with_reducible refine storeTrap (k := 0) (v := 0) v10 ?_ ?_ ?_ ?_); rfl; rfl; rfl; intro w' r' t'; refine Hid.out ?_))
 refine Lib.hid ?_
 replace v1 := v1.trn t' n_v1_v10.out
 replace v2 := v2.trn t' n_v2_v10.out
 replace v3 := v3.trn t' n_v3_v10.out
 replace v5 := v5.trn t' n_v5_v10.out
 replace v6 := v6.trn t' n_v6_v10.out
 replace gg := gg.trn t' n_gg_v10.out
 replace q0 := q0.trn t' n_q0_v10.out
 replace q1 := q1.trn t' n_q1_v10.out
 replace q2 := q2.trn t' n_q2_v10.out
 replace q3 := q3.trn t' n_q3_v10.out
 replace HD := Lib.hid (HD.out.trn HL_v10.out t')
 clear t' v10
 have v10 := r'
 clear r'
 go_wp2_with (first | ((with_reducible refine loadTrap v10 ?_ ?_ ?_); rfl; rfl) | (go_at_call 44; (with_reducible refine (CT.out _).mono ?_); rintro e w' ⟨rfl, d'⟩; refine Hid.out ?_))
 refine Lib.hid ?_
 replace v1 := v1.dn d'
 replace v2 := v2.dn d'
 replace v3 := v3.dn d'
 replace v5 := v5.dn d'
 replace v6 := v6.dn d'
 replace gg := gg.dn d'
 replace q0 := q0.dn d'
 replace q1 := q1.dn d'
 replace q2 := q2.dn d'
 replace q3 := q3.dn d'
 replace v10 := v10.dn d'
 replace HD := hT HD d'
 clear d'
 go_wp2_with fail
 rw [rounds_succ]
 have kk := gg.cell (i := 1) (v := .func (.func 86) #[] #[.pointer (some ⟨b_q2, 0, none⟩), .pointer (some ⟨b_q0, 0, none⟩), .pointer (some ⟨b_q1, 0, none⟩)]) rfl
 go_wp2_with (first | (go_at_call 86; (with_reducible refine (K2.out b_q2 b_q0 b_q1 _ q2 q0 q1).mono ?_); rintro e w' ⟨rfl, d'⟩; refine Hid.out ?_))
 refine Lib.hid ?_
 replace v1 := v1.dn d'
 replace v2 := v2.dn d'
 replace v3 := v3.dn d'
 replace v5 := v5.dn d'
 replace v6 := v6.dn d'
 replace gg := gg.dn d'
 replace q0 := q0.dn d'
 replace q1 := q1.dn d'
 replace q2 := q2.dn d'
 replace q3 := q3.dn d'
 replace v10 := v10.dn d'
 replace HD := hT HD d'
 clear d'
 clear kk
 go_wp2_with (first | ((with_reducible refine wpList_alloc zeroTrap ?_ ?_); rfl; intro b_v1010 w' nn; refine Hid.out ?_))
 refine Lib.hid ?_
 have n_v1_v1010 := Lib.hid (nn.ne _ v1.lt)
 have n_v2_v1010 := Lib.hid (nn.ne _ v2.lt)
 have n_v3_v1010 := Lib.hid (nn.ne _ v3.lt)
 have n_v5_v1010 := Lib.hid (nn.ne _ v5.lt)
 have n_v6_v1010 := Lib.hid (nn.ne _ v6.lt)
 have n_gg_v1010 := Lib.hid (nn.ne _ gg.lt)
 have n_q0_v1010 := Lib.hid (nn.ne _ q0.lt)
 have n_q1_v1010 := Lib.hid (nn.ne _ q1.lt)
 have n_q2_v1010 := Lib.hid (nn.ne _ q2.lt)
 have n_q3_v1010 := Lib.hid (nn.ne _ q3.lt)
 have n_v10_v1010 := Lib.hid (nn.ne _ v10.lt)
 have HL_v1010 : Hid (W.heap.size ≤ b_v1010) := Lib.hid (Blk.hi nn HD.out.size)
 have d' := nn.dn
 replace v1 := v1.dn d'
 replace v2 := v2.dn d'
 replace v3 := v3.dn d'
 replace v5 := v5.dn d'
 replace v6 := v6.dn d'
 replace gg := gg.dn d'
 replace q0 := q0.dn d'
 replace q1 := q1.dn d'
 replace q2 := q2.dn d'
 replace q3 := q3.dn d'
 replace v10 := v10.dn d'
 replace HD := hT HD d'
 have v1010 := nn.blk
 clear d' nn
 go_wp2_with (first | ((with_reducible refine storeTrap (k := 2) (v := x) v1010 ?_ ?_ ?_ ?_); rfl; rfl; rfl; intro w' r' t'; refine Hid.out ?_))
 refine Lib.hid ?_
 replace v1 := v1.trn t' n_v1_v1010.out
 replace v2 := v2.trn t' n_v2_v1010.out
 replace v3 := v3.trn t' n_v3_v1010.out
 replace v5 := v5.trn t' n_v5_v1010.out
 replace v6 := v6.trn t' n_v6_v1010.out
 replace gg := gg.trn t' n_gg_v1010.out
 replace q0 := q0.trn t' n_q0_v1010.out
 replace q1 := q1.trn t' n_q1_v1010.out
 replace q2 := q2.trn t' n_q2_v1010.out
 replace q3 := q3.trn t' n_q3_v1010.out
 replace v10 := v10.trn t' n_v10_v1010.out
 replace HD := Lib.hid (HD.out.trn HL_v1010.out t')
 clear t' v1010
 have v1010 := r'
 clear r'
 go_wp2_with (first | ((with_reducible refine loadTrap v1010 ?_ ?_ ?_); rfl; rfl) | (go_at_call 44; (with_reducible refine (CH.out _).mono ?_); rintro e w' ⟨rfl, d'⟩; refine Hid.out ?_))
 refine Lib.hid ?_
 replace v1 := v1.dn d'
 replace v2 := v2.dn d'
 replace v3 := v3.dn d'
 replace v5 := v5.dn d'
 replace v6 := v6.dn d'
 replace gg := gg.dn d'
 replace q0 := q0.dn d'
 replace q1 := q1.dn d'
 replace q2 := q2.dn d'
 replace q3 := q3.dn d'
 replace v10 := v10.dn d'
 replace v1010 := v1010.dn d'
 replace HD := hT HD d'
 clear d'
 go_wp2_with fail
 clear gg q0 q1 q2 q3
 have nx_v1 : b_v1 ∉ [b_v2, b_v3] := (by simp only [List.mem_cons, List.not_mem_nil, or_false, not_or]; exact ⟨n_v1_v2.out, n_v1_v3.out⟩)
 have nx_v5 : b_v5 ∉ [b_v2, b_v3] := (by simp only [List.mem_cons, List.not_mem_nil, or_false, not_or]; exact ⟨n_v2_v5.out.symm, n_v3_v5.out.symm⟩)
 have nx_v6 : b_v6 ∉ [b_v2, b_v3] := (by simp only [List.mem_cons, List.not_mem_nil, or_false, not_or]; exact ⟨n_v2_v6.out.symm, n_v3_v6.out.symm⟩)
 have nx_v10 : b_v10 ∉ [b_v2, b_v3] := (by simp only [List.mem_cons, List.not_mem_nil, or_false, not_or]; exact ⟨n_v2_v10.out.symm, n_v3_v10.out.symm⟩)
 have nx_v1010 : b_v1010 ∉ [b_v2, b_v3] := (by simp only [List.mem_cons, List.not_mem_nil, or_false, not_or]; exact ⟨n_v2_v1010.out.symm, n_v3_v1010.out.symm⟩)
 have hbs : ∀ b ∈ [b_v2, b_v3], ∃ t cs, Blk w' b t cs ∧ NoU8 cs := by
   intro b hb
   simp only [List.mem_cons, List.not_mem_nil, or_false] at hb
   rcases hb with rfl | rfl
   · exact ⟨_, _, v2, (NoU8.ins _ _ _ _ _)⟩
   · exact ⟨_, _, v3, (NoU8.trap _ _)⟩
 have hbl : ∀ b ∈ [b_v2, b_v3], W.heap.size ≤ b := by
   intro b hb
   simp only [List.mem_cons, List.not_mem_nil, or_false] at hb
   rcases hb with rfl | rfl
   · exact HL_v2.out
   · exact HL_v3.out
 refine wp_region_picks [b_v2, b_v3] [0, 1] 2 (by kernel_rfl) (by kernel_rfl) rfl (by kernel_rfl) ?_
 simp only [pickL, List.drop_succ_cons, List.drop_zero, List.take_succ_cons, List.take_zero, List.cons_append, List.nil_append]
 refine ⟨?_, ?_, ?_⟩
 rotate_left 1
 refine ⟨_, calx_pure (by rfl) (fun u => by go_simp; rfl), ?_⟩
 simp only [Act.put, tA, tS, tZ]
 refine ⟨_, calxTrap v1010 nx_v1010 (by rfl) rfl, ?_⟩
 simp only [Act.put, tA, tS, tZ]
 exact rfl
 have e0 : Dx [b_v2, b_v3] w' w'.drew := Dn.dx (Dn.drawn _)
 have f_v2 := v2.dn (Dn.drawn w')
 have f_v3 := v3.dn (Dn.drawn w')
 refine wpX_one 2 (by kernel_rfl) ?_
 refine x1_store 0 (vs := (ins 0 0 0 0 0)) rfl f_v2 (.inl (by simp)) infoI (by simp [ins]) (insOne _ _ _ _ _) rfl rfl e0 fun u1 y1 du1 t1 e1 g1 => ?_
 rw [lay_all (ins 0 0 0 0 0) (ins 0 0 0 0 0) rfl] at g1
 replace f_v3 := (f_v3.dn du1).trn t1 n_v2_v3.out.symm
 clear f_v2 e0
 have f_v2 := g1
 have e0 := e1
 clear g1 t1 du1 e1
 refine wpX_one 3 (by kernel_rfl) ?_
 refine x1_store 0 (vs := #[.int .i64 2, .int .u32 x]) rfl f_v3 (.inl (by simp)) infoTrap (by simp) (by simp [Value.oneCell']) rfl rfl e0 fun u1 y1 du1 t1 e1 g1 => ?_
 rw [lay_all #[.int .i64 0, .int .u32 0] #[.int .i64 2, .int .u32 x] rfl] at g1
 replace f_v2 := (f_v2.dn du1).trn t1 n_v2_v3.out
 clear f_v3 e0
 have f_v3 := g1
 have e0 := e1
 clear g1 t1 du1 e1
 refine wpX_end (by kernel_rfl) fun w' dx => NoPanic.normal ?_
 have D := e0.trans (Dn.dx dx)
 replace f_v2 := f_v2.dn dx
 replace f_v3 := f_v3.dn dx
 clear e0 dx
 replace v1 := v1.dx D nx_v1
 replace v5 := v5.dx D nx_v5
 replace v6 := v6.dx D nx_v6
 replace v10 := v10.dx D nx_v10
 replace v1010 := v1010.dx D nx_v1010
 replace HD := Lib.hid (HD.out.of_dx D hbl)
 clear v2 v3 D hbs hbl nx_v1 nx_v5 nx_v6 nx_v10 nx_v1010
 have v2 := f_v2
 clear f_v2
 have v3 := f_v3
 clear f_v3
 go_wp2_with fail
 exact retIT rfl rfl rfl v2 v3 ⟨rfl, HD.out⟩ rfl

set_option maxRecDepth 100000 in
set_option maxHeartbeats 2000000 in
theorem stCurD (m : Mc) (W : World) (hm : m.Ok W) (hs : m.xs.length ≤ 100000) (x : Int) (ex : M.alv m.c m.xs (M.pc m.c) 4 = x) (ek : M.acz m.c m.xs.length (M.pc m.c) 4 = 0) (ev : M.atv m.c m.xs.length (M.pc m.c) 4 = 0) (T : Is.Tabs W) (x0 : 0 ≤ x) (x1 : x < 4294967296) (op rd ra rb imm : Int) (e1 : Is.M.dOp x = op) (e2 : Is.M.dRd x = rd) (e3 : Is.M.dRa x = ra) (e4 : Is.M.dRb x = rb) (e5 : Is.M.dImm x = imm) (hd : Is.M.dok x = true) (HK : ∀ (b2 b0 b1 : Nat) (w : World), Blk w b2 63 (ins op rd ra rb imm) → Blk w b0 26 (ints .u32 m.c) → Blk w b1 22 #[.int .u32 x] → Calls Tryz.prog 86 #[.pointer (some ⟨b2, 0, none⟩), .pointer (some ⟨b0, 0, none⟩), .pointer (some ⟨b1, 0, none⟩)] w fun e W' => e = .returned (.agg #[.int .i64 0, .int .u32 0]) ∧ Dn w W') :
   Calls Tryz.prog 43 #[.agg (mach m)] W fun e W' => e = .returned (.tuple #[.agg (ins op rd ra rb imm), .agg #[.int .i64 0, .int .u32 0]]) ∧ Dn W W' := by
 have hl := hm.len
 have hc := hm.core
 have C1 := Lib.hid fun w => fun (ow : m.Ok w) => ffetch m w ow hs x 0 0 ex ek ev
 have CT := Lib.hid (stTrapped 0 0 false rfl)
 clear ex ek ev
 have C2 := Lib.hid fun w => fun (t : Is.Tabs w) => (by have h := stDecYes x x0 x1 hd w t; rw [e1, e2, e3, e4, e5] at h; exact h : Calls Tryz.prog 65 #[.int .u32 x] w fun e W' => e = .returned (.tuple #[.agg (ins op rd ra rb imm), .bool true]) ∧ Dn w W')
 clear e1 e2 e3 e4 e5 hd
 have C3 := Lib.hid (stChecks m.c x op rd ra rb imm true hl)
 have K1 := Lib.hid fun (b3 b1 : Nat) (w : World) (g3 : Blk w b3 4 #[.bool true]) (g1 : Blk w b1 22 #[.int .u32 x]) => stChk1Yes x b3 b1 w g3 g1
 have K2 := Lib.hid fun (b2 b0 b1 : Nat) (w : World) (g2 : Blk w b2 63 (ins op rd ra rb imm)) (g0 : Blk w b0 26 (ints .u32 m.c)) (g1 : Blk w b1 22 #[.int .u32 x]) => HK b2 b0 b1 w g2 g0 g1
 clear HK
 have CH := Lib.hid (stTrapped 0 0 false rfl)
 have HD := Lib.hid (Dn.refl W)
 go_enter Tryz.func43, Tryz.ntmps43
 go_wp2_with (first | ((with_reducible refine wpList_box (vs := (mach m)) ?_ ?_ ?_); rfl; rfl; intro b_v1 w' nn; refine Hid.out ?_))
 refine Lib.hid ?_
 have d' := nn.dn
 replace HD := hT HD d'
 have v1 := nn.blk
 clear d' nn
 go_wp2_with (first | ((with_reducible refine wpList_alloc zeroI ?_ ?_); rfl; intro b_v2 w' nn; refine Hid.out ?_))
 refine Lib.hid ?_
 have n_v1_v2 := Lib.hid (nn.ne _ v1.lt)
 have HL_v2 : Hid (W.heap.size ≤ b_v2) := Lib.hid (Blk.hi nn HD.out.size)
 have d' := nn.dn
 replace v1 := v1.dn d'
 replace HD := hT HD d'
 have v2 := nn.blk
 clear d' nn
 go_wp2_with (first | ((with_reducible refine wpList_alloc zeroTrap ?_ ?_); rfl; intro b_v3 w' nn; refine Hid.out ?_))
 refine Lib.hid ?_
 have n_v1_v3 := Lib.hid (nn.ne _ v1.lt)
 have n_v2_v3 := Lib.hid (nn.ne _ v2.lt)
 have HL_v3 : Hid (W.heap.size ≤ b_v3) := Lib.hid (Blk.hi nn HD.out.size)
 have d' := nn.dn
 replace v1 := v1.dn d'
 replace v2 := v2.dn d'
 replace HD := hT HD d'
 have v3 := nn.blk
 clear d' nn
 go_wp2_with (first | ((with_reducible refine load33 v1 hl ?_ ?_ ?_); rfl; rfl) | (go_at_call 64; (with_reducible refine (C1.out _ (hm.dn HD.out)).mono ?_); rintro e w' ⟨rfl, d'⟩; refine Hid.out ?_))
 refine Lib.hid ?_
 replace v1 := v1.dn d'
 replace v2 := v2.dn d'
 replace v3 := v3.dn d'
 replace HD := hT HD d'
 clear d'
 go_wp2_with (first | ((with_reducible refine wpList_alloc zeroTrap ?_ ?_); rfl; intro b_v5 w' nn; refine Hid.out ?_))
 refine Lib.hid ?_
 have n_v1_v5 := Lib.hid (nn.ne _ v1.lt)
 have n_v2_v5 := Lib.hid (nn.ne _ v2.lt)
 have n_v3_v5 := Lib.hid (nn.ne _ v3.lt)
 have HL_v5 : Hid (W.heap.size ≤ b_v5) := Lib.hid (Blk.hi nn HD.out.size)
 have d' := nn.dn
 replace v1 := v1.dn d'
 replace v2 := v2.dn d'
 replace v3 := v3.dn d'
 replace HD := hT HD d'
 have v5 := nn.blk
 clear d' nn
 go_wp2_with (first | ((with_reducible refine storeTrap (k := 0) (v := 0) v5 ?_ ?_ ?_ ?_); rfl; rfl; rfl; intro w' r' t'; refine Hid.out ?_))
 refine Lib.hid ?_
 replace v1 := v1.trn t' n_v1_v5.out
 replace v2 := v2.trn t' n_v2_v5.out
 replace v3 := v3.trn t' n_v3_v5.out
 replace HD := Lib.hid (HD.out.trn HL_v5.out t')
 clear t' v5
 have v5 := r'
 clear r'
 go_wp2_with (first | ((with_reducible refine loadTrap v5 ?_ ?_ ?_); rfl; rfl) | (go_at_call 44; (with_reducible refine (CT.out _).mono ?_); rintro e w' ⟨rfl, d'⟩; refine Hid.out ?_))
 refine Lib.hid ?_
 replace v1 := v1.dn d'
 replace v2 := v2.dn d'
 replace v3 := v3.dn d'
 replace v5 := v5.dn d'
 replace HD := hT HD d'
 clear d'
 go_wp2_with (first | (go_at_call 65; (with_reducible refine (C2.out _ (T.dn HD.out)).mono ?_); rintro e w' ⟨rfl, d'⟩; refine Hid.out ?_))
 refine Lib.hid ?_
 replace v1 := v1.dn d'
 replace v2 := v2.dn d'
 replace v3 := v3.dn d'
 replace v5 := v5.dn d'
 replace HD := hT HD d'
 clear d'
 go_wp2_with (first | ((with_reducible refine wpList_alloc zeroI ?_ ?_); rfl; intro b_v6 w' nn; refine Hid.out ?_))
 refine Lib.hid ?_
 have n_v1_v6 := Lib.hid (nn.ne _ v1.lt)
 have n_v2_v6 := Lib.hid (nn.ne _ v2.lt)
 have n_v3_v6 := Lib.hid (nn.ne _ v3.lt)
 have n_v5_v6 := Lib.hid (nn.ne _ v5.lt)
 have HL_v6 : Hid (W.heap.size ≤ b_v6) := Lib.hid (Blk.hi nn HD.out.size)
 have d' := nn.dn
 replace v1 := v1.dn d'
 replace v2 := v2.dn d'
 replace v3 := v3.dn d'
 replace v5 := v5.dn d'
 replace HD := hT HD d'
 have v6 := nn.blk
 clear d' nn
 go_wp2_with (first | ((with_reducible refine storeI (op := op) (rd := rd) (ra := ra) (rb := rb) (imm := imm) v6 ?_ ?_ ?_ ?_); rfl; rfl; rfl; intro w' r' t'; refine Hid.out ?_))
 refine Lib.hid ?_
 replace v1 := v1.trn t' n_v1_v6.out
 replace v2 := v2.trn t' n_v2_v6.out
 replace v3 := v3.trn t' n_v3_v6.out
 replace v5 := v5.trn t' n_v5_v6.out
 replace HD := Lib.hid (HD.out.trn HL_v6.out t')
 clear t' v6
 have v6 := r'
 clear r'
 go_wp2_with (first | ((with_reducible refine loadCore v1 hl ?_ ?_ ?_); rfl; rfl) | ((with_reducible refine loadI v6 ?_ ?_ ?_); rfl; rfl) | (go_at_call 66; (with_reducible refine (C3.out _).mono ?_); rintro e w' ⟨b_gg, b_q0, b_q1, b_q2, b_q3, rfl, gg, q0, q1, q2, q3, d'⟩; refine Hid.out ?_))
 refine Lib.hid ?_
 replace v1 := v1.dn d'
 replace v2 := v2.dn d'
 replace v3 := v3.dn d'
 replace v5 := v5.dn d'
 replace v6 := v6.dn d'
 replace HD := hT HD d'
 clear d'
 replace gg := gg.out
 replace q0 := q0.out
 replace q1 := q1.out
 replace q2 := q2.out
 replace q3 := q3.out
 go_wp2_with fail
 refine wp_loop_rounds 3 ?_
 rw [rounds_succ]
 have kk := gg.cell (i := 0) (v := .func (.func 84) #[] #[.pointer (some ⟨b_q3, 0, none⟩), .pointer (some ⟨b_q1, 0, none⟩)]) rfl
 go_wp2_with (first | (go_at_call 84; (with_reducible refine (K1.out b_q3 b_q1 _ q3 q1).mono ?_); rintro e w' ⟨rfl, d'⟩; refine Hid.out ?_))
 refine Lib.hid ?_
 replace v1 := v1.dn d'
 replace v2 := v2.dn d'
 replace v3 := v3.dn d'
 replace v5 := v5.dn d'
 replace v6 := v6.dn d'
 replace gg := gg.dn d'
 replace q0 := q0.dn d'
 replace q1 := q1.dn d'
 replace q2 := q2.dn d'
 replace q3 := q3.dn d'
 replace HD := hT HD d'
 clear d'
 clear kk
 go_wp2_with (first | ((with_reducible refine wpList_alloc zeroTrap ?_ ?_); rfl; intro b_v10 w' nn; refine Hid.out ?_))
 refine Lib.hid ?_
 have n_v1_v10 := Lib.hid (nn.ne _ v1.lt)
 have n_v2_v10 := Lib.hid (nn.ne _ v2.lt)
 have n_v3_v10 := Lib.hid (nn.ne _ v3.lt)
 have n_v5_v10 := Lib.hid (nn.ne _ v5.lt)
 have n_v6_v10 := Lib.hid (nn.ne _ v6.lt)
 have n_gg_v10 := Lib.hid (nn.ne _ gg.lt)
 have n_q0_v10 := Lib.hid (nn.ne _ q0.lt)
 have n_q1_v10 := Lib.hid (nn.ne _ q1.lt)
 have n_q2_v10 := Lib.hid (nn.ne _ q2.lt)
 have n_q3_v10 := Lib.hid (nn.ne _ q3.lt)
 have HL_v10 : Hid (W.heap.size ≤ b_v10) := Lib.hid (Blk.hi nn HD.out.size)
 have d' := nn.dn
 replace v1 := v1.dn d'
 replace v2 := v2.dn d'
 replace v3 := v3.dn d'
 replace v5 := v5.dn d'
 replace v6 := v6.dn d'
 replace gg := gg.dn d'
 replace q0 := q0.dn d'
 replace q1 := q1.dn d'
 replace q2 := q2.dn d'
 replace q3 := q3.dn d'
 replace HD := hT HD d'
 have v10 := nn.blk
 clear d' nn
 go_wp2_with (first | ((with_reducible refine storeTrap (k := 0) (v := 0) v10 ?_ ?_ ?_ ?_); rfl; rfl; rfl; intro w' r' t'; refine Hid.out ?_))
 refine Lib.hid ?_
 replace v1 := v1.trn t' n_v1_v10.out
 replace v2 := v2.trn t' n_v2_v10.out
 replace v3 := v3.trn t' n_v3_v10.out
 replace v5 := v5.trn t' n_v5_v10.out
 replace v6 := v6.trn t' n_v6_v10.out
 replace gg := gg.trn t' n_gg_v10.out
 replace q0 := q0.trn t' n_q0_v10.out
 replace q1 := q1.trn t' n_q1_v10.out
 replace q2 := q2.trn t' n_q2_v10.out
 replace q3 := q3.trn t' n_q3_v10.out
 replace HD := Lib.hid (HD.out.trn HL_v10.out t')
 clear t' v10
 have v10 := r'
 clear r'
 go_wp2_with (first | ((with_reducible refine loadTrap v10 ?_ ?_ ?_); rfl; rfl) | (go_at_call 44; (with_reducible refine (CT.out _).mono ?_); rintro e w' ⟨rfl, d'⟩; refine Hid.out ?_))
 refine Lib.hid ?_
 replace v1 := v1.dn d'
 replace v2 := v2.dn d'
 replace v3 := v3.dn d'
 replace v5 := v5.dn d'
 replace v6 := v6.dn d'
 replace gg := gg.dn d'
 replace q0 := q0.dn d'
 replace q1 := q1.dn d'
 replace q2 := q2.dn d'
 replace q3 := q3.dn d'
 replace v10 := v10.dn d'
 replace HD := hT HD d'
 clear d'
 go_wp2_with fail
 rw [rounds_succ]
 have kk := gg.cell (i := 1) (v := .func (.func 86) #[] #[.pointer (some ⟨b_q2, 0, none⟩), .pointer (some ⟨b_q0, 0, none⟩), .pointer (some ⟨b_q1, 0, none⟩)]) rfl
 go_wp2_with (first | (go_at_call 86; (with_reducible refine (K2.out b_q2 b_q0 b_q1 _ q2 q0 q1).mono ?_); rintro e w' ⟨rfl, d'⟩; refine Hid.out ?_))
 refine Lib.hid ?_
 replace v1 := v1.dn d'
 replace v2 := v2.dn d'
 replace v3 := v3.dn d'
 replace v5 := v5.dn d'
 replace v6 := v6.dn d'
 replace gg := gg.dn d'
 replace q0 := q0.dn d'
 replace q1 := q1.dn d'
 replace q2 := q2.dn d'
 replace q3 := q3.dn d'
 replace v10 := v10.dn d'
 replace HD := hT HD d'
 clear d'
 clear kk
 go_wp2_with (first | ((with_reducible refine wpList_alloc zeroTrap ?_ ?_); rfl; intro b_v1010 w' nn; refine Hid.out ?_))
 refine Lib.hid ?_
 have n_v1_v1010 := Lib.hid (nn.ne _ v1.lt)
 have n_v2_v1010 := Lib.hid (nn.ne _ v2.lt)
 have n_v3_v1010 := Lib.hid (nn.ne _ v3.lt)
 have n_v5_v1010 := Lib.hid (nn.ne _ v5.lt)
 have n_v6_v1010 := Lib.hid (nn.ne _ v6.lt)
 have n_gg_v1010 := Lib.hid (nn.ne _ gg.lt)
 have n_q0_v1010 := Lib.hid (nn.ne _ q0.lt)
 have n_q1_v1010 := Lib.hid (nn.ne _ q1.lt)
 have n_q2_v1010 := Lib.hid (nn.ne _ q2.lt)
 have n_q3_v1010 := Lib.hid (nn.ne _ q3.lt)
 have n_v10_v1010 := Lib.hid (nn.ne _ v10.lt)
 have HL_v1010 : Hid (W.heap.size ≤ b_v1010) := Lib.hid (Blk.hi nn HD.out.size)
 have d' := nn.dn
 replace v1 := v1.dn d'
 replace v2 := v2.dn d'
 replace v3 := v3.dn d'
 replace v5 := v5.dn d'
 replace v6 := v6.dn d'
 replace gg := gg.dn d'
 replace q0 := q0.dn d'
 replace q1 := q1.dn d'
 replace q2 := q2.dn d'
 replace q3 := q3.dn d'
 replace v10 := v10.dn d'
 replace HD := hT HD d'
 have v1010 := nn.blk
 clear d' nn
 go_wp2_with (first | ((with_reducible refine storeTrap (k := 0) (v := 0) v1010 ?_ ?_ ?_ ?_); rfl; rfl; rfl; intro w' r' t'; refine Hid.out ?_))
 refine Lib.hid ?_
 replace v1 := v1.trn t' n_v1_v1010.out
 replace v2 := v2.trn t' n_v2_v1010.out
 replace v3 := v3.trn t' n_v3_v1010.out
 replace v5 := v5.trn t' n_v5_v1010.out
 replace v6 := v6.trn t' n_v6_v1010.out
 replace gg := gg.trn t' n_gg_v1010.out
 replace q0 := q0.trn t' n_q0_v1010.out
 replace q1 := q1.trn t' n_q1_v1010.out
 replace q2 := q2.trn t' n_q2_v1010.out
 replace q3 := q3.trn t' n_q3_v1010.out
 replace v10 := v10.trn t' n_v10_v1010.out
 replace HD := Lib.hid (HD.out.trn HL_v1010.out t')
 clear t' v1010
 have v1010 := r'
 clear r'
 go_wp2_with (first | ((with_reducible refine loadTrap v1010 ?_ ?_ ?_); rfl; rfl) | (go_at_call 44; (with_reducible refine (CH.out _).mono ?_); rintro e w' ⟨rfl, d'⟩; refine Hid.out ?_))
 refine Lib.hid ?_
 replace v1 := v1.dn d'
 replace v2 := v2.dn d'
 replace v3 := v3.dn d'
 replace v5 := v5.dn d'
 replace v6 := v6.dn d'
 replace gg := gg.dn d'
 replace q0 := q0.dn d'
 replace q1 := q1.dn d'
 replace q2 := q2.dn d'
 replace q3 := q3.dn d'
 replace v10 := v10.dn d'
 replace v1010 := v1010.dn d'
 replace HD := hT HD d'
 clear d'
 go_wp2_with fail
 rw [rounds_succ]
 clear gg q0 q1 q2 q3
 go_wp2_with (first | ((with_reducible refine loadI v6 ?_ ?_ ?_); rfl; rfl) | ((with_reducible refine storeI (op := op) (rd := rd) (ra := ra) (rb := rb) (imm := imm) v2 ?_ ?_ ?_ ?_); rfl; rfl; rfl; intro w' r' t'; refine Hid.out ?_))
 refine Lib.hid ?_
 replace v1 := v1.trn t' n_v1_v2.out
 replace v3 := v3.trn t' n_v2_v3.out.symm
 replace v5 := v5.trn t' n_v2_v5.out.symm
 replace v6 := v6.trn t' n_v2_v6.out.symm
 replace v10 := v10.trn t' n_v2_v10.out.symm
 replace v1010 := v1010.trn t' n_v2_v1010.out.symm
 replace HD := Lib.hid (HD.out.trn HL_v2.out t')
 clear t' v2
 have v2 := r'
 clear r'
 go_wp2_with (first | ((with_reducible refine storeTrap (k := 0) (v := 0) v3 ?_ ?_ ?_ ?_); rfl; rfl; rfl; intro w' r' t'; refine Hid.out ?_))
 refine Lib.hid ?_
 replace v1 := v1.trn t' n_v1_v3.out
 replace v2 := v2.trn t' n_v2_v3.out
 replace v5 := v5.trn t' n_v3_v5.out.symm
 replace v6 := v6.trn t' n_v3_v6.out.symm
 replace v10 := v10.trn t' n_v3_v10.out.symm
 replace v1010 := v1010.trn t' n_v3_v1010.out.symm
 replace HD := Lib.hid (HD.out.trn HL_v3.out t')
 clear t' v3
 have v3 := r'
 clear r'
 go_wp2_with fail
 exact retIT rfl rfl rfl v2 v3 ⟨rfl, HD.out⟩ rfl

def M.nw (f : Int → Int) (c xs : List Int) : Int := if M.nowK c xs = 0 then f (M.fw c xs) else 0
theorem M.nw_go {c xs : List Int} (f : Int → Int) (h : M.nowK c xs = 0) : M.nw f c xs = f (M.fw c xs) := by unfold M.nw; rw [if_pos h]
theorem M.nw_no {c xs : List Int} (f : Int → Int) (h : M.nowK c xs ≠ 0) : M.nw f c xs = 0 := by unfold M.nw; rw [if_neg h]
theorem fw_rng {w : World} {m : Mc} (hm : m.Ok w) : 0 ≤ M.fw m.c m.xs ∧ M.fw m.c m.xs < 4294967296 := alv_rng hm (M.pc m.c) 4 (by decide) (by decide)
theorem not_zero {k v : Int} (h : k ≠ 0) : (!(k == 0 && v == 0)) = true := by
 rw [show (k == 0) = false from beq_eq_false_iff_ne.2 h]; rfl
theorem stCur (m : Mc) (W : World) (hm : m.Ok W) (hs : m.xs.length ≤ 100000) (T : Is.Tabs W) :
   Calls Tryz.prog 43 #[.agg (mach m)] W fun e W' => e = .returned (.tuple #[.agg (ins (M.nw Is.M.dOp m.c m.xs) (M.nw Is.M.dRd m.c m.xs) (M.nw Is.M.dRa m.c m.xs) (M.nw Is.M.dRb m.c m.xs) (M.nw Is.M.dImm m.c m.xs)), .agg #[.int .i64 (M.nowK m.c m.xs), .int .u32 (M.nowV m.c m.xs)]]) ∧ Dn W W' := by
 have hc := hm.core
 have hw := fw_rng hm
 by_cases hk : M.acz m.c m.xs.length (M.pc m.c) 4 = 0
 · have ev := M.atv_yes hk
   cases hd : Is.M.dok (M.fw m.c m.xs)
   · have e := M.nowK_bad hk hd
     have ne : M.nowK m.c m.xs ≠ 0 := by rw [e.1]; decide
     rw [M.nw_no _ ne, M.nw_no _ ne, M.nw_no _ ne, M.nw_no _ ne, M.nw_no _ ne, e.1, e.2]
     exact stCurB m W hm hs _ rfl hk ev T hw.1 hw.2 hd
   · by_cases hp : Is.M.priv (Is.M.dOp (M.fw m.c m.xs)) = true ∧ M.sup m.c = false
     · have e := M.nowK_priv hk hd hp.1 hp.2
       have ne : M.nowK m.c m.xs ≠ 0 := by rw [e.1]; decide
       rw [M.nw_no _ ne, M.nw_no _ ne, M.nw_no _ ne, M.nw_no _ ne, M.nw_no _ ne, e.1, e.2]
       exact stCurC m W hm hs _ rfl hk ev T hw.1 hw.2 _ _ _ _ _ rfl rfl rfl rfl rfl hd (fun b2 b0 b1 w g2 g0 g1 => stChk2C m.c (M.fw m.c m.xs) _ _ _ _ _ b2 b0 b1 w hc g2 g0 g1 hp.1 hp.2)
     · have e := M.nowK_go hk hd (by
         cases h1 : Is.M.priv (Is.M.dOp (M.fw m.c m.xs))
         · exact .inl rfl
         · cases h2 : M.sup m.c
           · exact absurd ⟨h1, h2⟩ hp
           · exact .inr rfl)
       rw [M.nw_go _ e.1, M.nw_go _ e.1, M.nw_go _ e.1, M.nw_go _ e.1, M.nw_go _ e.1, e.1, e.2]
       refine stCurD m W hm hs _ rfl hk ev T hw.1 hw.2 _ _ _ _ _ rfl rfl rfl rfl rfl hd (fun b2 b0 b1 w g2 g0 g1 => ?_)
       cases h1 : Is.M.priv (Is.M.dOp (M.fw m.c m.xs))
       · exact stChk2A m.c (M.fw m.c m.xs) _ _ _ _ _ b2 b0 b1 w hc g2 g0 g1 h1
       · cases h2 : M.sup m.c
         · exact absurd ⟨h1, h2⟩ hp
         · exact stChk2B m.c (M.fw m.c m.xs) _ _ _ _ _ b2 b0 b1 w hc g2 g0 g1 h1 h2
 · have e := M.nowK_fetch hk
   have ne : M.nowK m.c m.xs ≠ 0 := by rw [e.1]; exact hk
   rw [M.nw_no _ ne, M.nw_no _ ne, M.nw_no _ ne, M.nw_no _ ne, M.nw_no _ ne, e.1, e.2]
   exact stCurA m W hm hs _ _ _ rfl rfl (M.atv_no hk) (not_zero hk)
theorem stOp {op rd ra rb imm : Int} (hv : Is.M.ok op rd ra rb imm = true) (hp : Is.M.priv op = true) : op = 21 ∨ op = 22 ∨ op = 23 ∨ op = 24 ∨ op = 25 := by
 unfold Is.M.priv at hp
 simp at hp
 omega
theorem stExeN (m : Mc) (W : World) (hm : m.Ok W) (hs : m.xs.length ≤ 100000) (T : Env2 W) (w : Int) (hd : Is.M.dok w = true) (hp : Is.M.priv (Is.M.dOp w) = false) (r : M.Res) (hr : M.ex m.c m.xs (Is.M.dOp w) (Is.M.dRd w) (Is.M.dRa w) (Is.M.dRb w) (Is.M.dImm w) = r) :
   Calls Tryz.prog 45 #[.agg (mach m), .agg (ins (Is.M.dOp w) (Is.M.dRd w) (Is.M.dRa w) (Is.M.dRb w) (Is.M.dImm w))] W fun e W' => XeRet W m r.c r.z m.ys m.h r.k r.v e W' := by
 have hv := M.dok_ok hd
 have hi := Is.dImm_rng w
 subst hr
 refine (stExePl m _ _ _ _ _ W hm hs T.isa hi.1 hi.2 hv hp).mono fun e W' h => ?_
 obtain ⟨m1, he, o1, u1, d⟩ := h
 obtain ⟨A, k, rfl⟩ := u1.out
 exact ⟨_, he, o1, Lib.hid ⟨rfl, rfl, rfl, rfl, rfl⟩, d⟩
theorem stExeP (m : Mc) (W : World) (hm : m.Ok W) (hy : m.ys.length ≤ 100000) (T : Env2 W) (w : Int) (hd : Is.M.dok w = true) (hp : Is.M.priv (Is.M.dOp w) = true) (r : M.PRes) (hr : M.px m.c m.ys m.h m.t (Is.M.dOp w) (Is.M.dRd w) (Is.M.dRa w) (Is.M.dImm w) = r) :
   Calls Tryz.prog 45 #[.agg (mach m), .agg (ins (Is.M.dOp w) (Is.M.dRd w) (Is.M.dRa w) (Is.M.dRb w) (Is.M.dImm w))] W fun e W' => XeRet W m r.c m.xs r.ys r.h 0 0 e W' := by
 have hv := M.dok_ok hd
 have hi := Is.dImm_rng w
 subst hr
 refine (stExePv m _ _ _ _ _ W hm hp T.csr hi.1 hi.2 hy (stOp hv hp)).mono fun e W' h => ?_
 obtain ⟨m1, he, o1, u1, d⟩ := h
 obtain ⟨n, p⟩ := u1.out
 exact ⟨m1, he, o1, Lib.hid ⟨p.c, p.xs, p.ys, p.h, p.t⟩, d⟩
theorem stNt (m : Mc) (W : World) (hm : m.Ok W) (hs : m.xs.length ≤ 100000) (hy : m.ys.length ≤ 100000) (T : Env2 W) :
   Calls Tryz.prog 30 #[.agg (mach m)] W fun e W' => StRet W (M.stn m.c m.xs m.ys m.h m.t) e W' := by
 have hc := hm.core
 have hw := fw_rng hm
 cases hh : m.h
 · rw [M.stn_on]
   by_cases hk : M.nowK m.c m.xs = 0
   · have hd := M.nowK_dok hk
     have hv0 := M.nowV_zero hk
     have hcur : ∀ w, m.Ok w → Env2 w → Calls Tryz.prog 43 #[.agg (mach m)] w fun e W' => e = .returned (.tuple #[.agg (ins (Is.M.dOp (M.fw m.c m.xs)) (Is.M.dRd (M.fw m.c m.xs)) (Is.M.dRa (M.fw m.c m.xs)) (Is.M.dRb (M.fw m.c m.xs)) (Is.M.dImm (M.fw m.c m.xs))), .agg #[.int .i64 0, .int .u32 0]]) ∧ Dn w W' := fun w ow t => by
       have h := stCur m w ow hs t.isa
       rw [M.nw_go _ hk, M.nw_go _ hk, M.nw_go _ hk, M.nw_go _ hk, M.nw_go _ hk, hk, hv0] at h
       exact h
     cases hp : Is.M.priv (Is.M.dOp (M.fw m.c m.xs))
     · rw [M.stp_plain hk hp]
       have e := M.ex_vr m.c m.xs (Is.M.dOp (M.fw m.c m.xs)) (Is.M.dRd (M.fw m.c m.xs)) (Is.M.dRa (M.fw m.c m.xs)) (Is.M.dRb (M.fw m.c m.xs)) (Is.M.dImm (M.fw m.c m.xs))
       have k3 := M.ex_k m.c m.xs (Is.M.dOp (M.fw m.c m.xs)) (Is.M.dRd (M.fw m.c m.xs)) (Is.M.dRa (M.fw m.c m.xs)) (Is.M.dRb (M.fw m.c m.xs)) (Is.M.dImm (M.fw m.c m.xs))
       have h := stNtG m W hm hh T _ _ (by omega) (by omega) e.1 e.2 _ _ _ _ _ _ _ _ _ hcur (fun w ow t => stExeN m w ow hs t (M.fw m.c m.xs) hd hp _ rfl)
       rw [hh] at h
       exact h
     · rw [M.stp_priv hk hp]
       have h := stNtG m W hm hh T 0 0 (by decide) (by decide) (by decide) (by decide) _ _ _ _ _ _ _ _ _ hcur (fun w ow t => stExeP m w ow hy t (M.fw m.c m.xs) hd hp _ rfl)
       rw [hh] at h
       exact h
   · rw [M.stp_trap hk]
     have n := M.nowK_vals m.c m.xs
     have v := M.nowV_rng hc hw
     refine (stNtT m W hm hh _ _ (by omega) (by omega) v.1 v.2 (not_zero hk) T (fun w ow t => ?_) _ rfl).mono fun e W' h => ?_
     · have h := stCur m w ow hs t.isa
       rw [M.nw_no _ hk, M.nw_no _ hk, M.nw_no _ hk, M.nw_no _ hk, M.nw_no _ hk] at h
       exact h
     · exact ⟨_, h.1, Lib.hid ((hm.dn h.2).fin v.1 v.2), Lib.hid ⟨rfl, rfl, rfl, rfl, hh⟩, h.2⟩
 · rw [M.stn_halted]
   refine (stNtH m W hm hh _ rfl).mono fun e W' h => ?_
   have o := hm.dn h.2
   exact ⟨_, h.1, Lib.hid ⟨hc, o.mem.full, o.out.full, hm.t0, hm.t1⟩, Lib.hid ⟨rfl, rfl, rfl, rfl, hh⟩, h.2⟩
theorem stStep (m : Mc) (W : World) (hm : m.Ok W) (hs : m.xs.length ≤ 100000) (hy : m.ys.length ≤ 100000) (T : Env2 W) :
   Calls Tryz.prog 23 #[.agg (mach m)] W fun e W' => StRet W (M.stS m.c m.xs m.ys m.h m.t) e W' := by
 have hN : ∀ w, m.Ok w → Env2 w → Calls Tryz.prog 30 #[.agg (mach m)] w fun e W' => StRet w (M.stn m.c m.xs m.ys m.h m.t) e W' := fun w ow t => stNt m w ow hs hy t
 cases hh : m.h
 · cases hd : M.due m.c m.t
   · rw [M.stS_not hd, ← hh]
     exact stSNN m W hm hh T hd _ hN
   · rw [M.stS_due hd]
     refine (stSD m W hm hh hd _ rfl).mono fun e W' h => ?_
     exact ⟨_, h.1, Lib.hid ((hm.dn h.2).fin (by decide) (by decide)), Lib.hid ⟨rfl, rfl, rfl, rfl, hh⟩, h.2⟩
 · have e : M.stS m.c m.xs m.ys true m.t = M.stn m.c m.xs m.ys m.h m.t := by rw [hh, M.stS_halted, M.stn_halted]
   rw [e]
   exact stSNH m W hm hh T _ hN
end Go.Proofs.YtclpdjpaaagkdaaGreatDoor
namespace Go.Proofs.YtclpdjpaaagkdaaGreatDoor
open Go.ChangeShapes Go.WideShapes Go.ChangeAt Go.RowKit
set_option linter.unusedVariables false

def laidL : List (String × DataW Unit) := [("gaoler/csr.masks", Rows.laid_gaoler_csr_masks), ("gaoler/isa.formats", Rows.laid_gaoler_isa_formats), ("gaoler/isa.operandsOf", Rows.laid_gaoler_isa_operandsOf)]
set_option maxRecDepth 100000 in
theorem start_shaped (os : Os) (args : Array Value) : ((World.laidAll Tryz.prog os laidL).forCall (fun _ _ => 0) ⟨#[], args, []⟩).Shaped Tryz.prog := World.shaped_of_ZipB (by kernel_rfl) (by kernel_rfl)
set_option maxRecDepth 100000 in
theorem start_met (os : Os) (args : Array Value) : laidMetH Tryz.prog laidL ((World.laidAll Tryz.prog os laidL).forCall (fun _ _ => 0) ⟨#[], args, []⟩).memory := by
 rw [MakeChecks.laidMetH_plain _ _ _ (by kernel_rfl)]
 exact laidMet_laidAll _ (by kernel_rfl) (by kernel_rfl)
namespace Is
theorem cellsInt : Tryz.prog.cellsOf 3 = 1 := by kernel_rfl
theorem cellsBool : Tryz.prog.cellsOf 4 = 1 := by kernel_rfl
theorem cellsOpers : Tryz.prog.cellsOf 121 = 5 := by kernel_rfl
section
variable {H : Type} {enc : TypeId × Value → H} {P : Program} {w : World} {base : Nat} {spare : Nat → Bool} {held : Bool}

theorem arr_int {m n : Nat} {e : TypeId} {cs : List Value} {xs : List (DataW H × List MemPlace)} {k : IntKind} (he : P.underlying e = some (.int k)) (hc : P.cellsOf e = 1)
   (hel : ∀ i, i < n → DataW.trod enc P w base spare held m e ((cs.drop (i * P.cellsOf e)).take (P.cellsOf e)) = xs[i]?) {i : Nat} (hi : i < n) {z : Int}
   (hz : (xs.map (·.1))[i]? = some (.lit (.int k z))) : cs[i]? = some (.int k z) := by
 have h := hel i hi
 rw [hc, Nat.mul_one] at h
 rw [List.getElem?_map] at hz
 cases hx : xs[i]? with
 | none => rw [hx] at hz; simp at hz
 | some y =>
   rw [hx] at hz h
   obtain ⟨q, e1, e2, _⟩ := DataW.trod_int he h
   rw [e2] at hz
   have hq : q = z := by simpa using hz
   have h2 : cs[i]? = ((cs.drop i).take 1)[0]? := by simp [List.getElem?_drop]
   rw [h2, e1, hq]; rfl

theorem arr_bools {m n c j : Nat} {e : TypeId} {fs : Array Field} {g : Field} {cs : List Value} {xs : List (DataW H × List MemPlace)} (he : P.underlying e = some (.struct fs)) (hc : P.cellsOf e = c)
   (hg : fs[j]? = some g) (ho : g.offset = j) (ht : P.underlying g.type = some .bool) (h1 : P.cellsOf g.type = 1) (hj : j < c)
   (hel : ∀ i, i < n → DataW.trod enc P w base spare held m e ((cs.drop (i * P.cellsOf e)).take (P.cellsOf e)) = xs[i]?) {i : Nat} (hi : i < n) {L : List (DataW H)} {b : Bool}
   (hL : (xs.map (·.1))[i]? = some (.agg L)) (hb : L[j]? = some (.lit (.bool b))) : cs[i * c + j]? = some (.bool b) := by
 have h := hel i hi
 rw [hc] at h
 rw [List.getElem?_map] at hL
 cases hx : xs[i]? with
 | none => rw [hx] at hL; simp at hL
 | some y =>
   rw [hx] at hL h
   obtain ⟨ys, n', _, hy, _, _, hf⟩ := DataW.trod_struct he h
   have h3 := hf j g hg
   rw [ho, h1] at h3
   have hL2 : ys.map (·.1) = L := by rw [hy] at hL; simpa using hL
   rw [← hL2, List.getElem?_map] at hb
   cases hz : ys[j]? with
   | none => rw [hz] at hb; simp at hb
   | some z =>
     rw [hz] at hb h3
     obtain ⟨q, e1, e2⟩ := DataW.trod_bool ht h3
     rw [e2] at hb
     have hq : q = b := by simpa using hb
     have h2 : cs[i * c + j]? = ((((cs.drop (i * c)).take c).drop j).take 1)[0]? := by
       simp [List.getElem?_drop, hj]
     rw [h2, e1, hq]; rfl
end

theorem forms_laid (i : Int) (h0 : 0 ≤ i) (h : i ≤ 25) (L : List (DataW Unit)) (hL : Rows.laid_gaoler_isa_formats = .agg L) : L[i.toNat]? = some (.lit (.int .i64 (M.form i))) := by
 unfold Rows.laid_gaoler_isa_formats at hL
 injection hL with hL
 subst hL
 have : i = 0 ∨ i = 1 ∨ i = 2 ∨ i = 3 ∨ i = 4 ∨ i = 5 ∨ i = 6 ∨ i = 7 ∨ i = 8 ∨ i = 9 ∨ i = 10 ∨ i = 11 ∨ i = 12 ∨ i = 13 ∨ i = 14 ∨ i = 15 ∨ i = 16 ∨ i = 17 ∨ i = 18 ∨ i = 19 ∨ i = 20 ∨ i = 21 ∨ i = 22 ∨ i = 23 ∨ i = 24 ∨ i = 25 := by omega
 rcases this with rfl | rfl | rfl | rfl | rfl | rfl | rfl | rfl | rfl | rfl | rfl | rfl | rfl | rfl | rfl | rfl | rfl | rfl | rfl | rfl | rfl | rfl | rfl | rfl | rfl | rfl <;> rfl

theorem opers_laid (f : Int) (h0 : 0 ≤ f) (h : f ≤ 7) (L : List (DataW Unit)) (hL : Rows.laid_gaoler_isa_operandsOf = .agg L) :
   L[f.toNat]? = some (.agg [.lit (.bool (M.hasRd f)), .lit (.bool (M.hasRa f)), .lit (.bool (M.hasRb f)), .lit (.bool (M.hasImm f)), .lit (.bool (M.hasCsr f))]) := by
 unfold Rows.laid_gaoler_isa_operandsOf at hL
 injection hL with hL
 subst hL
 have : f = 0 ∨ f = 1 ∨ f = 2 ∨ f = 3 ∨ f = 4 ∨ f = 5 ∨ f = 6 ∨ f = 7 := by omega
 rcases this with rfl | rfl | rfl | rfl | rfl | rfl | rfl | rfl <;> rfl


theorem tForm : (Tryz.prog.globals[1]?).map (·.type) = some 132 := by kernel_rfl
theorem tOper : (Tryz.prog.globals[0]?).map (·.type) = some 122 := by kernel_rfl
theorem gForm : Tryz.prog.globalNamed "gaoler/isa.formats" = some 1 := by kernel_rfl
theorem gOper : Tryz.prog.globalNamed "gaoler/isa.operandsOf" = some 0 := by kernel_rfl
theorem tabs_of {W : World} (r0 : Lib.VarReads Tryz.prog W "gaoler/isa.formats" Rows.laid_gaoler_isa_formats) (r1 : Lib.VarReads Tryz.prog W "gaoler/isa.operandsOf" Rows.laid_gaoler_isa_operandsOf) : Tabs W := by
 obtain ⟨g0, t0, cs0, f0, p0, hg0, ht0, hv0, hd0⟩ := r0
 obtain ⟨g1, t1, cs1, f1, p1, hg1, ht1, hv1, hd1⟩ := r1
 obtain rfl := Option.some.inj (gForm.symm.trans hg0)
 obtain rfl := Option.some.inj (gOper.symm.trans hg1)
 obtain rfl := Option.some.inj (tForm.symm.trans ht0)
 obtain rfl := Option.some.inj (tOper.symm.trans ht1)
 obtain ⟨xs, m0, _, hx0, _, hn0, hel0⟩ := DataW.trod_array Tryz.underlying132 hd0
 obtain ⟨ys, m1, _, hx1, _, hn1, hel1⟩ := DataW.trod_array Tryz.underlying122 hd1
 simp only [Prod.mk.injEq] at hx0 hx1
 have hf : ∀ i : Int, 0 ≤ i → i ≤ 25 → W.cell? ⟨1, i.toNat, none⟩ = some (.int .i64 (M.form i)) := fun i a b => by
   rw [World.var?_cell hg0 hv0 i.toNat, ← Array.getElem?_toList]
   exact arr_int Tryz.underlying3 cellsInt hel0 (by omega) (forms_laid i a b _ hx0.1)
 have h0 : ∀ f : Int, 0 ≤ f → f ≤ 7 → W.cell? ⟨0, f.toNat * 5, none⟩ = some (.bool (M.hasRd f)) := fun f a c => by
     rw [World.var?_cell hg1 hv1 (f.toNat * 5), ← Array.getElem?_toList]
     exact arr_bools (j := 0) Tryz.underlying121 cellsOpers rfl rfl Tryz.underlying4 cellsBool (by decide) hel1 (i := f.toNat) (by omega) (opers_laid f a c _ hx1.1) rfl
 exact ⟨lt_of_cell (hf 0 (by decide) (by decide)), lt_of_cell (h0 0 (by decide) (by decide)), hf, h0,
   fun f a c => by
     rw [World.var?_cell hg1 hv1 (f.toNat * 5 + 1), ← Array.getElem?_toList]
     exact arr_bools (j := 1) Tryz.underlying121 cellsOpers rfl rfl Tryz.underlying4 cellsBool (by decide) hel1 (i := f.toNat) (by omega) (opers_laid f a c _ hx1.1) rfl,
   fun f a c => by
     rw [World.var?_cell hg1 hv1 (f.toNat * 5 + 2), ← Array.getElem?_toList]
     exact arr_bools (j := 2) Tryz.underlying121 cellsOpers rfl rfl Tryz.underlying4 cellsBool (by decide) hel1 (i := f.toNat) (by omega) (opers_laid f a c _ hx1.1) rfl,
   fun f a c => by
     rw [World.var?_cell hg1 hv1 (f.toNat * 5 + 3), ← Array.getElem?_toList]
     exact arr_bools (j := 3) Tryz.underlying121 cellsOpers rfl rfl Tryz.underlying4 cellsBool (by decide) hel1 (i := f.toNat) (by omega) (opers_laid f a c _ hx1.1) rfl,
   fun f a c => by
     rw [World.var?_cell hg1 hv1 (f.toNat * 5 + 4), ← Array.getElem?_toList]
     exact arr_bools (j := 4) Tryz.underlying121 cellsOpers rfl rfl Tryz.underlying4 cellsBool (by decide) hel1 (i := f.toNat) (by omega) (opers_laid f a c _ hx1.1) rfl⟩

section
variable {H : Type} {enc : TypeId × Value → H} {w : World} {base : Nat} {spare : Nat → Bool} {held : Bool}

end
end Is
namespace Cs
theorem cellsU32 : Tryz.prog.cellsOf 22 = 1 := by kernel_rfl
theorem cellsArr : Tryz.prog.cellsOf 24 = 12 := by kernel_rfl
section
variable {H : Type} {enc : TypeId × Value → H} {P : Program} {w : World} {base : Nat} {spare : Nat → Bool} {held : Bool}

theorem arr_int {m n : Nat} {e : TypeId} {cs : List Value} {xs : List (DataW H × List MemPlace)} {k : IntKind} (he : P.underlying e = some (.int k)) (hc : P.cellsOf e = 1)
   (hel : ∀ i, i < n → DataW.trod enc P w base spare held m e ((cs.drop (i * P.cellsOf e)).take (P.cellsOf e)) = xs[i]?) {i : Nat} (hi : i < n) {z : Int}
   (hz : (xs.map (·.1))[i]? = some (.lit (.int k z))) : cs[i]? = some (.int k z) := by
 have h := hel i hi
 rw [hc, Nat.mul_one] at h
 rw [List.getElem?_map] at hz
 cases hx : xs[i]? with
 | none => rw [hx] at hz; simp at hz
 | some y =>
   rw [hx] at hz h
   obtain ⟨q, e1, e2, _⟩ := DataW.trod_int he h
   rw [e2] at hz
   have hq : q = z := by simpa using hz
   have h2 : cs[i]? = ((cs.drop i).take 1)[0]? := by simp [List.getElem?_drop]
   rw [h2, e1, hq]; rfl

end
theorem gMasks : Tryz.prog.globalNamed "gaoler/csr.masks" = some 2 := by kernel_rfl
theorem tMasks : (Tryz.prog.globals[2]?).map (·.type) = some 24 := by kernel_rfl
theorem block_of_var {P : Program} {w : World} {n : String} {g : Nat} {cs : Array Value} (hg : P.globalNamed n = some g) (h : w.var? P n = some cs) : ∃ t fr, w.heap[g]? = some (.cells cs t fr) := by
 simp only [World.var?, hg, Option.bind_some] at h
 split at h
 · rename_i e; simp at h; subst h; exact ⟨_, _, e⟩
 · simp at h

theorem array_ints {cs : Array Value} {k : IntKind} {l : List Int} (hs : cs.size = l.length) (h : ∀ i, i < l.length → cs[i]? = some (.int k (l.getD i 0))) : cs = ints k l := by
 apply Array.ext_getElem?
 intro i
 by_cases hi : i < l.length
 · rw [h i hi, ints_get _ _ _ hi]
 · rw [Array.getElem?_eq_none (by omega), Array.getElem?_eq_none (by rw [ints_size]; omega)]
theorem laid_masks : Rows.laid_gaoler_csr_masks = (.agg (M.maskL.map fun x => .lit (.int .u32 x)) : DataW Unit) := rfl

theorem masks_of {W : World} (r : Lib.VarReads Tryz.prog W "gaoler/csr.masks" Rows.laid_gaoler_csr_masks) : ∃ t fr, W.heap[(2 : Nat)]? = some (.cells (ints .u32 M.maskL) t fr) := by
 obtain ⟨g0, t0, cs0, f0, p0, hg0, ht0, hv0, hd0⟩ := r
 obtain rfl := Option.some.inj (gMasks.symm.trans hg0)
 obtain rfl := Option.some.inj (tMasks.symm.trans ht0)
 obtain ⟨xs, m0, _, hx0, hsz, hn0, hel0⟩ := DataW.trod_array Tryz.underlying24 hd0
 simp only [Prod.mk.injEq] at hx0
 have hm : xs.map (·.1) = M.maskL.map fun x => .lit (.int .u32 x) := by
   have := hx0.1.symm.trans laid_masks
   injection this
 have e : cs0 = ints .u32 M.maskL := array_ints (by rw [← Array.length_toList, hsz]; exact cellsArr) fun i hi => by
   rw [← Array.getElem?_toList]
   refine arr_int Tryz.underlying22 cellsU32 hel0 (show i < 12 from hi) ?_
   rw [hm, List.getElem?_map, List.getElem?_eq_getElem hi]
   simp [List.getD, hi]
 rw [← e]
 exact block_of_var hg0 hv0
end Cs
structure Env (W : World) : Prop where
 isa : Is.Tabs W
 csr : Cs.CsrTabs W
theorem env_of {W : World} (h : laidMetH Tryz.prog laidL W) (hs : W.ShapedOpen Tryz.prog) : Env W := by
 rw [MakeChecks.laidMetH_plain _ _ _ (by kernel_rfl)] at h
 exact ⟨Is.tabs_of (Lib.laidMet.reads h (by simp [laidL])) (Lib.laidMet.reads h (by simp [laidL])), ⟨Cs.masks_of (Lib.laidMet.reads h (by simp [laidL]))⟩⟩
section
variable {H : Type} {enc : TypeId × Value → H}
theorem returns_of_walk {a : Assume} {C : Checked} (hC : C.prog = Tryz.prog) {os : Os} {f : FuncId} {fn : Func} {s : ChangeSpec} {fresh handsOn : Bool}
   (own : ownKnob C.prog.godebug = none) (started : os.Started) (noInit : C.prog.inits.idxOf? f = none) (hfn : C.prog.funcs[f]? = some fn) (hvars : s.vars = [])
   (hread : ∀ t ∈ fn.params.toList, Tryz.prog.readableRec t = true ∧ t < Tryz.prog.types.size) (hres : fn.resultTypes = #[4])
   (hspec : ∀ (H : Type) (ds : List (DataW H)), ds.length = fn.params.size → (s.fn H ds).results = [.lit (.bool true)] ∧ (s.fn H ds).args = ds ∧ (s.fn H ds).vars = [])
   (witness : ∃ (w : World) (tape : Tape) (i : Input), w.os = os ∧ (w.forCall tape i).Shaped C.prog ∧ i.vars = [] ∧ Input.okWide C.prog (w.forCall tape i) .any w.heap.size f i ∧
     ((s.pre enc C.prog fn [] false (w.forCall tape i).memory i.args ∧ laidMetH C.prog laidL (w.forCall tape i).memory) ∧ sizedMet enc C.prog fn (OpenSpec.ofChange s) false (w.forCall tape i).memory i.args) ∧ a.holds C.prog (lone (Frame.enter C.prog f i.args .normal) [] (w.forCall tape i)))
   (walk : ∀ (W : World) (base : Nat) (args : Array Value) (ds : List (DataW H)) (ps : List MemPlace), Env W →
     (∀ (j : Nat) t v, fn.params[j]? = some t → args[j]? = some v → Value.okWide C.prog W .any base t v) →
     DataW.TrodAll enc C.prog W 0 (fun _ => true) true fn.params.toList args.toList ds ps →
     Calls C.prog f args W fun e W' => e = .returned (.bool true) ∧ Dn W W') :
   ReturnsInHanded a C os f .any (fun w args => (s.pre enc C.prog fn [] false w args ∧ laidMetH C.prog laidL w) ∧ sizedMet enc C.prog fn (OpenSpec.ofChange s) false w args) (s.post enc C.prog fn false fresh handsOn false) := by
 refine returnsInHanded_of_calls own started noInit witness ?_
 intro w tape i _ hsh _ hok hpre _
 obtain ⟨_, _, _, fn', hfn', _, _, _, _, hval⟩ := hok
 have e : fn' = fn := Option.some.inj (hfn'.symm.trans hfn)
 subst e
 obtain ⟨⟨⟨ds, gs, before, hw, _⟩, hx⟩, _⟩ := hpre
 have hw' := DataW.Whole.of_heap (w' := w.forCall tape i) (by rfl) hw
 have hE : Env (w.forCall tape i) := env_of (hC ▸ laidMetH.of_heap (w' := w.forCall tape i) (by rfl) hx) (hC ▸ hsh)
 generalize w.forCall tape i = W at *
 have hlt : ∀ p ∈ before, p.block < W.heap.size := fun p hp => hw'.lt p hp
 have hWh := hw'
 obtain ⟨p, q, hA, hV, rfl, hfz, hnd⟩ := hw'
 rw [hvars] at hV
 obtain ⟨rfl, rfl⟩ := trodVars_none hV
 have hlen : ds.length = fn'.params.size := by rw [(trodAll_length hA).2]; simp
 obtain ⟨s1, s2, s3⟩ := hspec H ds hlen
 simp only [List.append_nil] at hlt hWh
 refine (walk W _ i.args ds p hE hval hA).mono fun e W' ⟨he, hb⟩ => ?_
 subst he
 refine ChangeSpec.post_blind ?_
 exact ⟨ds, [], p, [], p, [], hWh, by rw [List.append_nil, s1, hres, hC]; exact trodAll_mk1 (shut_bool Tryz.underlying4 _),
   by rw [List.append_nil, s2, hC]; exact args_stay hb hread (hC ▸ hA) hlt (fun x hx => by simpa using hlt x hx),
   by rw [List.append_nil, s3, hvars]; trivial, hb.frame _, fun h => by cases h⟩
end

end Go.Proofs.YtclpdjpaaagkdaaGreatDoor
