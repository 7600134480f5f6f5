/-
  Contracts over the translated program and the plain facts behind them, of the texts: StCuA, StCuB, StCuC, StCuD, StDo, StFrame, StRun, StAwake. Conditions: those that stand in each theorem.
-/
import Derived.LaidMore
import Derived.Stop.Joined
import Derived.Lay
import Derived.Lib.LaidU8
import Derived.Shelf.Vars
import Derived.Test.YtjbnflalngjfaaaGreatDoorPmV
import Derived.Test.YtjbnflalngjfaaaGreatDoorPmA
import Derived.Test.YtjbnflalngjfaaaGreatDoorPmG
import Derived.Test.YtjbnflalngjfaaaGreatDoorPmT
import Derived.Test.YtjbnflalngjfaaaGreatDoorPmS
namespace Go.Proofs.YtjbnflalngjfaaaGreatDoor
open Go.ChangeShapes Go.WideShapes Go.ChangeAt Go.RowKit Go.Sort
set_option linter.unusedVariables false

set_option maxRecDepth 100000 in
set_option maxHeartbeats 2000000 in
theorem stCurA (m : Mc) (W : World) (hm : m.Ok W) (hs : m.xs.length ≤ 100000) (x k v : Int) (ex : M.alv m.c m.xs (M.pc m.c) 4 = x) (ek : M.acz m.c m.xs.length (M.pc m.c) 4 = k) (ev : M.atv m.c m.xs.length (M.pc m.c) 4 = v) (hk : (!(k == 0 && v == 0)) = true) :
   Calls Tryz.prog 15 #[.agg (mach m)] W fun e W' => e = .returned (.tuple #[.agg (ins 0 0 0 0 0), .agg #[.int .i64 k, .int .u32 v]]) ∧ Dn W W' := by
 have hl := hm.len
 have hc := hm.core
 have C1 := Lib.hid fun w => fun (ow : m.Ok w) => ffetch m w ow hs x k v ex ek ev
 have CT := Lib.hid (stTrapped k v true hk)
 have HD := Lib.hid (Dn.refl W)
 go_enter Tryz.func15, Tryz.ntmps15
 go_wp2_with (first | ((with_reducible refine wpList_box (vs := (mach m)) ?_ ?_ ?_); rfl; rfl; intro b_v1 w' nn; refine Hid.out ?_))
 refine Lib.hid ?_
 have d' := nn.dn
 replace HD := hT HD d'
 have v1 := nn.blk
 clear d' nn
 go_wp2_with (first | ((with_reducible refine wpList_alloc zeroI ?_ ?_); rfl; intro b_v2 w' nn; refine Hid.out ?_))
 refine Lib.hid ?_
 have n_v1_v2 := Lib.hid (nn.ne _ v1.lt)
 have HL_v2 : Hid (W.heap.size ≤ b_v2) := Lib.hid (Blk.hi nn HD.out.size)
 have d' := nn.dn
 replace v1 := v1.dn d'
 replace HD := hT HD d'
 have v2 := nn.blk
 clear d' nn
 go_wp2_with (first | ((with_reducible refine wpList_alloc zeroTrap ?_ ?_); rfl; intro b_v3 w' nn; refine Hid.out ?_))
 refine Lib.hid ?_
 have n_v1_v3 := Lib.hid (nn.ne _ v1.lt)
 have n_v2_v3 := Lib.hid (nn.ne _ v2.lt)
 have HL_v3 : Hid (W.heap.size ≤ b_v3) := Lib.hid (Blk.hi nn HD.out.size)
 have d' := nn.dn
 replace v1 := v1.dn d'
 replace v2 := v2.dn d'
 replace HD := hT HD d'
 have v3 := nn.blk
 clear d' nn
 go_wp2_with (first | ((with_reducible refine load33 v1 hl ?_ ?_ ?_); rfl; rfl) | (go_at_call 31; (with_reducible refine (C1.out _ (hm.dn HD.out)).mono ?_); rintro e w' ⟨rfl, d'⟩; refine Hid.out ?_))
 refine Lib.hid ?_
 replace v1 := v1.dn d'
 replace v2 := v2.dn d'
 replace v3 := v3.dn d'
 replace HD := hT HD d'
 clear d'
 go_wp2_with (first | ((with_reducible refine wpList_alloc zeroTrap ?_ ?_); rfl; intro b_v5 w' nn; refine Hid.out ?_))
 refine Lib.hid ?_
 have n_v1_v5 := Lib.hid (nn.ne _ v1.lt)
 have n_v2_v5 := Lib.hid (nn.ne _ v2.lt)
 have n_v3_v5 := Lib.hid (nn.ne _ v3.lt)
 have HL_v5 : Hid (W.heap.size ≤ b_v5) := Lib.hid (Blk.hi nn HD.out.size)
 have d' := nn.dn
 replace v1 := v1.dn d'
 replace v2 := v2.dn d'
 replace v3 := v3.dn d'
 replace HD := hT HD d'
 have v5 := nn.blk
 clear d' nn
 go_wp2_with (first | ((with_reducible refine storeTrap (k := k) (v := v) v5 ?_ ?_ ?_ ?_); rfl; rfl; rfl; intro w' r' t'; refine Hid.out ?_))
 refine Lib.hid ?_
 replace v1 := v1.trn t' n_v1_v5.out
 replace v2 := v2.trn t' n_v2_v5.out
 replace v3 := v3.trn t' n_v3_v5.out
 replace HD := Lib.hid (HD.out.trn HL_v5.out t')
 clear t' v5
 have v5 := r'
 clear r'
 go_wp2_with (first | ((with_reducible refine loadTrap v5 ?_ ?_ ?_); rfl; rfl) | (go_at_call 27; (with_reducible refine (CT.out _).mono ?_); rintro e w' ⟨rfl, d'⟩; refine Hid.out ?_))
 refine Lib.hid ?_
 replace v1 := v1.dn d'
 replace v2 := v2.dn d'
 replace v3 := v3.dn d'
 replace v5 := v5.dn d'
 replace HD := hT HD d'
 clear d'
 go_wp2_with fail
 have nx_v1 : b_v1 ∉ [b_v2, b_v3] := (by simp only [List.mem_cons, List.not_mem_nil, or_false, not_or]; exact ⟨n_v1_v2.out, n_v1_v3.out⟩)
 have nx_v5 : b_v5 ∉ [b_v2, b_v3] := (by simp only [List.mem_cons, List.not_mem_nil, or_false, not_or]; exact ⟨n_v2_v5.out.symm, n_v3_v5.out.symm⟩)
 have hbs : ∀ b ∈ [b_v2, b_v3], ∃ t cs, Blk w' b t cs ∧ NoU8 cs := by
   intro b hb
   simp only [List.mem_cons, List.not_mem_nil, or_false] at hb
   rcases hb with rfl | rfl
   · exact ⟨_, _, v2, (NoU8.ins _ _ _ _ _)⟩
   · exact ⟨_, _, v3, (NoU8.trap _ _)⟩
 have hbl : ∀ b ∈ [b_v2, b_v3], W.heap.size ≤ b := by
   intro b hb
   simp only [List.mem_cons, List.not_mem_nil, or_false] at hb
   rcases hb with rfl | rfl
   · exact HL_v2.out
   · exact HL_v3.out
 refine wp_region_picks [b_v2, b_v3] [0, 1] 2 (by kernel_rfl) (by kernel_rfl) rfl (by kernel_rfl) ?_
 simp only [pickL, List.drop_succ_cons, List.drop_zero, List.take_succ_cons, List.take_zero, List.cons_append, List.nil_append]
 refine ⟨?_, ?_, ?_⟩
 rotate_left 1
 refine ⟨_, calx_pure (by rfl) (fun u => by go_simp; rfl), ?_⟩
 simp only [Act.put, tA, tS, tZ]
 refine ⟨_, calxTrap v5 nx_v5 (by rfl) rfl, ?_⟩
 simp only [Act.put, tA, tS, tZ]
 exact rfl
 have e0 : Dx [b_v2, b_v3] w' w'.drew := Dn.dx (Dn.drawn _)
 have f_v2 := v2.dn (Dn.drawn w')
 have f_v3 := v3.dn (Dn.drawn w')
 refine wpX_one 2 (by kernel_rfl) ?_
 refine x1_store 0 (vs := (ins 0 0 0 0 0)) rfl f_v2 (.inl (by simp)) infoI (by simp [ins]) (insOne _ _ _ _ _) rfl rfl e0 fun u1 y1 du1 t1 e1 g1 => ?_
 rw [lay_all (ins 0 0 0 0 0) (ins 0 0 0 0 0) rfl] at g1
 replace f_v3 := (f_v3.dn du1).trn t1 n_v2_v3.out.symm
 clear f_v2 e0
 have f_v2 := g1
 have e0 := e1
 clear g1 t1 du1 e1
 refine wpX_one 3 (by kernel_rfl) ?_
 refine x1_store 0 (vs := #[.int .i64 k, .int .u32 v]) rfl f_v3 (.inl (by simp)) infoTrap (by simp) (by simp [Value.oneCell']) rfl rfl e0 fun u1 y1 du1 t1 e1 g1 => ?_
 rw [lay_all #[.int .i64 0, .int .u32 0] #[.int .i64 k, .int .u32 v] rfl] at g1
 replace f_v2 := (f_v2.dn du1).trn t1 n_v2_v3.out
 clear f_v3 e0
 have f_v3 := g1
 have e0 := e1
 clear g1 t1 du1 e1
 refine wpX_end (by kernel_rfl) fun w' dx => NoPanic.normal ?_
 have D := e0.trans (Dn.dx dx)
 replace f_v2 := f_v2.dn dx
 replace f_v3 := f_v3.dn dx
 clear e0 dx
 replace v1 := v1.dx D nx_v1
 replace v5 := v5.dx D nx_v5
 replace HD := Lib.hid (HD.out.of_dx D hbl)
 clear v2 v3 D hbs hbl nx_v1 nx_v5
 have v2 := f_v2
 clear f_v2
 have v3 := f_v3
 clear f_v3
 go_wp2_with fail
 exact retIT rfl rfl rfl v2 v3 ⟨rfl, HD.out⟩ rfl

set_option maxRecDepth 100000 in
set_option maxHeartbeats 2000000 in
theorem stCurB (m : Mc) (W : World) (hm : m.Ok W) (hs : m.xs.length ≤ 100000) (x : Int) (ex : M.alv m.c m.xs (M.pc m.c) 4 = x) (ek : M.acz m.c m.xs.length (M.pc m.c) 4 = 0) (ev : M.atv m.c m.xs.length (M.pc m.c) 4 = 0) (T : Is.Tabs W) (x0 : 0 ≤ x) (x1 : x < 4294967296) (hd : Is.M.dok x = false) :
   Calls Tryz.prog 15 #[.agg (mach m)] W fun e W' => e = .returned (.tuple #[.agg (ins 0 0 0 0 0), .agg #[.int .i64 1, .int .u32 x]]) ∧ Dn W W' := by
 have hl := hm.len
 have hc := hm.core
 have C1 := Lib.hid fun w => fun (ow : m.Ok w) => ffetch m w ow hs x 0 0 ex ek ev
 have CT := Lib.hid (stTrapped 0 0 false rfl)
 clear ex ek ev
 have C2 := Lib.hid fun w => fun (t : Is.Tabs w) => stDecNo x x0 x1 hd w t
 clear hd
 have C3 := Lib.hid (stChecks m.c x 0 0 0 0 0 false hl)
 have K1 := Lib.hid fun (b3 b1 : Nat) (w : World) (g3 : Blk w b3 4 #[.bool false]) (g1 : Blk w b1 22 #[.int .u32 x]) => stChk1No x b3 b1 w g3 g1
 have CH := Lib.hid (stTrapped 1 x true (by simp))
 have HD := Lib.hid (Dn.refl W)
 go_enter Tryz.func15, Tryz.ntmps15
 go_wp2_with (first | ((with_reducible refine wpList_box (vs := (mach m)) ?_ ?_ ?_); rfl; rfl; intro b_v1 w' nn; refine Hid.out ?_))
 refine Lib.hid ?_
 have d' := nn.dn
 replace HD := hT HD d'
 have v1 := nn.blk
 clear d' nn
 go_wp2_with (first | ((with_reducible refine wpList_alloc zeroI ?_ ?_); rfl; intro b_v2 w' nn; refine Hid.out ?_))
 refine Lib.hid ?_
 have n_v1_v2 := Lib.hid (nn.ne _ v1.lt)
 have HL_v2 : Hid (W.heap.size ≤ b_v2) := Lib.hid (Blk.hi nn HD.out.size)
 have d' := nn.dn
 replace v1 := v1.dn d'
 replace HD := hT HD d'
 have v2 := nn.blk
 clear d' nn
 go_wp2_with (first | ((with_reducible refine wpList_alloc zeroTrap ?_ ?_); rfl; intro b_v3 w' nn; refine Hid.out ?_))
 refine Lib.hid ?_
 have n_v1_v3 := Lib.hid (nn.ne _ v1.lt)
 have n_v2_v3 := Lib.hid (nn.ne _ v2.lt)
 have HL_v3 : Hid (W.heap.size ≤ b_v3) := Lib.hid (Blk.hi nn HD.out.size)
 have d' := nn.dn
 replace v1 := v1.dn d'
 replace v2 := v2.dn d'
 replace HD := hT HD d'
 have v3 := nn.blk
 clear d' nn
 go_wp2_with (first | ((with_reducible refine load33 v1 hl ?_ ?_ ?_); rfl; rfl) | (go_at_call 31; (with_reducible refine (C1.out _ (hm.dn HD.out)).mono ?_); rintro e w' ⟨rfl, d'⟩; refine Hid.out ?_))
 refine Lib.hid ?_
 replace v1 := v1.dn d'
 replace v2 := v2.dn d'
 replace v3 := v3.dn d'
 replace HD := hT HD d'
 clear d'
 go_wp2_with (first | ((with_reducible refine wpList_alloc zeroTrap ?_ ?_); rfl; intro b_v5 w' nn; refine Hid.out ?_))
 refine Lib.hid ?_
 have n_v1_v5 := Lib.hid (nn.ne _ v1.lt)
 have n_v2_v5 := Lib.hid (nn.ne _ v2.lt)
 have n_v3_v5 := Lib.hid (nn.ne _ v3.lt)
 have HL_v5 : Hid (W.heap.size ≤ b_v5) := Lib.hid (Blk.hi nn HD.out.size)
 have d' := nn.dn
 replace v1 := v1.dn d'
 replace v2 := v2.dn d'
 replace v3 := v3.dn d'
 replace HD := hT HD d'
 have v5 := nn.blk
 clear d' nn
 go_wp2_with (first | ((with_reducible refine storeTrap (k := 0) (v := 0) v5 ?_ ?_ ?_ ?_); rfl; rfl; rfl; intro w' r' t'; refine Hid.out ?_))
 refine Lib.hid ?_
 replace v1 := v1.trn t' n_v1_v5.out
 replace v2 := v2.trn t' n_v2_v5.out
 replace v3 := v3.trn t' n_v3_v5.out
 replace HD := Lib.hid (HD.out.trn HL_v5.out t')
 clear t' v5
 have v5 := r'
 clear r'
 go_wp2_with (first | ((with_reducible refine loadTrap v5 ?_ ?_ ?_); rfl; rfl) | (go_at_call 27; (with_reducible refine (CT.out _).mono ?_); rintro e w' ⟨rfl, d'⟩; refine Hid.out ?_))
 refine Lib.hid ?_
 replace v1 := v1.dn d'
 replace v2 := v2.dn d'
 replace v3 := v3.dn d'
 replace v5 := v5.dn d'
 replace HD := hT HD d'
 clear d'
 go_wp2_with (first | (go_at_call 32; (with_reducible refine (C2.out _ (T.dn HD.out)).mono ?_); rintro e w' ⟨rfl, d'⟩; refine Hid.out ?_))
 refine Lib.hid ?_
 replace v1 := v1.dn d'
 replace v2 := v2.dn d'
 replace v3 := v3.dn d'
 replace v5 := v5.dn d'
 replace HD := hT HD d'
 clear d'
 go_wp2_with (first | ((with_reducible refine wpList_alloc zeroI ?_ ?_); rfl; intro b_v6 w' nn; refine Hid.out ?_))
 refine Lib.hid ?_
 have n_v1_v6 := Lib.hid (nn.ne _ v1.lt)
 have n_v2_v6 := Lib.hid (nn.ne _ v2.lt)
 have n_v3_v6 := Lib.hid (nn.ne _ v3.lt)
 have n_v5_v6 := Lib.hid (nn.ne _ v5.lt)
 have HL_v6 : Hid (W.heap.size ≤ b_v6) := Lib.hid (Blk.hi nn HD.out.size)
 have d' := nn.dn
 replace v1 := v1.dn d'
 replace v2 := v2.dn d'
 replace v3 := v3.dn d'
 replace v5 := v5.dn d'
 replace HD := hT HD d'
 have v6 := nn.blk
 clear d' nn
 go_wp2_with (first | ((with_reducible refine storeI (op := 0) (rd := 0) (ra := 0) (rb := 0) (imm := 0) v6 ?_ ?_ ?_ ?_); rfl; rfl; rfl; intro w' r' t'; refine Hid.out ?_))
 refine Lib.hid ?_
 replace v1 := v1.trn t' n_v1_v6.out
 replace v2 := v2.trn t' n_v2_v6.out
 replace v3 := v3.trn t' n_v3_v6.out
 replace v5 := v5.trn t' n_v5_v6.out
 replace HD := Lib.hid (HD.out.trn HL_v6.out t')
 clear t' v6
 have v6 := r'
 clear r'
 go_wp2_with (first | ((with_reducible refine loadCore v1 hl ?_ ?_ ?_); rfl; rfl) | ((with_reducible refine loadI v6 ?_ ?_ ?_); rfl; rfl) | (go_at_call 33; (with_reducible refine (C3.out _).mono ?_); rintro e w' ⟨b_gg, b_q0, b_q1, b_q2, b_q3, rfl, gg, q0, q1, q2, q3, d'⟩; refine Hid.out ?_))
 refine Lib.hid ?_
 replace v1 := v1.dn d'
 replace v2 := v2.dn d'
 replace v3 := v3.dn d'
 replace v5 := v5.dn d'
 replace v6 := v6.dn d'
 replace HD := hT HD d'
 clear d'
 replace gg := gg.out
 replace q0 := q0.out
 replace q1 := q1.out
 replace q2 := q2.out
 replace q3 := q3.out
 go_wp2_with fail
 refine wp_loop_rounds 3 ?_
 rw [rounds_succ]
 have kk := gg.cell (i := 0) (v := .func (.func 63) #[] #[.pointer (some ⟨b_q3, 0, none⟩), .pointer (some ⟨b_q1, 0, none⟩)]) rfl
 go_wp2_with (first | (go_at_call 63; (with_reducible refine (K1.out b_q3 b_q1 _ q3 q1).mono ?_); rintro e w' ⟨rfl, d'⟩; refine Hid.out ?_))
 refine Lib.hid ?_
 replace v1 := v1.dn d'
 replace v2 := v2.dn d'
 replace v3 := v3.dn d'
 replace v5 := v5.dn d'
 replace v6 := v6.dn d'
 replace gg := gg.dn d'
 replace q0 := q0.dn d'
 replace q1 := q1.dn d'
 replace q2 := q2.dn d'
 replace q3 := q3.dn d'
 replace HD := hT HD d'
 clear d'
 clear kk
 go_wp2_with (first | ((with_reducible refine wpList_alloc zeroTrap ?_ ?_); rfl; intro b_v10 w' nn; refine Hid.out ?_))
 refine Lib.hid ?_
 have n_v1_v10 := Lib.hid (nn.ne _ v1.lt)
 have n_v2_v10 := Lib.hid (nn.ne _ v2.lt)
 have n_v3_v10 := Lib.hid (nn.ne _ v3.lt)
 have n_v5_v10 := Lib.hid (nn.ne _ v5.lt)
 have n_v6_v10 := Lib.hid (nn.ne _ v6.lt)
 have n_gg_v10 := Lib.hid (nn.ne _ gg.lt)
 have n_q0_v10 := Lib.hid (nn.ne _ q0.lt)
 have n_q1_v10 := Lib.hid (nn.ne _ q1.lt)
 have n_q2_v10 := Lib.hid (nn.ne _ q2.lt)
 have n_q3_v10 := Lib.hid (nn.ne _ q3.lt)
 have HL_v10 : Hid (W.heap.size ≤ b_v10) := Lib.hid (Blk.hi nn HD.out.size)
 have d' := nn.dn
 replace v1 := v1.dn d'
 replace v2 := v2.dn d'
 replace v3 := v3.dn d'
 replace v5 := v5.dn d'
 replace v6 := v6.dn d'
 replace gg := gg.dn d'
 replace q0 := q0.dn d'
 replace q1 := q1.dn d'
 replace q2 := q2.dn d'
 replace q3 := q3.dn d'
 replace HD := hT HD d'
 have v10 := nn.blk
 clear d' nn
 go_wp2_with (first | ((with_reducible refine storeTrap (k := 1) (v := x) v10 ?_ ?_ ?_ ?_); rfl; rfl; rfl; intro w' r' t'; refine Hid.out ?_))
 refine Lib.hid ?_
 replace v1 := v1.trn t' n_v1_v10.out
 replace v2 := v2.trn t' n_v2_v10.out
 replace v3 := v3.trn t' n_v3_v10.out
 replace v5 := v5.trn t' n_v5_v10.out
 replace v6 := v6.trn t' n_v6_v10.out
 replace gg := gg.trn t' n_gg_v10.out
 replace q0 := q0.trn t' n_q0_v10.out
 replace q1 := q1.trn t' n_q1_v10.out
 replace q2 := q2.trn t' n_q2_v10.out
 replace q3 := q3.trn t' n_q3_v10.out
 replace HD := Lib.hid (HD.out.trn HL_v10.out t')
 clear t' v10
 have v10 := r'
 clear r'
 go_wp2_with (first | ((with_reducible refine loadTrap v10 ?_ ?_ ?_); rfl; rfl) | (go_at_call 27; (with_reducible refine (CH.out _).mono ?_); rintro e w' ⟨rfl, d'⟩; refine Hid.out ?_))
 refine Lib.hid ?_
 replace v1 := v1.dn d'
 replace v2 := v2.dn d'
 replace v3 := v3.dn d'
 replace v5 := v5.dn d'
 replace v6 := v6.dn d'
 replace gg := gg.dn d'
 replace q0 := q0.dn d'
 replace q1 := q1.dn d'
 replace q2 := q2.dn d'
 replace q3 := q3.dn d'
 replace v10 := v10.dn d'
 replace HD := hT HD d'
 clear d'
 go_wp2_with fail
 clear gg q0 q1 q2 q3
 have nx_v1 : b_v1 ∉ [b_v2, b_v3] := (by simp only [List.mem_cons, List.not_mem_nil, or_false, not_or]; exact ⟨n_v1_v2.out, n_v1_v3.out⟩)
 have nx_v5 : b_v5 ∉ [b_v2, b_v3] := (by simp only [List.mem_cons, List.not_mem_nil, or_false, not_or]; exact ⟨n_v2_v5.out.symm, n_v3_v5.out.symm⟩)
 have nx_v6 : b_v6 ∉ [b_v2, b_v3] := (by simp only [List.mem_cons, List.not_mem_nil, or_false, not_or]; exact ⟨n_v2_v6.out.symm, n_v3_v6.out.symm⟩)
 have nx_v10 : b_v10 ∉ [b_v2, b_v3] := (by simp only [List.mem_cons, List.not_mem_nil, or_false, not_or]; exact ⟨n_v2_v10.out.symm, n_v3_v10.out.symm⟩)
 have hbs : ∀ b ∈ [b_v2, b_v3], ∃ t cs, Blk w' b t cs ∧ NoU8 cs := by
   intro b hb
   simp only [List.mem_cons, List.not_mem_nil, or_false] at hb
   rcases hb with rfl | rfl
   · exact ⟨_, _, v2, (NoU8.ins _ _ _ _ _)⟩
   · exact ⟨_, _, v3, (NoU8.trap _ _)⟩
 have hbl : ∀ b ∈ [b_v2, b_v3], W.heap.size ≤ b := by
   intro b hb
   simp only [List.mem_cons, List.not_mem_nil, or_false] at hb
   rcases hb with rfl | rfl
   · exact HL_v2.out
   · exact HL_v3.out
 refine wp_region_picks [b_v2, b_v3] [0, 1] 2 (by kernel_rfl) (by kernel_rfl) rfl (by kernel_rfl) ?_
 simp only [pickL, List.drop_succ_cons, List.drop_zero, List.take_succ_cons, List.take_zero, List.cons_append, List.nil_append]
 refine ⟨?_, ?_, ?_⟩
 rotate_left 1
 refine ⟨_, calx_pure (by rfl) (fun u => by go_simp; rfl), ?_⟩
 simp only [Act.put, tA, tS, tZ]
 refine ⟨_, calxTrap v10 nx_v10 (by rfl) rfl, ?_⟩
 simp only [Act.put, tA, tS, tZ]
 exact rfl
 have e0 : Dx [b_v2, b_v3] w' w'.drew := Dn.dx (Dn.drawn _)
 have f_v2 := v2.dn (Dn.drawn w')
 have f_v3 := v3.dn (Dn.drawn w')
 refine wpX_one 2 (by kernel_rfl) ?_
 refine x1_store 0 (vs := (ins 0 0 0 0 0)) rfl f_v2 (.inl (by simp)) infoI (by simp [ins]) (insOne _ _ _ _ _) rfl rfl e0 fun u1 y1 du1 t1 e1 g1 => ?_
 rw [lay_all (ins 0 0 0 0 0) (ins 0 0 0 0 0) rfl] at g1
 replace f_v3 := (f_v3.dn du1).trn t1 n_v2_v3.out.symm
 clear f_v2 e0
 have f_v2 := g1
 have e0 := e1
 clear g1 t1 du1 e1
 refine wpX_one 3 (by kernel_rfl) ?_
 refine x1_store 0 (vs := #[.int .i64 1, .int .u32 x]) rfl f_v3 (.inl (by simp)) infoTrap (by simp) (by simp [Value.oneCell']) rfl rfl e0 fun u1 y1 du1 t1 e1 g1 => ?_
 rw [lay_all #[.int .i64 0, .int .u32 0] #[.int .i64 1, .int .u32 x] rfl] at g1
 replace f_v2 := (f_v2.dn du1).trn t1 n_v2_v3.out
 clear f_v3 e0
 have f_v3 := g1
 have e0 := e1
 clear g1 t1 du1 e1
 refine wpX_end (by kernel_rfl) fun w' dx => NoPanic.normal ?_
 have D := e0.trans (Dn.dx dx)
 replace f_v2 := f_v2.dn dx
 replace f_v3 := f_v3.dn dx
 clear e0 dx
 replace v1 := v1.dx D nx_v1
 replace v5 := v5.dx D nx_v5
 replace v6 := v6.dx D nx_v6
 replace v10 := v10.dx D nx_v10
 replace HD := Lib.hid (HD.out.of_dx D hbl)
 clear v2 v3 D hbs hbl nx_v1 nx_v5 nx_v6 nx_v10
 have v2 := f_v2
 clear f_v2
 have v3 := f_v3
 clear f_v3
 go_wp2_with fail
 exact retIT rfl rfl rfl v2 v3 ⟨rfl, HD.out⟩ rfl

set_option maxRecDepth 100000 in
set_option maxHeartbeats 2000000 in
theorem stCurC (m : Mc) (W : World) (hm : m.Ok W) (hs : m.xs.length ≤ 100000) (x : Int) (ex : M.alv m.c m.xs (M.pc m.c) 4 = x) (ek : M.acz m.c m.xs.length (M.pc m.c) 4 = 0) (ev : M.atv m.c m.xs.length (M.pc m.c) 4 = 0) (T : Is.Tabs W) (x0 : 0 ≤ x) (x1 : x < 4294967296) (op rd ra rb imm : Int) (e1 : Is.M.dOp x = op) (e2 : Is.M.dRd x = rd) (e3 : Is.M.dRa x = ra) (e4 : Is.M.dRb x = rb) (e5 : Is.M.dImm x = imm) (hd : Is.M.dok x = true) (HK : ∀ (b2 b0 b1 : Nat) (w : World), Blk w b2 38 (ins op rd ra rb imm) → Blk w b0 26 (ints .u32 m.c) → Blk w b1 22 #[.int .u32 x] → Calls Tryz.prog 65 #[.pointer (some ⟨b2, 0, none⟩), .pointer (some ⟨b0, 0, none⟩), .pointer (some ⟨b1, 0, none⟩)] w fun e W' => e = .returned (.agg #[.int .i64 2, .int .u32 x]) ∧ Dn w W') :
   Calls Tryz.prog 15 #[.agg (mach m)] W fun e W' => e = .returned (.tuple #[.agg (ins 0 0 0 0 0), .agg #[.int .i64 2, .int .u32 x]]) ∧ Dn W W' := by
 have hl := hm.len
 have hc := hm.core
 have C1 := Lib.hid fun w => fun (ow : m.Ok w) => ffetch m w ow hs x 0 0 ex ek ev
 have CT := Lib.hid (stTrapped 0 0 false rfl)
 clear ex ek ev
 have C2 := Lib.hid fun w => fun (t : Is.Tabs w) => (by have h := stDecYes x x0 x1 hd w t; rw [e1, e2, e3, e4, e5] at h; exact h : Calls Tryz.prog 32 #[.int .u32 x] w fun e W' => e = .returned (.tuple #[.agg (ins op rd ra rb imm), .bool true]) ∧ Dn w W')
 clear e1 e2 e3 e4 e5 hd
 have C3 := Lib.hid (stChecks m.c x op rd ra rb imm true hl)
 have K1 := Lib.hid fun (b3 b1 : Nat) (w : World) (g3 : Blk w b3 4 #[.bool true]) (g1 : Blk w b1 22 #[.int .u32 x]) => stChk1Yes x b3 b1 w g3 g1
 have K2 := Lib.hid fun (b2 b0 b1 : Nat) (w : World) (g2 : Blk w b2 38 (ins op rd ra rb imm)) (g0 : Blk w b0 26 (ints .u32 m.c)) (g1 : Blk w b1 22 #[.int .u32 x]) => HK b2 b0 b1 w g2 g0 g1
 clear HK
 have CH := Lib.hid (stTrapped 2 x true (by simp))
 have HD := Lib.hid (Dn.refl W)
 go_enter Tryz.func15, Tryz.ntmps15
 go_wp2_with (first | ((with_reducible refine wpList_box (vs := (mach m)) ?_ ?_ ?_); rfl; rfl; intro b_v1 w' nn; refine Hid.out ?_))
 refine Lib.hid ?_
 have d' := nn.dn
 replace HD := hT HD d'
 have v1 := nn.blk
 clear d' nn
 go_wp2_with (first | ((with_reducible refine wpList_alloc zeroI ?_ ?_); rfl; intro b_v2 w' nn; refine Hid.out ?_))
 refine Lib.hid ?_
 have n_v1_v2 := Lib.hid (nn.ne _ v1.lt)
 have HL_v2 : Hid (W.heap.size ≤ b_v2) := Lib.hid (Blk.hi nn HD.out.size)
 have d' := nn.dn
 replace v1 := v1.dn d'
 replace HD := hT HD d'
 have v2 := nn.blk
 clear d' nn
 go_wp2_with (first | ((with_reducible refine wpList_alloc zeroTrap ?_ ?_); rfl; intro b_v3 w' nn; refine Hid.out ?_))
 refine Lib.hid ?_
 have n_v1_v3 := Lib.hid (nn.ne _ v1.lt)
 have n_v2_v3 := Lib.hid (nn.ne _ v2.lt)
 have HL_v3 : Hid (W.heap.size ≤ b_v3) := Lib.hid (Blk.hi nn HD.out.size)
 have d' := nn.dn
 replace v1 := v1.dn d'
 replace v2 := v2.dn d'
 replace HD := hT HD d'
 have v3 := nn.blk
 clear d' nn
 go_wp2_with (first | ((with_reducible refine load33 v1 hl ?_ ?_ ?_); rfl; rfl) | (go_at_call 31; (with_reducible refine (C1.out _ (hm.dn HD.out)).mono ?_); rintro e w' ⟨rfl, d'⟩; refine Hid.out ?_))
 refine Lib.hid ?_
 replace v1 := v1.dn d'
 replace v2 := v2.dn d'
 replace v3 := v3.dn d'
 replace HD := hT HD d'
 clear d'
 go_wp2_with (first | ((with_reducible refine wpList_alloc zeroTrap ?_ ?_); rfl; intro b_v5 w' nn; refine Hid.out ?_))
 refine Lib.hid ?_
 have n_v1_v5 := Lib.hid (nn.ne _ v1.lt)
 have n_v2_v5 := Lib.hid (nn.ne _ v2.lt)
 have n_v3_v5 := Lib.hid (nn.ne _ v3.lt)
 have HL_v5 : Hid (W.heap.size ≤ b_v5) := Lib.hid (Blk.hi nn HD.out.size)
 have d' := nn.dn
 replace v1 := v1.dn d'
 replace v2 := v2.dn d'
 replace v3 := v3.dn d'
 replace HD := hT HD d'
 have v5 := nn.blk
 clear d' nn
 go_wp2_with (first | ((with_reducible refine storeTrap (k := 0) (v := 0) v5 ?_ ?_ ?_ ?_); rfl; rfl; rfl; intro w' r' t'; refine Hid.out ?_))
 refine Lib.hid ?_
 replace v1 := v1.trn t' n_v1_v5.out
 replace v2 := v2.trn t' n_v2_v5.out
 replace v3 := v3.trn t' n_v3_v5.out
 replace HD := Lib.hid (HD.out.trn HL_v5.out t')
 clear t' v5
 have v5 := r'
 clear r'
 go_wp2_with (first | ((with_reducible refine loadTrap v5 ?_ ?_ ?_); rfl; rfl) | (go_at_call 27; (with_reducible refine (CT.out _).mono ?_); rintro e w' ⟨rfl, d'⟩; refine Hid.out ?_))
 refine Lib.hid ?_
 replace v1 := v1.dn d'
 replace v2 := v2.dn d'
 replace v3 := v3.dn d'
 replace v5 := v5.dn d'
 replace HD := hT HD d'
 clear d'
 go_wp2_with (first | (go_at_call 32; (with_reducible refine (C2.out _ (T.dn HD.out)).mono ?_); rintro e w' ⟨rfl, d'⟩; refine Hid.out ?_))
 refine Lib.hid ?_
 replace v1 := v1.dn d'
 replace v2 := v2.dn d'
 replace v3 := v3.dn d'
 replace v5 := v5.dn d'
 replace HD := hT HD d'
 clear d'
 go_wp2_with (first | ((with_reducible refine wpList_alloc zeroI ?_ ?_); rfl; intro b_v6 w' nn; refine Hid.out ?_))
 refine Lib.hid ?_
 have n_v1_v6 := Lib.hid (nn.ne _ v1.lt)
 have n_v2_v6 := Lib.hid (nn.ne _ v2.lt)
 have n_v3_v6 := Lib.hid (nn.ne _ v3.lt)
 have n_v5_v6 := Lib.hid (nn.ne _ v5.lt)
 have HL_v6 : Hid (W.heap.size ≤ b_v6) := Lib.hid (Blk.hi nn HD.out.size)
 have d' := nn.dn
 replace v1 := v1.dn d'
 replace v2 := v2.dn d'
 replace v3 := v3.dn d'
 replace v5 := v5.dn d'
 replace HD := hT HD d'
 have v6 := nn.blk
 clear d' nn
 go_wp2_with (first | ((with_reducible refine storeI (op := op) (rd := rd) (ra := ra) (rb := rb) (imm := imm) v6 ?_ ?_ ?_ ?_); rfl; rfl; rfl; intro w' r' t'; refine Hid.out ?_))
 refine Lib.hid ?_
 replace v1 := v1.trn t' n_v1_v6.out
 replace v2 := v2.trn t' n_v2_v6.out
 replace v3 := v3.trn t' n_v3_v6.out
 replace v5 := v5.trn t' n_v5_v6.out
 replace HD := Lib.hid (HD.out.trn HL_v6.out t')
 clear t' v6
 have v6 := r'
 clear r'
 go_wp2_with (first | ((with_reducible refine loadCore v1 hl ?_ ?_ ?_); rfl; rfl) | ((with_reducible refine loadI v6 ?_ ?_ ?_); rfl; rfl) | (go_at_call 33; (with_reducible refine (C3.out _).mono ?_); rintro e w' ⟨b_gg, b_q0, b_q1, b_q2, b_q3, rfl, gg, q0, q1, q2, q3, d'⟩; refine Hid.out ?_))
 refine Lib.hid ?_
 replace v1 := v1.dn d'
 replace v2 := v2.dn d'
 replace v3 := v3.dn d'
 replace v5 := v5.dn d'
 replace v6 := v6.dn d'
 replace HD := hT HD d'
 clear d'
 replace gg := gg.out
 replace q0 := q0.out
 replace q1 := q1.out
 replace q2 := q2.out
 replace q3 := q3.out
 go_wp2_with fail
 refine wp_loop_rounds 3 ?_
 rw [rounds_succ]
 have kk := gg.cell (i := 0) (v := .func (.func 63) #[] #[.pointer (some ⟨b_q3, 0, none⟩), .pointer (some ⟨b_q1, 0, none⟩)]) rfl
 go_wp2_with (first | (go_at_call 63; (with_reducible refine (K1.out b_q3 b_q1 _ q3 q1).mono ?_); rintro e w' ⟨rfl, d'⟩; refine Hid.out ?_))
 refine Lib.hid ?_
 replace v1 := v1.dn d'
 replace v2 := v2.dn d'
 replace v3 := v3.dn d'
 replace v5 := v5.dn d'
 replace v6 := v6.dn d'
 replace gg := gg.dn d'
 replace q0 := q0.dn d'
 replace q1 := q1.dn d'
 replace q2 := q2.dn d'
 replace q3 := q3.dn d'
 replace HD := hT HD d'
 clear d'
 clear kk
 go_wp2_with (first | ((with_reducible refine wpList_alloc zeroTrap ?_ ?_); rfl; intro b_v10 w' nn; refine Hid.out ?_))
 refine Lib.hid ?_
 have n_v1_v10 := Lib.hid (nn.ne _ v1.lt)
 have n_v2_v10 := Lib.hid (nn.ne _ v2.lt)
 have n_v3_v10 := Lib.hid (nn.ne _ v3.lt)
 have n_v5_v10 := Lib.hid (nn.ne _ v5.lt)
 have n_v6_v10 := Lib.hid (nn.ne _ v6.lt)
 have n_gg_v10 := Lib.hid (nn.ne _ gg.lt)
 have n_q0_v10 := Lib.hid (nn.ne _ q0.lt)
 have n_q1_v10 := Lib.hid (nn.ne _ q1.lt)
 have n_q2_v10 := Lib.hid (nn.ne _ q2.lt)
 have n_q3_v10 := Lib.hid (nn.ne _ q3.lt)
 have HL_v10 : Hid (W.heap.size ≤ b_v10) := Lib.hid (Blk.hi nn HD.out.size)
 have d' := nn.dn
 replace v1 := v1.dn d'
 replace v2 := v2.dn d'
 replace v3 := v3.dn d'
 replace v5 := v5.dn d'
 replace v6 := v6.dn d'
 replace gg := gg.dn d'
 replace q0 := q0.dn d'
 replace q1 := q1.dn d'
 replace q2 := q2.dn d'
 replace q3 := q3.dn d'
 replace HD := hT HD d'
 have v10 := nn.blk
 clear d' nn
 go_wp2_with (first | ((with_reducible refine storeTrap (k := 0) (v := 0) v10 ?_ ?_ ?_ ?_); rfl; rfl; rfl; intro w' r' t'; refine Hid.out ?_))
 refine Lib.hid ?_
 replace v1 := v1.trn t' n_v1_v10.out
 replace v2 := v2.trn t' n_v2_v10.out
 replace v3 := v3.trn t' n_v3_v10.out
 replace v5 := v5.trn t' n_v5_v10.out
 replace v6 := v6.trn t' n_v6_v10.out
 replace gg := gg.trn t' n_gg_v10.out
 replace q0 := q0.trn t' n_q0_v10.out
 replace q1 := q1.trn t' n_q1_v10.out
 replace q2 := q2.trn t' n_q2_v10.out
 replace q3 := q3.trn t' n_q3_v10.out
 replace HD := Lib.hid (HD.out.trn HL_v10.out t')
 clear t' v10
 have v10 := r'
 clear r'
 go_wp2_with (first | ((with_reducible refine loadTrap v10 ?_ ?_ ?_); rfl; rfl) | (go_at_call 27; (with_reducible refine (CT.out _).mono ?_); rintro e w' ⟨rfl, d'⟩; refine Hid.out ?_))
 refine Lib.hid ?_
 replace v1 := v1.dn d'
 replace v2 := v2.dn d'
 replace v3 := v3.dn d'
 replace v5 := v5.dn d'
 replace v6 := v6.dn d'
 replace gg := gg.dn d'
 replace q0 := q0.dn d'
 replace q1 := q1.dn d'
 replace q2 := q2.dn d'
 replace q3 := q3.dn d'
 replace v10 := v10.dn d'
 replace HD := hT HD d'
 clear d'
 go_wp2_with fail
 rw [rounds_succ]
 have kk := gg.cell (i := 1) (v := .func (.func 65) #[] #[.pointer (some ⟨b_q2, 0, none⟩), .pointer (some ⟨b_q0, 0, none⟩), .pointer (some ⟨b_q1, 0, none⟩)]) rfl
 go_wp2_with (first | (go_at_call 65; (with_reducible refine (K2.out b_q2 b_q0 b_q1 _ q2 q0 q1).mono ?_); rintro e w' ⟨rfl, d'⟩; refine Hid.out ?_))
 refine Lib.hid ?_
 replace v1 := v1.dn d'
 replace v2 := v2.dn d'
 replace v3 := v3.dn d'
 replace v5 := v5.dn d'
 replace v6 := v6.dn d'
 replace gg := gg.dn d'
 replace q0 := q0.dn d'
 replace q1 := q1.dn d'
 replace q2 := q2.dn d'
 replace q3 := q3.dn d'
 replace v10 := v10.dn d'
 replace HD := hT HD d'
 clear d'
 clear kk
 go_wp2_with (first | ((with_reducible refine wpList_alloc zeroTrap ?_ ?_); rfl; intro b_v1010 w' nn; refine Hid.out ?_))
 refine Lib.hid ?_
 have n_v1_v1010 := Lib.hid (nn.ne _ v1.lt)
 have n_v2_v1010 := Lib.hid (nn.ne _ v2.lt)
 have n_v3_v1010 := Lib.hid (nn.ne _ v3.lt)
 have n_v5_v1010 := Lib.hid (nn.ne _ v5.lt)
 have n_v6_v1010 := Lib.hid (nn.ne _ v6.lt)
 have n_gg_v1010 := Lib.hid (nn.ne _ gg.lt)
 have n_q0_v1010 := Lib.hid (nn.ne _ q0.lt)
 have n_q1_v1010 := Lib.hid (nn.ne _ q1.lt)
 have n_q2_v1010 := Lib.hid (nn.ne _ q2.lt)
 have n_q3_v1010 := Lib.hid (nn.ne _ q3.lt)
 have n_v10_v1010 := Lib.hid (nn.ne _ v10.lt)
 have HL_v1010 : Hid (W.heap.size ≤ b_v1010) := Lib.hid (Blk.hi nn HD.out.size)
 have d' := nn.dn
 replace v1 := v1.dn d'
 replace v2 := v2.dn d'
 replace v3 := v3.dn d'
 replace v5 := v5.dn d'
 replace v6 := v6.dn d'
 replace gg := gg.dn d'
 replace q0 := q0.dn d'
 replace q1 := q1.dn d'
 replace q2 := q2.dn d'
 replace q3 := q3.dn d'
 replace v10 := v10.dn d'
 replace HD := hT HD d'
 have v1010 := nn.blk
 clear d' nn
 go_wp2_with (first | ((with_reducible refine storeTrap (k := 2) (v := x) v1010 ?_ ?_ ?_ ?_); rfl; rfl; rfl; intro w' r' t'; refine Hid.out ?_))
 refine Lib.hid ?_
 replace v1 := v1.trn t' n_v1_v1010.out
 replace v2 := v2.trn t' n_v2_v1010.out
 replace v3 := v3.trn t' n_v3_v1010.out
 replace v5 := v5.trn t' n_v5_v1010.out
 replace v6 := v6.trn t' n_v6_v1010.out
 replace gg := gg.trn t' n_gg_v1010.out
 replace q0 := q0.trn t' n_q0_v1010.out
 replace q1 := q1.trn t' n_q1_v1010.out
 replace q2 := q2.trn t' n_q2_v1010.out
 replace q3 := q3.trn t' n_q3_v1010.out
 replace v10 := v10.trn t' n_v10_v1010.out
 replace HD := Lib.hid (HD.out.trn HL_v1010.out t')
 clear t' v1010
 have v1010 := r'
 clear r'
 go_wp2_with (first | ((with_reducible refine loadTrap v1010 ?_ ?_ ?_); rfl; rfl) | (go_at_call 27; (with_reducible refine (CH.out _).mono ?_); rintro e w' ⟨rfl, d'⟩; refine Hid.out ?_))
 refine Lib.hid ?_
 replace v1 := v1.dn d'
 replace v2 := v2.dn d'
 replace v3 := v3.dn d'
 replace v5 := v5.dn d'
 replace v6 := v6.dn d'
 replace gg := gg.dn d'
 replace q0 := q0.dn d'
 replace q1 := q1.dn d'
 replace q2 := q2.dn d'
 replace q3 := q3.dn d'
 replace v10 := v10.dn d'
 replace v1010 := v1010.dn d'
 replace HD := hT HD d'
 clear d'
 go_wp2_with fail
 clear gg q0 q1 q2 q3
 have nx_v1 : b_v1 ∉ [b_v2, b_v3] := (by simp only [List.mem_cons, List.not_mem_nil, or_false, not_or]; exact ⟨n_v1_v2.out, n_v1_v3.out⟩)
 have nx_v5 : b_v5 ∉ [b_v2, b_v3] := (by simp only [List.mem_cons, List.not_mem_nil, or_false, not_or]; exact ⟨n_v2_v5.out.symm, n_v3_v5.out.symm⟩)
 have nx_v6 : b_v6 ∉ [b_v2, b_v3] := (by simp only [List.mem_cons, List.not_mem_nil, or_false, not_or]; exact ⟨n_v2_v6.out.symm, n_v3_v6.out.symm⟩)
 have nx_v10 : b_v10 ∉ [b_v2, b_v3] := (by simp only [List.mem_cons, List.not_mem_nil, or_false, not_or]; exact ⟨n_v2_v10.out.symm, n_v3_v10.out.symm⟩)
 have nx_v1010 : b_v1010 ∉ [b_v2, b_v3] := (by simp only [List.mem_cons, List.not_mem_nil, or_false, not_or]; exact ⟨n_v2_v1010.out.symm, n_v3_v1010.out.symm⟩)
 have hbs : ∀ b ∈ [b_v2, b_v3], ∃ t cs, Blk w' b t cs ∧ NoU8 cs := by
   intro b hb
   simp only [List.mem_cons, List.not_mem_nil, or_false] at hb
   rcases hb with rfl | rfl
   · exact ⟨_, _, v2, (NoU8.ins _ _ _ _ _)⟩
   · exact ⟨_, _, v3, (NoU8.trap _ _)⟩
 have hbl : ∀ b ∈ [b_v2, b_v3], W.heap.size ≤ b := by
   intro b hb
   simp only [List.mem_cons, List.not_mem_nil, or_false] at hb
   rcases hb with rfl | rfl
   · exact HL_v2.out
   · exact HL_v3.out
 refine wp_region_picks [b_v2, b_v3] [0, 1] 2 (by kernel_rfl) (by kernel_rfl) rfl (by kernel_rfl) ?_
 simp only [pickL, List.drop_succ_cons, List.drop_zero, List.take_succ_cons, List.take_zero, List.cons_append, List.nil_append]
 refine ⟨?_, ?_, ?_⟩
 rotate_left 1
 refine ⟨_, calx_pure (by rfl) (fun u => by go_simp; rfl), ?_⟩
 simp only [Act.put, tA, tS, tZ]
 refine ⟨_, calxTrap v1010 nx_v1010 (by rfl) rfl, ?_⟩
 simp only [Act.put, tA, tS, tZ]
 exact rfl
 have e0 : Dx [b_v2, b_v3] w' w'.drew := Dn.dx (Dn.drawn _)
 have f_v2 := v2.dn (Dn.drawn w')
 have f_v3 := v3.dn (Dn.drawn w')
 refine wpX_one 2 (by kernel_rfl) ?_
 refine x1_store 0 (vs := (ins 0 0 0 0 0)) rfl f_v2 (.inl (by simp)) infoI (by simp [ins]) (insOne _ _ _ _ _) rfl rfl e0 fun u1 y1 du1 t1 e1 g1 => ?_
 rw [lay_all (ins 0 0 0 0 0) (ins 0 0 0 0 0) rfl] at g1
 replace f_v3 := (f_v3.dn du1).trn t1 n_v2_v3.out.symm
 clear f_v2 e0
 have f_v2 := g1
 have e0 := e1
 clear g1 t1 du1 e1
 refine wpX_one 3 (by kernel_rfl) ?_
 refine x1_store 0 (vs := #[.int .i64 2, .int .u32 x]) rfl f_v3 (.inl (by simp)) infoTrap (by simp) (by simp [Value.oneCell']) rfl rfl e0 fun u1 y1 du1 t1 e1 g1 => ?_
 rw [lay_all #[.int .i64 0, .int .u32 0] #[.int .i64 2, .int .u32 x] rfl] at g1
 replace f_v2 := (f_v2.dn du1).trn t1 n_v2_v3.out
 clear f_v3 e0
 have f_v3 := g1
 have e0 := e1
 clear g1 t1 du1 e1
 refine wpX_end (by kernel_rfl) fun w' dx => NoPanic.normal ?_
 have D := e0.trans (Dn.dx dx)
 replace f_v2 := f_v2.dn dx
 replace f_v3 := f_v3.dn dx
 clear e0 dx
 replace v1 := v1.dx D nx_v1
 replace v5 := v5.dx D nx_v5
 replace v6 := v6.dx D nx_v6
 replace v10 := v10.dx D nx_v10
 replace v1010 := v1010.dx D nx_v1010
 replace HD := Lib.hid (HD.out.of_dx D hbl)
 clear v2 v3 D hbs hbl nx_v1 nx_v5 nx_v6 nx_v10 nx_v1010
 have v2 := f_v2
 clear f_v2
 have v3 := f_v3
 clear f_v3
 go_wp2_with fail
 exact retIT rfl rfl rfl v2 v3 ⟨rfl, HD.out⟩ rfl

set_option maxRecDepth 100000 in
set_option maxHeartbeats 2000000 in
theorem stCurD (m : Mc) (W : World) (hm : m.Ok W) (hs : m.xs.length ≤ 100000) (x : Int) (ex : M.alv m.c m.xs (M.pc m.c) 4 = x) (ek : M.acz m.c m.xs.length (M.pc m.c) 4 = 0) (ev : M.atv m.c m.xs.length (M.pc m.c) 4 = 0) (T : Is.Tabs W) (x0 : 0 ≤ x) (x1 : x < 4294967296) (op rd ra rb imm : Int) (e1 : Is.M.dOp x = op) (e2 : Is.M.dRd x = rd) (e3 : Is.M.dRa x = ra) (e4 : Is.M.dRb x = rb) (e5 : Is.M.dImm x = imm) (hd : Is.M.dok x = true) (HK : ∀ (b2 b0 b1 : Nat) (w : World), Blk w b2 38 (ins op rd ra rb imm) → Blk w b0 26 (ints .u32 m.c) → Blk w b1 22 #[.int .u32 x] → Calls Tryz.prog 65 #[.pointer (some ⟨b2, 0, none⟩), .pointer (some ⟨b0, 0, none⟩), .pointer (some ⟨b1, 0, none⟩)] w fun e W' => e = .returned (.agg #[.int .i64 0, .int .u32 0]) ∧ Dn w W') :
   Calls Tryz.prog 15 #[.agg (mach m)] W fun e W' => e = .returned (.tuple #[.agg (ins op rd ra rb imm), .agg #[.int .i64 0, .int .u32 0]]) ∧ Dn W W' := by
 have hl := hm.len
 have hc := hm.core
 have C1 := Lib.hid fun w => fun (ow : m.Ok w) => ffetch m w ow hs x 0 0 ex ek ev
 have CT := Lib.hid (stTrapped 0 0 false rfl)
 clear ex ek ev
 have C2 := Lib.hid fun w => fun (t : Is.Tabs w) => (by have h := stDecYes x x0 x1 hd w t; rw [e1, e2, e3, e4, e5] at h; exact h : Calls Tryz.prog 32 #[.int .u32 x] w fun e W' => e = .returned (.tuple #[.agg (ins op rd ra rb imm), .bool true]) ∧ Dn w W')
 clear e1 e2 e3 e4 e5 hd
 have C3 := Lib.hid (stChecks m.c x op rd ra rb imm true hl)
 have K1 := Lib.hid fun (b3 b1 : Nat) (w : World) (g3 : Blk w b3 4 #[.bool true]) (g1 : Blk w b1 22 #[.int .u32 x]) => stChk1Yes x b3 b1 w g3 g1
 have K2 := Lib.hid fun (b2 b0 b1 : Nat) (w : World) (g2 : Blk w b2 38 (ins op rd ra rb imm)) (g0 : Blk w b0 26 (ints .u32 m.c)) (g1 : Blk w b1 22 #[.int .u32 x]) => HK b2 b0 b1 w g2 g0 g1
 clear HK
 have CH := Lib.hid (stTrapped 0 0 false rfl)
 have HD := Lib.hid (Dn.refl W)
 go_enter Tryz.func15, Tryz.ntmps15
 go_wp2_with (first | ((with_reducible refine wpList_box (vs := (mach m)) ?_ ?_ ?_); rfl; rfl; intro b_v1 w' nn; refine Hid.out ?_))
 refine Lib.hid ?_
 have d' := nn.dn
 replace HD := hT HD d'
 have v1 := nn.blk
 clear d' nn
 go_wp2_with (first | ((with_reducible refine wpList_alloc zeroI ?_ ?_); rfl; intro b_v2 w' nn; refine Hid.out ?_))
 refine Lib.hid ?_
 have n_v1_v2 := Lib.hid (nn.ne _ v1.lt)
 have HL_v2 : Hid (W.heap.size ≤ b_v2) := Lib.hid (Blk.hi nn HD.out.size)
 have d' := nn.dn
 replace v1 := v1.dn d'
 replace HD := hT HD d'
 have v2 := nn.blk
 clear d' nn
 go_wp2_with (first | ((with_reducible refine wpList_alloc zeroTrap ?_ ?_); rfl; intro b_v3 w' nn; refine Hid.out ?_))
 refine Lib.hid ?_
 have n_v1_v3 := Lib.hid (nn.ne _ v1.lt)
 have n_v2_v3 := Lib.hid (nn.ne _ v2.lt)
 have HL_v3 : Hid (W.heap.size ≤ b_v3) := Lib.hid (Blk.hi nn HD.out.size)
 have d' := nn.dn
 replace v1 := v1.dn d'
 replace v2 := v2.dn d'
 replace HD := hT HD d'
 have v3 := nn.blk
 clear d' nn
 go_wp2_with (first | ((with_reducible refine load33 v1 hl ?_ ?_ ?_); rfl; rfl) | (go_at_call 31; (with_reducible refine (C1.out _ (hm.dn HD.out)).mono ?_); rintro e w' ⟨rfl, d'⟩; refine Hid.out ?_))
 refine Lib.hid ?_
 replace v1 := v1.dn d'
 replace v2 := v2.dn d'
 replace v3 := v3.dn d'
 replace HD := hT HD d'
 clear d'
 go_wp2_with (first | ((with_reducible refine wpList_alloc zeroTrap ?_ ?_); rfl; intro b_v5 w' nn; refine Hid.out ?_))
 refine Lib.hid ?_
 have n_v1_v5 := Lib.hid (nn.ne _ v1.lt)
 have n_v2_v5 := Lib.hid (nn.ne _ v2.lt)
 have n_v3_v5 := Lib.hid (nn.ne _ v3.lt)
 have HL_v5 : Hid (W.heap.size ≤ b_v5) := Lib.hid (Blk.hi nn HD.out.size)
 have d' := nn.dn
 replace v1 := v1.dn d'
 replace v2 := v2.dn d'
 replace v3 := v3.dn d'
 replace HD := hT HD d'
 have v5 := nn.blk
 clear d' nn
 go_wp2_with (first | ((with_reducible refine storeTrap (k := 0) (v := 0) v5 ?_ ?_ ?_ ?_); rfl; rfl; rfl; intro w' r' t'; refine Hid.out ?_))
 refine Lib.hid ?_
 replace v1 := v1.trn t' n_v1_v5.out
 replace v2 := v2.trn t' n_v2_v5.out
 replace v3 := v3.trn t' n_v3_v5.out
 replace HD := Lib.hid (HD.out.trn HL_v5.out t')
 clear t' v5
 have v5 := r'
 clear r'
 go_wp2_with (first | ((with_reducible refine loadTrap v5 ?_ ?_ ?_); rfl; rfl) | (go_at_call 27; (with_reducible refine (CT.out _).mono ?_); rintro e w' ⟨rfl, d'⟩; refine Hid.out ?_))
 refine Lib.hid ?_
 replace v1 := v1.dn d'
 replace v2 := v2.dn d'
 replace v3 := v3.dn d'
 replace v5 := v5.dn d'
 replace HD := hT HD d'
 clear d'
 go_wp2_with (first | (go_at_call 32; (with_reducible refine (C2.out _ (T.dn HD.out)).mono ?_); rintro e w' ⟨rfl, d'⟩; refine Hid.out ?_))
 refine Lib.hid ?_
 replace v1 := v1.dn d'
 replace v2 := v2.dn d'
 replace v3 := v3.dn d'
 replace v5 := v5.dn d'
 replace HD := hT HD d'
 clear d'
 go_wp2_with (first | ((with_reducible refine wpList_alloc zeroI ?_ ?_); rfl; intro b_v6 w' nn; refine Hid.out ?_))
 refine Lib.hid ?_
 have n_v1_v6 := Lib.hid (nn.ne _ v1.lt)
 have n_v2_v6 := Lib.hid (nn.ne _ v2.lt)
 have n_v3_v6 := Lib.hid (nn.ne _ v3.lt)
 have n_v5_v6 := Lib.hid (nn.ne _ v5.lt)
 have HL_v6 : Hid (W.heap.size ≤ b_v6) := Lib.hid (Blk.hi nn HD.out.size)
 have d' := nn.dn
 replace v1 := v1.dn d'
 replace v2 := v2.dn d'
 replace v3 := v3.dn d'
 replace v5 := v5.dn d'
 replace HD := hT HD d'
 have v6 := nn.blk
 clear d' nn
 go_wp2_with (first | ((with_reducible refine storeI (op := op) (rd := rd) (ra := ra) (rb := rb) (imm := imm) v6 ?_ ?_ ?_ ?_); rfl; rfl; rfl; intro w' r' t'; refine Hid.out ?_))
 refine Lib.hid ?_
 replace v1 := v1.trn t' n_v1_v6.out
 replace v2 := v2.trn t' n_v2_v6.out
 replace v3 := v3.trn t' n_v3_v6.out
 replace v5 := v5.trn t' n_v5_v6.out
 replace HD := Lib.hid (HD.out.trn HL_v6.out t')
 clear t' v6
 have v6 := r'
 clear r'
 go_wp2_with (first | ((with_reducible refine loadCore v1 hl ?_ ?_ ?_); rfl; rfl) | ((with_reducible refine loadI v6 ?_ ?_ ?_); rfl; rfl) | (go_at_call 33; (with_reducible refine (C3.out _).mono ?_); rintro e w' ⟨b_gg, b_q0, b_q1, b_q2, b_q3, rfl, gg, q0, q1, q2, q3, d'⟩; refine Hid.out ?_))
 refine Lib.hid ?_
 replace v1 := v1.dn d'
 replace v2 := v2.dn d'
 replace v3 := v3.dn d'
 replace v5 := v5.dn d'
 replace v6 := v6.dn d'
 replace HD := hT HD d'
 clear d'
 replace gg := gg.out
 replace q0 := q0.out
 replace q1 := q1.out
 replace q2 := q2.out
 replace q3 := q3.out
 go_wp2_with fail
 refine wp_loop_rounds 3 ?_
 rw [rounds_succ]
 have kk := gg.cell (i := 0) (v := .func (.func 63) #[] #[.pointer (some ⟨b_q3, 0, none⟩), .pointer (some ⟨b_q1, 0, none⟩)]) rfl
 go_wp2_with (first | (go_at_call 63; (with_reducible refine (K1.out b_q3 b_q1 _ q3 q1).mono ?_); rintro e w' ⟨rfl, d'⟩; refine Hid.out ?_))
 refine Lib.hid ?_
 replace v1 := v1.dn d'
 replace v2 := v2.dn d'
 replace v3 := v3.dn d'
 replace v5 := v5.dn d'
 replace v6 := v6.dn d'
 replace gg := gg.dn d'
 replace q0 := q0.dn d'
 replace q1 := q1.dn d'
 replace q2 := q2.dn d'
 replace q3 := q3.dn d'
 replace HD := hT HD d'
 clear d'
 clear kk
 go_wp2_with (first | ((with_reducible refine wpList_alloc zeroTrap ?_ ?_); rfl; intro b_v10 w' nn; refine Hid.out ?_))
 refine Lib.hid ?_
 have n_v1_v10 := Lib.hid (nn.ne _ v1.lt)
 have n_v2_v10 := Lib.hid (nn.ne _ v2.lt)
 have n_v3_v10 := Lib.hid (nn.ne _ v3.lt)
 have n_v5_v10 := Lib.hid (nn.ne _ v5.lt)
 have n_v6_v10 := Lib.hid (nn.ne _ v6.lt)
 have n_gg_v10 := Lib.hid (nn.ne _ gg.lt)
 have n_q0_v10 := Lib.hid (nn.ne _ q0.lt)
 have n_q1_v10 := Lib.hid (nn.ne _ q1.lt)
 have n_q2_v10 := Lib.hid (nn.ne _ q2.lt)
 have n_q3_v10 := Lib.hid (nn.ne _ q3.lt)
 have HL_v10 : Hid (W.heap.size ≤ b_v10) := Lib.hid (Blk.hi nn HD.out.size)
 have d' := nn.dn
 replace v1 := v1.dn d'
 replace v2 := v2.dn d'
 replace v3 := v3.dn d'
 replace v5 := v5.dn d'
 replace v6 := v6.dn d'
 replace gg := gg.dn d'
 replace q0 := q0.dn d'
 replace q1 := q1.dn d'
 replace q2 := q2.dn d'
 replace q3 := q3.dn d'
 replace HD := hT HD d'
 have v10 := nn.blk
 clear d' nn
 go_wp2_with (first | ((with_reducible refine storeTrap (k := 0) (v := 0) v10 ?_ ?_ ?_ ?_); rfl; rfl; rfl; intro w' r' t'; refine Hid.out ?_))
 refine Lib.hid ?_
 replace v1 := v1.trn t' n_v1_v10.out
 replace v2 := v2.trn t' n_v2_v10.out
 replace v3 := v3.trn t' n_v3_v10.out
 replace v5 := v5.trn t' n_v5_v10.out
 replace v6 := v6.trn t' n_v6_v10.out
 replace gg := gg.trn t' n_gg_v10.out
 replace q0 := q0.trn t' n_q0_v10.out
 replace q1 := q1.trn t' n_q1_v10.out
 replace q2 := q2.trn t' n_q2_v10.out
 replace q3 := q3.trn t' n_q3_v10.out
 replace HD := Lib.hid (HD.out.trn HL_v10.out t')
 clear t' v10
 have v10 := r'
 clear r'
 go_wp2_with (first | ((with_reducible refine loadTrap v10 ?_ ?_ ?_); rfl; rfl) | (go_at_call 27; (with_reducible refine (CT.out _).mono ?_); rintro e w' ⟨rfl, d'⟩; refine Hid.out ?_))
 refine Lib.hid ?_
 replace v1 := v1.dn d'
 replace v2 := v2.dn d'
 replace v3 := v3.dn d'
 replace v5 := v5.dn d'
 replace v6 := v6.dn d'
 replace gg := gg.dn d'
 replace q0 := q0.dn d'
 replace q1 := q1.dn d'
 replace q2 := q2.dn d'
 replace q3 := q3.dn d'
 replace v10 := v10.dn d'
 replace HD := hT HD d'
 clear d'
 go_wp2_with fail
 rw [rounds_succ]
 have kk := gg.cell (i := 1) (v := .func (.func 65) #[] #[.pointer (some ⟨b_q2, 0, none⟩), .pointer (some ⟨b_q0, 0, none⟩), .pointer (some ⟨b_q1, 0, none⟩)]) rfl
 go_wp2_with (first | (go_at_call 65; (with_reducible refine (K2.out b_q2 b_q0 b_q1 _ q2 q0 q1).mono ?_); rintro e w' ⟨rfl, d'⟩; refine Hid.out ?_))
 refine Lib.hid ?_
 replace v1 := v1.dn d'
 replace v2 := v2.dn d'
 replace v3 := v3.dn d'
 replace v5 := v5.dn d'
 replace v6 := v6.dn d'
 replace gg := gg.dn d'
 replace q0 := q0.dn d'
 replace q1 := q1.dn d'
 replace q2 := q2.dn d'
 replace q3 := q3.dn d'
 replace v10 := v10.dn d'
 replace HD := hT HD d'
 clear d'
 clear kk
 go_wp2_with (first | ((with_reducible refine wpList_alloc zeroTrap ?_ ?_); rfl; intro b_v1010 w' nn; refine Hid.out ?_))
 refine Lib.hid ?_
 have n_v1_v1010 := Lib.hid (nn.ne _ v1.lt)
 have n_v2_v1010 := Lib.hid (nn.ne _ v2.lt)
 have n_v3_v1010 := Lib.hid (nn.ne _ v3.lt)
 have n_v5_v1010 := Lib.hid (nn.ne _ v5.lt)
 have n_v6_v1010 := Lib.hid (nn.ne _ v6.lt)
 have n_gg_v1010 := Lib.hid (nn.ne _ gg.lt)
 have n_q0_v1010 := Lib.hid (nn.ne _ q0.lt)
 have n_q1_v1010 := Lib.hid (nn.ne _ q1.lt)
 have n_q2_v1010 := Lib.hid (nn.ne _ q2.lt)
 have n_q3_v1010 := Lib.hid (nn.ne _ q3.lt)
 have n_v10_v1010 := Lib.hid (nn.ne _ v10.lt)
 have HL_v1010 : Hid (W.heap.size ≤ b_v1010) := Lib.hid (Blk.hi nn HD.out.size)
 have d' := nn.dn
 replace v1 := v1.dn d'
 replace v2 := v2.dn d'
 replace v3 := v3.dn d'
 replace v5 := v5.dn d'
 replace v6 := v6.dn d'
 replace gg := gg.dn d'
 replace q0 := q0.dn d'
 replace q1 := q1.dn d'
 replace q2 := q2.dn d'
 replace q3 := q3.dn d'
 replace v10 := v10.dn d'
 replace HD := hT HD d'
 have v1010 := nn.blk
 clear d' nn
 go_wp2_with (first | ((with_reducible refine storeTrap (k := 0) (v := 0) v1010 ?_ ?_ ?_ ?_); rfl; rfl; rfl; intro w' r' t'; refine Hid.out ?_))
 refine Lib.hid ?_
 replace v1 := v1.trn t' n_v1_v1010.out
 replace v2 := v2.trn t' n_v2_v1010.out
 replace v3 := v3.trn t' n_v3_v1010.out
 replace v5 := v5.trn t' n_v5_v1010.out
 replace v6 := v6.trn t' n_v6_v1010.out
 replace gg := gg.trn t' n_gg_v1010.out
 replace q0 := q0.trn t' n_q0_v1010.out
 replace q1 := q1.trn t' n_q1_v1010.out
 replace q2 := q2.trn t' n_q2_v1010.out
 replace q3 := q3.trn t' n_q3_v1010.out
 replace v10 := v10.trn t' n_v10_v1010.out
 replace HD := Lib.hid (HD.out.trn HL_v1010.out t')
 clear t' v1010
 have v1010 := r'
 clear r'
 go_wp2_with (first | ((with_reducible refine loadTrap v1010 ?_ ?_ ?_); rfl; rfl) | (go_at_call 27; (with_reducible refine (CH.out _).mono ?_); rintro e w' ⟨rfl, d'⟩; refine Hid.out ?_))
 refine Lib.hid ?_
 replace v1 := v1.dn d'
 replace v2 := v2.dn d'
 replace v3 := v3.dn d'
 replace v5 := v5.dn d'
 replace v6 := v6.dn d'
 replace gg := gg.dn d'
 replace q0 := q0.dn d'
 replace q1 := q1.dn d'
 replace q2 := q2.dn d'
 replace q3 := q3.dn d'
 replace v10 := v10.dn d'
 replace v1010 := v1010.dn d'
 replace HD := hT HD d'
 clear d'
 go_wp2_with fail
 rw [rounds_succ]
 clear gg q0 q1 q2 q3
 go_wp2_with (first | ((with_reducible refine loadI v6 ?_ ?_ ?_); rfl; rfl) | ((with_reducible refine storeI (op := op) (rd := rd) (ra := ra) (rb := rb) (imm := imm) v2 ?_ ?_ ?_ ?_); rfl; rfl; rfl; intro w' r' t'; refine Hid.out ?_))
 refine Lib.hid ?_
 replace v1 := v1.trn t' n_v1_v2.out
 replace v3 := v3.trn t' n_v2_v3.out.symm
 replace v5 := v5.trn t' n_v2_v5.out.symm
 replace v6 := v6.trn t' n_v2_v6.out.symm
 replace v10 := v10.trn t' n_v2_v10.out.symm
 replace v1010 := v1010.trn t' n_v2_v1010.out.symm
 replace HD := Lib.hid (HD.out.trn HL_v2.out t')
 clear t' v2
 have v2 := r'
 clear r'
 go_wp2_with (first | ((with_reducible refine storeTrap (k := 0) (v := 0) v3 ?_ ?_ ?_ ?_); rfl; rfl; rfl; intro w' r' t'; refine Hid.out ?_))
 refine Lib.hid ?_
 replace v1 := v1.trn t' n_v1_v3.out
 replace v2 := v2.trn t' n_v2_v3.out
 replace v5 := v5.trn t' n_v3_v5.out.symm
 replace v6 := v6.trn t' n_v3_v6.out.symm
 replace v10 := v10.trn t' n_v3_v10.out.symm
 replace v1010 := v1010.trn t' n_v3_v1010.out.symm
 replace HD := Lib.hid (HD.out.trn HL_v3.out t')
 clear t' v3
 have v3 := r'
 clear r'
 go_wp2_with fail
 exact retIT rfl rfl rfl v2 v3 ⟨rfl, HD.out⟩ rfl

def M.nw (f : Int → Int) (c xs : List Int) : Int := if M.nowK c xs = 0 then f (M.fw c xs) else 0
theorem M.nw_go {c xs : List Int} (f : Int → Int) (h : M.nowK c xs = 0) : M.nw f c xs = f (M.fw c xs) := by unfold M.nw; rw [if_pos h]
theorem M.nw_no {c xs : List Int} (f : Int → Int) (h : M.nowK c xs ≠ 0) : M.nw f c xs = 0 := by unfold M.nw; rw [if_neg h]
theorem fw_rng {w : World} {m : Mc} (hm : m.Ok w) : 0 ≤ M.fw m.c m.xs ∧ M.fw m.c m.xs < 4294967296 := alv_rng hm (M.pc m.c) 4 (by decide) (by decide)
theorem not_zero {k v : Int} (h : k ≠ 0) : (!(k == 0 && v == 0)) = true := by
 rw [show (k == 0) = false from beq_eq_false_iff_ne.2 h]; rfl
theorem stCur (m : Mc) (W : World) (hm : m.Ok W) (hs : m.xs.length ≤ 100000) (T : Is.Tabs W) :
   Calls Tryz.prog 15 #[.agg (mach m)] W fun e W' => e = .returned (.tuple #[.agg (ins (M.nw Is.M.dOp m.c m.xs) (M.nw Is.M.dRd m.c m.xs) (M.nw Is.M.dRa m.c m.xs) (M.nw Is.M.dRb m.c m.xs) (M.nw Is.M.dImm m.c m.xs)), .agg #[.int .i64 (M.nowK m.c m.xs), .int .u32 (M.nowV m.c m.xs)]]) ∧ Dn W W' := by
 have hc := hm.core
 have hw := fw_rng hm
 by_cases hk : M.acz m.c m.xs.length (M.pc m.c) 4 = 0
 · have ev := M.atv_yes hk
   cases hd : Is.M.dok (M.fw m.c m.xs)
   · have e := M.nowK_bad hk hd
     have ne : M.nowK m.c m.xs ≠ 0 := by rw [e.1]; decide
     rw [M.nw_no _ ne, M.nw_no _ ne, M.nw_no _ ne, M.nw_no _ ne, M.nw_no _ ne, e.1, e.2]
     exact stCurB m W hm hs _ rfl hk ev T hw.1 hw.2 hd
   · by_cases hp : Is.M.priv (Is.M.dOp (M.fw m.c m.xs)) = true ∧ M.sup m.c = false
     · have e := M.nowK_priv hk hd hp.1 hp.2
       have ne : M.nowK m.c m.xs ≠ 0 := by rw [e.1]; decide
       rw [M.nw_no _ ne, M.nw_no _ ne, M.nw_no _ ne, M.nw_no _ ne, M.nw_no _ ne, e.1, e.2]
       exact stCurC m W hm hs _ rfl hk ev T hw.1 hw.2 _ _ _ _ _ rfl rfl rfl rfl rfl hd (fun b2 b0 b1 w g2 g0 g1 => stChk2C m.c (M.fw m.c m.xs) _ _ _ _ _ b2 b0 b1 w hc g2 g0 g1 hp.1 hp.2)
     · have e := M.nowK_go hk hd (by
         cases h1 : Is.M.priv (Is.M.dOp (M.fw m.c m.xs))
         · exact .inl rfl
         · cases h2 : M.sup m.c
           · exact absurd ⟨h1, h2⟩ hp
           · exact .inr rfl)
       rw [M.nw_go _ e.1, M.nw_go _ e.1, M.nw_go _ e.1, M.nw_go _ e.1, M.nw_go _ e.1, e.1, e.2]
       refine stCurD m W hm hs _ rfl hk ev T hw.1 hw.2 _ _ _ _ _ rfl rfl rfl rfl rfl hd (fun b2 b0 b1 w g2 g0 g1 => ?_)
       cases h1 : Is.M.priv (Is.M.dOp (M.fw m.c m.xs))
       · exact stChk2A m.c (M.fw m.c m.xs) _ _ _ _ _ b2 b0 b1 w hc g2 g0 g1 h1
       · cases h2 : M.sup m.c
         · exact absurd ⟨h1, h2⟩ hp
         · exact stChk2B m.c (M.fw m.c m.xs) _ _ _ _ _ b2 b0 b1 w hc g2 g0 g1 h1 h2
 · have e := M.nowK_fetch hk
   have ne : M.nowK m.c m.xs ≠ 0 := by rw [e.1]; exact hk
   rw [M.nw_no _ ne, M.nw_no _ ne, M.nw_no _ ne, M.nw_no _ ne, M.nw_no _ ne, e.1, e.2]
   exact stCurA m W hm hs _ _ _ rfl rfl (M.atv_no hk) (not_zero hk)
theorem stOp {op rd ra rb imm : Int} (hv : Is.M.ok op rd ra rb imm = true) (hp : Is.M.priv op = true) : op = 21 ∨ op = 22 ∨ op = 23 ∨ op = 24 ∨ op = 25 := by
 unfold Is.M.priv at hp
 simp at hp
 omega
theorem stExeN (m : Mc) (W : World) (hm : m.Ok W) (hs : m.xs.length ≤ 100000) (T : Env2 W) (w : Int) (hd : Is.M.dok w = true) (hp : Is.M.priv (Is.M.dOp w) = false) (r : M.Res) (hr : M.ex m.c m.xs (Is.M.dOp w) (Is.M.dRd w) (Is.M.dRa w) (Is.M.dRb w) (Is.M.dImm w) = r) :
   Calls Tryz.prog 28 #[.agg (mach m), .agg (ins (Is.M.dOp w) (Is.M.dRd w) (Is.M.dRa w) (Is.M.dRb w) (Is.M.dImm w))] W fun e W' => XeRet W m r.c r.z m.ys m.h r.k r.v e W' := by
 have hv := M.dok_ok hd
 have hi := Is.dImm_rng w
 subst hr
 refine (stExePl m _ _ _ _ _ W hm hs T.isa hi.1 hi.2 hv hp).mono fun e W' h => ?_
 obtain ⟨m1, he, o1, u1, d⟩ := h
 obtain ⟨A, k, rfl⟩ := u1.out
 exact ⟨_, he, o1, Lib.hid ⟨rfl, rfl, rfl, rfl, rfl⟩, d⟩
theorem stExeP (m : Mc) (W : World) (hm : m.Ok W) (hy : m.ys.length ≤ 100000) (T : Env2 W) (w : Int) (hd : Is.M.dok w = true) (hp : Is.M.priv (Is.M.dOp w) = true) (r : M.PRes) (hr : M.px m.c m.ys m.h m.t (Is.M.dOp w) (Is.M.dRd w) (Is.M.dRa w) (Is.M.dImm w) = r) :
   Calls Tryz.prog 28 #[.agg (mach m), .agg (ins (Is.M.dOp w) (Is.M.dRd w) (Is.M.dRa w) (Is.M.dRb w) (Is.M.dImm w))] W fun e W' => XeRet W m r.c m.xs r.ys r.h 0 0 e W' := by
 have hv := M.dok_ok hd
 have hi := Is.dImm_rng w
 subst hr
 refine (stExePv m _ _ _ _ _ W hm hp T.csr hi.1 hi.2 hy (stOp hv hp)).mono fun e W' h => ?_
 obtain ⟨m1, he, o1, u1, d⟩ := h
 obtain ⟨n, p⟩ := u1.out
 exact ⟨m1, he, o1, Lib.hid ⟨p.c, p.xs, p.ys, p.h, p.t⟩, d⟩
theorem stNt (m : Mc) (W : World) (hm : m.Ok W) (hs : m.xs.length ≤ 100000) (hy : m.ys.length ≤ 100000) (T : Env2 W) :
   Calls Tryz.prog 13 #[.agg (mach m)] W fun e W' => StRet W (M.stn m.c m.xs m.ys m.h m.t) e W' := by
 have hc := hm.core
 have hw := fw_rng hm
 cases hh : m.h
 · rw [M.stn_on]
   by_cases hk : M.nowK m.c m.xs = 0
   · have hd := M.nowK_dok hk
     have hv0 := M.nowV_zero hk
     have hcur : ∀ w, m.Ok w → Env2 w → Calls Tryz.prog 15 #[.agg (mach m)] w fun e W' => e = .returned (.tuple #[.agg (ins (Is.M.dOp (M.fw m.c m.xs)) (Is.M.dRd (M.fw m.c m.xs)) (Is.M.dRa (M.fw m.c m.xs)) (Is.M.dRb (M.fw m.c m.xs)) (Is.M.dImm (M.fw m.c m.xs))), .agg #[.int .i64 0, .int .u32 0]]) ∧ Dn w W' := fun w ow t => by
       have h := stCur m w ow hs t.isa
       rw [M.nw_go _ hk, M.nw_go _ hk, M.nw_go _ hk, M.nw_go _ hk, M.nw_go _ hk, hk, hv0] at h
       exact h
     cases hp : Is.M.priv (Is.M.dOp (M.fw m.c m.xs))
     · rw [M.stp_plain hk hp]
       have e := M.ex_vr m.c m.xs (Is.M.dOp (M.fw m.c m.xs)) (Is.M.dRd (M.fw m.c m.xs)) (Is.M.dRa (M.fw m.c m.xs)) (Is.M.dRb (M.fw m.c m.xs)) (Is.M.dImm (M.fw m.c m.xs))
       have k3 := M.ex_k m.c m.xs (Is.M.dOp (M.fw m.c m.xs)) (Is.M.dRd (M.fw m.c m.xs)) (Is.M.dRa (M.fw m.c m.xs)) (Is.M.dRb (M.fw m.c m.xs)) (Is.M.dImm (M.fw m.c m.xs))
       have h := stNtG m W hm hh T _ _ (by omega) (by omega) e.1 e.2 _ _ _ _ _ _ _ _ _ hcur (fun w ow t => stExeN m w ow hs t (M.fw m.c m.xs) hd hp _ rfl)
       rw [hh] at h
       exact h
     · rw [M.stp_priv hk hp]
       have h := stNtG m W hm hh T 0 0 (by decide) (by decide) (by decide) (by decide) _ _ _ _ _ _ _ _ _ hcur (fun w ow t => stExeP m w ow hy t (M.fw m.c m.xs) hd hp _ rfl)
       rw [hh] at h
       exact h
   · rw [M.stp_trap hk]
     have n := M.nowK_vals m.c m.xs
     have v := M.nowV_rng hc hw
     refine (stNtT m W hm hh _ _ (by omega) (by omega) v.1 v.2 (not_zero hk) T (fun w ow t => ?_) _ rfl).mono fun e W' h => ?_
     · have h := stCur m w ow hs t.isa
       rw [M.nw_no _ hk, M.nw_no _ hk, M.nw_no _ hk, M.nw_no _ hk, M.nw_no _ hk] at h
       exact h
     · exact ⟨_, h.1, Lib.hid ((hm.dn h.2).fin v.1 v.2), Lib.hid ⟨rfl, rfl, rfl, rfl, hh⟩, h.2⟩
 · rw [M.stn_halted]
   refine (stNtH m W hm hh _ rfl).mono fun e W' h => ?_
   have o := hm.dn h.2
   exact ⟨_, h.1, Lib.hid ⟨hc, o.mem.full, o.out.full, hm.t0, hm.t1⟩, Lib.hid ⟨rfl, rfl, rfl, rfl, hh⟩, h.2⟩
theorem stStep (m : Mc) (W : World) (hm : m.Ok W) (hs : m.xs.length ≤ 100000) (hy : m.ys.length ≤ 100000) (T : Env2 W) :
   Calls Tryz.prog 11 #[.agg (mach m)] W fun e W' => StRet W (M.stS m.c m.xs m.ys m.h m.t) e W' := by
 have hN : ∀ w, m.Ok w → Env2 w → Calls Tryz.prog 13 #[.agg (mach m)] w fun e W' => StRet w (M.stn m.c m.xs m.ys m.h m.t) e W' := fun w ow t => stNt m w ow hs hy t
 cases hh : m.h
 · cases hd : M.due m.c m.t
   · rw [M.stS_not hd, ← hh]
     exact stSNN m W hm hh T hd _ hN
   · rw [M.stS_due hd]
     refine (stSD m W hm hh hd _ rfl).mono fun e W' h => ?_
     exact ⟨_, h.1, Lib.hid ((hm.dn h.2).fin (by decide) (by decide)), Lib.hid ⟨rfl, rfl, rfl, rfl, hh⟩, h.2⟩
 · have e : M.stS m.c m.xs m.ys true m.t = M.stn m.c m.xs m.ys m.h m.t := by rw [hh, M.stS_halted, M.stn_halted]
   rw [e]
   exact stSNH m W hm hh T _ hN
end Go.Proofs.YtjbnflalngjfaaaGreatDoor
namespace Go.Proofs.YtjbnflalngjfaaaGreatDoor
open Go.ChangeShapes Go.WideShapes Go.ChangeAt Go.RowKit
set_option linter.unusedVariables false

def laidL : List (String × DataW Unit) := [("gaoler/csr.masks", Rows.laid_gaoler_csr_masks), ("gaoler/isa.formats", Rows.laid_gaoler_isa_formats), ("gaoler/isa.operandsOf", Rows.laid_gaoler_isa_operandsOf)]
set_option maxRecDepth 100000 in
theorem start_shaped (os : Os) (args : Array Value) : ((World.laidAll Tryz.prog os laidL).forCall (fun _ _ => 0) ⟨#[], args, []⟩).Shaped Tryz.prog := World.shaped_of_ZipB (by kernel_rfl) (by kernel_rfl)
set_option maxRecDepth 100000 in
theorem start_met (os : Os) (args : Array Value) : laidMetH Tryz.prog laidL ((World.laidAll Tryz.prog os laidL).forCall (fun _ _ => 0) ⟨#[], args, []⟩).memory := by
 rw [MakeChecks.laidMetH_plain _ _ _ (by kernel_rfl)]
 exact laidMet_laidAll _ (by kernel_rfl) (by kernel_rfl)
namespace Is
theorem cellsInt : Tryz.prog.cellsOf 3 = 1 := by kernel_rfl
theorem cellsBool : Tryz.prog.cellsOf 4 = 1 := by kernel_rfl
theorem cellsOpers : Tryz.prog.cellsOf 105 = 5 := by kernel_rfl
section
variable {H : Type} {enc : TypeId × Value → H} {P : Program} {w : World} {base : Nat} {spare : Nat → Bool} {held : Bool}

theorem arr_int {m n : Nat} {e : TypeId} {cs : List Value} {xs : List (DataW H × List MemPlace)} {k : IntKind} (he : P.underlying e = some (.int k)) (hc : P.cellsOf e = 1)
   (hel : ∀ i, i < n → DataW.trod enc P w base spare held m e ((cs.drop (i * P.cellsOf e)).take (P.cellsOf e)) = xs[i]?) {i : Nat} (hi : i < n) {z : Int}
   (hz : (xs.map (·.1))[i]? = some (.lit (.int k z))) : cs[i]? = some (.int k z) := by
 have h := hel i hi
 rw [hc, Nat.mul_one] at h
 rw [List.getElem?_map] at hz
 cases hx : xs[i]? with
 | none => rw [hx] at hz; simp at hz
 | some y =>
   rw [hx] at hz h
   obtain ⟨q, e1, e2, _⟩ := DataW.trod_int he h
   rw [e2] at hz
   have hq : q = z := by simpa using hz
   have h2 : cs[i]? = ((cs.drop i).take 1)[0]? := by simp [List.getElem?_drop]
   rw [h2, e1, hq]; rfl

theorem arr_bools {m n c j : Nat} {e : TypeId} {fs : Array Field} {g : Field} {cs : List Value} {xs : List (DataW H × List MemPlace)} (he : P.underlying e = some (.struct fs)) (hc : P.cellsOf e = c)
   (hg : fs[j]? = some g) (ho : g.offset = j) (ht : P.underlying g.type = some .bool) (h1 : P.cellsOf g.type = 1) (hj : j < c)
   (hel : ∀ i, i < n → DataW.trod enc P w base spare held m e ((cs.drop (i * P.cellsOf e)).take (P.cellsOf e)) = xs[i]?) {i : Nat} (hi : i < n) {L : List (DataW H)} {b : Bool}
   (hL : (xs.map (·.1))[i]? = some (.agg L)) (hb : L[j]? = some (.lit (.bool b))) : cs[i * c + j]? = some (.bool b) := by
 have h := hel i hi
 rw [hc] at h
 rw [List.getElem?_map] at hL
 cases hx : xs[i]? with
 | none => rw [hx] at hL; simp at hL
 | some y =>
   rw [hx] at hL h
   obtain ⟨ys, n', _, hy, _, _, hf⟩ := DataW.trod_struct he h
   have h3 := hf j g hg
   rw [ho, h1] at h3
   have hL2 : ys.map (·.1) = L := by rw [hy] at hL; simpa using hL
   rw [← hL2, List.getElem?_map] at hb
   cases hz : ys[j]? with
   | none => rw [hz] at hb; simp at hb
   | some z =>
     rw [hz] at hb h3
     obtain ⟨q, e1, e2⟩ := DataW.trod_bool ht h3
     rw [e2] at hb
     have hq : q = b := by simpa using hb
     have h2 : cs[i * c + j]? = ((((cs.drop (i * c)).take c).drop j).take 1)[0]? := by
       simp [List.getElem?_drop, hj]
     rw [h2, e1, hq]; rfl
end

theorem forms_laid (i : Int) (h0 : 0 ≤ i) (h : i ≤ 25) (L : List (DataW Unit)) (hL : Rows.laid_gaoler_isa_formats = .agg L) : L[i.toNat]? = some (.lit (.int .i64 (M.form i))) := by
 unfold Rows.laid_gaoler_isa_formats at hL
 injection hL with hL
 subst hL
 have : i = 0 ∨ i = 1 ∨ i = 2 ∨ i = 3 ∨ i = 4 ∨ i = 5 ∨ i = 6 ∨ i = 7 ∨ i = 8 ∨ i = 9 ∨ i = 10 ∨ i = 11 ∨ i = 12 ∨ i = 13 ∨ i = 14 ∨ i = 15 ∨ i = 16 ∨ i = 17 ∨ i = 18 ∨ i = 19 ∨ i = 20 ∨ i = 21 ∨ i = 22 ∨ i = 23 ∨ i = 24 ∨ i = 25 := by omega
 rcases this with rfl | rfl | rfl | rfl | rfl | rfl | rfl | rfl | rfl | rfl | rfl | rfl | rfl | rfl | rfl | rfl | rfl | rfl | rfl | rfl | rfl | rfl | rfl | rfl | rfl | rfl <;> rfl

theorem opers_laid (f : Int) (h0 : 0 ≤ f) (h : f ≤ 7) (L : List (DataW Unit)) (hL : Rows.laid_gaoler_isa_operandsOf = .agg L) :
   L[f.toNat]? = some (.agg [.lit (.bool (M.hasRd f)), .lit (.bool (M.hasRa f)), .lit (.bool (M.hasRb f)), .lit (.bool (M.hasImm f)), .lit (.bool (M.hasCsr f))]) := by
 unfold Rows.laid_gaoler_isa_operandsOf at hL
 injection hL with hL
 subst hL
 have : f = 0 ∨ f = 1 ∨ f = 2 ∨ f = 3 ∨ f = 4 ∨ f = 5 ∨ f = 6 ∨ f = 7 := by omega
 rcases this with rfl | rfl | rfl | rfl | rfl | rfl | rfl | rfl <;> rfl


theorem tForm : (Tryz.prog.globals[1]?).map (·.type) = some 116 := by kernel_rfl
theorem tOper : (Tryz.prog.globals[0]?).map (·.type) = some 106 := by kernel_rfl
theorem gForm : Tryz.prog.globalNamed "gaoler/isa.formats" = some 1 := by kernel_rfl
theorem gOper : Tryz.prog.globalNamed "gaoler/isa.operandsOf" = some 0 := by kernel_rfl
theorem tabs_of {W : World} (r0 : Lib.VarReads Tryz.prog W "gaoler/isa.formats" Rows.laid_gaoler_isa_formats) (r1 : Lib.VarReads Tryz.prog W "gaoler/isa.operandsOf" Rows.laid_gaoler_isa_operandsOf) : Tabs W := by
 obtain ⟨g0, t0, cs0, f0, p0, hg0, ht0, hv0, hd0⟩ := r0
 obtain ⟨g1, t1, cs1, f1, p1, hg1, ht1, hv1, hd1⟩ := r1
 obtain rfl := Option.some.inj (gForm.symm.trans hg0)
 obtain rfl := Option.some.inj (gOper.symm.trans hg1)
 obtain rfl := Option.some.inj (tForm.symm.trans ht0)
 obtain rfl := Option.some.inj (tOper.symm.trans ht1)
 obtain ⟨xs, m0, _, hx0, _, hn0, hel0⟩ := DataW.trod_array Tryz.underlying116 hd0
 obtain ⟨ys, m1, _, hx1, _, hn1, hel1⟩ := DataW.trod_array Tryz.underlying106 hd1
 simp only [Prod.mk.injEq] at hx0 hx1
 have hf : ∀ i : Int, 0 ≤ i → i ≤ 25 → W.cell? ⟨1, i.toNat, none⟩ = some (.int .i64 (M.form i)) := fun i a b => by
   rw [World.var?_cell hg0 hv0 i.toNat, ← Array.getElem?_toList]
   exact arr_int Tryz.underlying3 cellsInt hel0 (by omega) (forms_laid i a b _ hx0.1)
 have h0 : ∀ f : Int, 0 ≤ f → f ≤ 7 → W.cell? ⟨0, f.toNat * 5, none⟩ = some (.bool (M.hasRd f)) := fun f a c => by
     rw [World.var?_cell hg1 hv1 (f.toNat * 5), ← Array.getElem?_toList]
     exact arr_bools (j := 0) Tryz.underlying105 cellsOpers rfl rfl Tryz.underlying4 cellsBool (by decide) hel1 (i := f.toNat) (by omega) (opers_laid f a c _ hx1.1) rfl
 exact ⟨lt_of_cell (hf 0 (by decide) (by decide)), lt_of_cell (h0 0 (by decide) (by decide)), hf, h0,
   fun f a c => by
     rw [World.var?_cell hg1 hv1 (f.toNat * 5 + 1), ← Array.getElem?_toList]
     exact arr_bools (j := 1) Tryz.underlying105 cellsOpers rfl rfl Tryz.underlying4 cellsBool (by decide) hel1 (i := f.toNat) (by omega) (opers_laid f a c _ hx1.1) rfl,
   fun f a c => by
     rw [World.var?_cell hg1 hv1 (f.toNat * 5 + 2), ← Array.getElem?_toList]
     exact arr_bools (j := 2) Tryz.underlying105 cellsOpers rfl rfl Tryz.underlying4 cellsBool (by decide) hel1 (i := f.toNat) (by omega) (opers_laid f a c _ hx1.1) rfl,
   fun f a c => by
     rw [World.var?_cell hg1 hv1 (f.toNat * 5 + 3), ← Array.getElem?_toList]
     exact arr_bools (j := 3) Tryz.underlying105 cellsOpers rfl rfl Tryz.underlying4 cellsBool (by decide) hel1 (i := f.toNat) (by omega) (opers_laid f a c _ hx1.1) rfl,
   fun f a c => by
     rw [World.var?_cell hg1 hv1 (f.toNat * 5 + 4), ← Array.getElem?_toList]
     exact arr_bools (j := 4) Tryz.underlying105 cellsOpers rfl rfl Tryz.underlying4 cellsBool (by decide) hel1 (i := f.toNat) (by omega) (opers_laid f a c _ hx1.1) rfl⟩

section
variable {H : Type} {enc : TypeId × Value → H} {w : World} {base : Nat} {spare : Nat → Bool} {held : Bool}

end
end Is
namespace Cs
theorem cellsU32 : Tryz.prog.cellsOf 22 = 1 := by kernel_rfl
theorem cellsArr : Tryz.prog.cellsOf 24 = 12 := by kernel_rfl
section
variable {H : Type} {enc : TypeId × Value → H} {P : Program} {w : World} {base : Nat} {spare : Nat → Bool} {held : Bool}

theorem arr_int {m n : Nat} {e : TypeId} {cs : List Value} {xs : List (DataW H × List MemPlace)} {k : IntKind} (he : P.underlying e = some (.int k)) (hc : P.cellsOf e = 1)
   (hel : ∀ i, i < n → DataW.trod enc P w base spare held m e ((cs.drop (i * P.cellsOf e)).take (P.cellsOf e)) = xs[i]?) {i : Nat} (hi : i < n) {z : Int}
   (hz : (xs.map (·.1))[i]? = some (.lit (.int k z))) : cs[i]? = some (.int k z) := by
 have h := hel i hi
 rw [hc, Nat.mul_one] at h
 rw [List.getElem?_map] at hz
 cases hx : xs[i]? with
 | none => rw [hx] at hz; simp at hz
 | some y =>
   rw [hx] at hz h
   obtain ⟨q, e1, e2, _⟩ := DataW.trod_int he h
   rw [e2] at hz
   have hq : q = z := by simpa using hz
   have h2 : cs[i]? = ((cs.drop i).take 1)[0]? := by simp [List.getElem?_drop]
   rw [h2, e1, hq]; rfl

end
theorem gMasks : Tryz.prog.globalNamed "gaoler/csr.masks" = some 2 := by kernel_rfl
theorem tMasks : (Tryz.prog.globals[2]?).map (·.type) = some 24 := by kernel_rfl
theorem block_of_var {P : Program} {w : World} {n : String} {g : Nat} {cs : Array Value} (hg : P.globalNamed n = some g) (h : w.var? P n = some cs) : ∃ t fr, w.heap[g]? = some (.cells cs t fr) := by
 simp only [World.var?, hg, Option.bind_some] at h
 split at h
 · rename_i e; simp at h; subst h; exact ⟨_, _, e⟩
 · simp at h

theorem array_ints {cs : Array Value} {k : IntKind} {l : List Int} (hs : cs.size = l.length) (h : ∀ i, i < l.length → cs[i]? = some (.int k (l.getD i 0))) : cs = ints k l := by
 apply Array.ext_getElem?
 intro i
 by_cases hi : i < l.length
 · rw [h i hi, ints_get _ _ _ hi]
 · rw [Array.getElem?_eq_none (by omega), Array.getElem?_eq_none (by rw [ints_size]; omega)]
theorem laid_masks : Rows.laid_gaoler_csr_masks = (.agg (M.maskL.map fun x => .lit (.int .u32 x)) : DataW Unit) := rfl

theorem masks_of {W : World} (r : Lib.VarReads Tryz.prog W "gaoler/csr.masks" Rows.laid_gaoler_csr_masks) : ∃ t fr, W.heap[(2 : Nat)]? = some (.cells (ints .u32 M.maskL) t fr) := by
 obtain ⟨g0, t0, cs0, f0, p0, hg0, ht0, hv0, hd0⟩ := r
 obtain rfl := Option.some.inj (gMasks.symm.trans hg0)
 obtain rfl := Option.some.inj (tMasks.symm.trans ht0)
 obtain ⟨xs, m0, _, hx0, hsz, hn0, hel0⟩ := DataW.trod_array Tryz.underlying24 hd0
 simp only [Prod.mk.injEq] at hx0
 have hm : xs.map (·.1) = M.maskL.map fun x => .lit (.int .u32 x) := by
   have := hx0.1.symm.trans laid_masks
   injection this
 have e : cs0 = ints .u32 M.maskL := array_ints (by rw [← Array.length_toList, hsz]; exact cellsArr) fun i hi => by
   rw [← Array.getElem?_toList]
   refine arr_int Tryz.underlying22 cellsU32 hel0 (show i < 12 from hi) ?_
   rw [hm, List.getElem?_map, List.getElem?_eq_getElem hi]
   simp [List.getD, hi]
 rw [← e]
 exact block_of_var hg0 hv0
end Cs
structure Env (W : World) : Prop where
 isa : Is.Tabs W
 csr : Cs.CsrTabs W
theorem env_of {W : World} (h : laidMetH Tryz.prog laidL W) (hs : W.ShapedOpen Tryz.prog) : Env W := by
 rw [MakeChecks.laidMetH_plain _ _ _ (by kernel_rfl)] at h
 exact ⟨Is.tabs_of (Lib.laidMet.reads h (by simp [laidL])) (Lib.laidMet.reads h (by simp [laidL])), ⟨Cs.masks_of (Lib.laidMet.reads h (by simp [laidL]))⟩⟩
section
variable {H : Type} {enc : TypeId × Value → H}
theorem returns_of_walk {a : Assume} {C : Checked} (hC : C.prog = Tryz.prog) {os : Os} {f : FuncId} {fn : Func} {s : ChangeSpec} {fresh handsOn : Bool}
   (own : ownKnob C.prog.godebug = none) (started : os.Started) (noInit : C.prog.inits.idxOf? f = none) (hfn : C.prog.funcs[f]? = some fn) (hvars : s.vars = [])
   (hread : ∀ t ∈ fn.params.toList, Tryz.prog.readableRec t = true ∧ t < Tryz.prog.types.size) (hres : fn.resultTypes = #[4])
   (hspec : ∀ (H : Type) (ds : List (DataW H)), ds.length = fn.params.size → (s.fn H ds).results = [.lit (.bool true)] ∧ (s.fn H ds).args = ds ∧ (s.fn H ds).vars = [])
   (witness : ∃ (w : World) (tape : Tape) (i : Input), w.os = os ∧ (w.forCall tape i).Shaped C.prog ∧ i.vars = [] ∧ Input.okWide C.prog (w.forCall tape i) .any w.heap.size f i ∧
     ((s.pre enc C.prog fn [] false (w.forCall tape i).memory i.args ∧ laidMetH C.prog laidL (w.forCall tape i).memory) ∧ sizedMet enc C.prog fn (OpenSpec.ofChange s) false (w.forCall tape i).memory i.args) ∧ a.holds C.prog (lone (Frame.enter C.prog f i.args .normal) [] (w.forCall tape i)))
   (walk : ∀ (W : World) (base : Nat) (args : Array Value) (ds : List (DataW H)) (ps : List MemPlace), Env W →
     (∀ (j : Nat) t v, fn.params[j]? = some t → args[j]? = some v → Value.okWide C.prog W .any base t v) →
     DataW.TrodAll enc C.prog W 0 (fun _ => true) true fn.params.toList args.toList ds ps →
     Calls C.prog f args W fun e W' => e = .returned (.bool true) ∧ Dn W W') :
   ReturnsInHanded a C os f .any (fun w args => (s.pre enc C.prog fn [] false w args ∧ laidMetH C.prog laidL w) ∧ sizedMet enc C.prog fn (OpenSpec.ofChange s) false w args) (s.post enc C.prog fn false fresh handsOn false) := by
 refine returnsInHanded_of_calls own started noInit witness ?_
 intro w tape i _ hsh _ hok hpre _
 obtain ⟨_, _, _, fn', hfn', _, _, _, _, hval⟩ := hok
 have e : fn' = fn := Option.some.inj (hfn'.symm.trans hfn)
 subst e
 obtain ⟨⟨⟨ds, gs, before, hw, _⟩, hx⟩, _⟩ := hpre
 have hw' := DataW.Whole.of_heap (w' := w.forCall tape i) (by rfl) hw
 have hE : Env (w.forCall tape i) := env_of (hC ▸ laidMetH.of_heap (w' := w.forCall tape i) (by rfl) hx) (hC ▸ hsh)
 generalize w.forCall tape i = W at *
 have hlt : ∀ p ∈ before, p.block < W.heap.size := fun p hp => hw'.lt p hp
 have hWh := hw'
 obtain ⟨p, q, hA, hV, rfl, hfz, hnd⟩ := hw'
 rw [hvars] at hV
 obtain ⟨rfl, rfl⟩ := trodVars_none hV
 have hlen : ds.length = fn'.params.size := by rw [(trodAll_length hA).2]; simp
 obtain ⟨s1, s2, s3⟩ := hspec H ds hlen
 simp only [List.append_nil] at hlt hWh
 refine (walk W _ i.args ds p hE hval hA).mono fun e W' ⟨he, hb⟩ => ?_
 subst he
 refine ChangeSpec.post_blind ?_
 exact ⟨ds, [], p, [], p, [], hWh, by rw [List.append_nil, s1, hres, hC]; exact trodAll_mk1 (shut_bool Tryz.underlying4 _),
   by rw [List.append_nil, s2, hC]; exact args_stay hb hread (hC ▸ hA) hlt (fun x hx => by simpa using hlt x hx),
   by rw [List.append_nil, s3, hvars]; trivial, hb.frame _, fun h => by cases h⟩
end


theorem Env.two {W : World} (h : Env W) : Env2 W := ⟨h.isa, h.csr⟩
theorem eqTrap_same (k v : Int) (w : World) : (Op.equalIn 10000 34 (.agg #[.int .i64 k, .int .u32 v]) (.agg #[.int .i64 k, .int .u32 v])).run Tryz.prog w = .ok true w := by
 rw [eqTrap]; simp
theorem eqI_same (op rd ra rb imm : Int) (w : World) : (Op.equalIn 10000 38 (.agg (ins op rd ra rb imm)) (.agg (ins op rd ra rb imm))).run Tryz.prog w = .ok true w := by
 rw [eqI]; simp
section
variable (m : Mc) (c xs ys : List Int) (h : Bool) (t : Int) (hc : m.c = c) (hx : m.xs = xs) (hy : m.ys = ys) (hh : m.h = h) (ht : m.t = t) (r : M.SRes) (k v : Int) (hk : r.k = k) (hv : r.v = v) (hs : xs.length ≤ 100000) (hl : ys.length ≤ 100000) (W : World) (hm : m.Ok W) (T : Env2 W)
include hc hx hy hh ht hk hv hs hl hm T
theorem stRunS (hr : M.stS c xs ys h t = r) : Calls Tryz.prog 11 #[.agg (mach m)] W fun e W' =>
     ∃ m1, e = .returned (.tuple #[.agg (mach m1), .agg #[.int .i64 k, .int .u32 v]]) ∧ Hid (m1.Ok W') ∧ Hid (Sd r m1) ∧ Dn W W' := by
 subst hc hx hy hh ht hr hk hv
 exact stStep m W hm hs hl T
theorem stRunN (hr : M.stn c xs ys h t = r) : Calls Tryz.prog 13 #[.agg (mach m)] W fun e W' =>
     ∃ m1, e = .returned (.tuple #[.agg (mach m1), .agg #[.int .i64 k, .int .u32 v]]) ∧ Hid (m1.Ok W') ∧ Hid (Sd r m1) ∧ Dn W W' := by
 subst hc hx hy hh ht hr hk hv
 exact stNt m W hm hs hl T
end
theorem stRunC (m : Mc) (c xs : List Int) (hc : m.c = c) (hx : m.xs = xs) (op rd ra rb imm k v : Int) (e1 : M.nw Is.M.dOp c xs = op) (e2 : M.nw Is.M.dRd c xs = rd) (e3 : M.nw Is.M.dRa c xs = ra) (e4 : M.nw Is.M.dRb c xs = rb) (e5 : M.nw Is.M.dImm c xs = imm) (ek : M.nowK c xs = k) (ev : M.nowV c xs = v) (hs : xs.length ≤ 100000) (W : World) (hm : m.Ok W) (T : Env2 W) :
   Calls Tryz.prog 15 #[.agg (mach m)] W fun e W' => e = .returned (.tuple #[.agg (ins op rd ra rb imm), .agg #[.int .i64 k, .int .u32 v]]) ∧ Dn W W' := by
 subst hc hx e1 e2 e3 e4 e5 ek ev
 exact stCur m W hm hs T.isa
theorem rsame_s {m1 m2 : Mc} {r1 r2 : M.SRes} (W : World) (o1 : m1.Ok W) (o2 : m2.Ok W) (f1 : Sd r1 m1) (f2 : Sd r2 m2) (ec : r1.c = r2.c) (ez : r1.z = r2.z) (et : r1.t = r2.t) (ey : r1.ys = r2.ys) (eh : r1.h = r2.h) (hz : r1.z.length ≤ 100000) (hy : r1.ys.length ≤ 100000) :
   Calls Tryz.prog 17 #[.agg (mach m1), .agg (mach m2)] W fun e W' => e = .returned (.bool true) ∧ Dn W W' :=
 rsame m1 m2 W o1 o2 (by rw [f1.xs]; exact hz) (by rw [f1.ys]; exact hy) (by rw [f1.c, f2.c, ec]) (by rw [f1.xs, f2.xs, ez]) (by rw [f1.t, f2.t, et]) (by rw [f1.ys, f2.ys, ey]) (by rw [f1.h, f2.h, eh])
theorem M.stp_len (c xs ys : List Int) (h : Bool) (t : Int) : (M.stp c xs ys h t).z.length = xs.length ∧ (M.stp c xs ys h t).ys.length ≤ ys.length + 1 := by
 unfold M.stp
 dsimp only
 repeat' split
 · exact ⟨rfl, Nat.le_succ _⟩
 · refine ⟨rfl, ?_⟩
   unfold M.px
   repeat' split
   all_goals simp
 · exact ⟨M.ex_zlen _ _ _ _ _ _ _, Nat.le_succ _⟩
theorem M.stn_len (c xs ys : List Int) (h : Bool) (t : Int) : (M.stn c xs ys h t).z.length = xs.length ∧ (M.stn c xs ys h t).ys.length ≤ ys.length + 1 := by
 unfold M.stn
 split
 · exact ⟨rfl, Nat.le_succ _⟩
 · exact M.stp_len c xs ys h t
theorem M.stS_len (c xs ys : List Int) (h : Bool) (t : Int) : (M.stS c xs ys h t).z.length = xs.length ∧ (M.stS c xs ys h t).ys.length ≤ ys.length + 1 := by
 unfold M.stS
 split
 · exact ⟨rfl, Nat.le_succ _⟩
 · exact M.stn_len c xs ys h t
section
variable {ops : Array Oper} {rest : List Oper} {dst : Option Tmp} {x y : Operand} {ty : TypeId} {pos : String} {aft : Array Edge} {gd : Option (Nat × Bool)} {a : Act} {w : World} {Q : Exit → Act → World → Prop}
theorem wpList_makeS {n : Nat} (hn : n ≤ 100000) (hw : Region.wanted ⟨dst, .makeSlice 27 x y, ty, pos, aft, gd⟩ (yielded ops a.tmps) = true) (hx : a.eval x = .int .i64 (n : Int)) (hy : a.eval y = .int .i64 (n : Int))
   (h : ∀ b w', New w w' b 5 (ints .u8 (List.replicate n 0)) → wpList Tryz.prog ops Q rest (a.put dst (.slice (some ⟨b, 0, none⟩) n n)) w') :
   wpList Tryz.prog ops Q (⟨dst, .makeSlice 27 x y, ty, pos, aft, gd⟩ :: rest) a w := wpList_make8 hn hw hx hy (h _ _ (New.mk' w _ _))
end
theorem st_core_lit {c : List Int} (h : (decide (c.length = 29) && c.all fun x => decide (0 ≤ x ∧ x < 4294967296)) = true) : M.Core c := by
 simp only [Bool.and_eq_true, decide_eq_true_eq, List.all_eq_true] at h
 exact M.core_of h.1 h.2

def awS (g : Nat) (c : List Int) : Mc := ⟨c, some ⟨g, 0, none⟩, 16, [0, 0, 0, 96, 0, 0, 0, 0, 0, 0, 0, 0, 0, 0, 0, 0], 0, none, 0, [], false⟩
def awX : List Int := [0, 0, 0, 96, 0, 0, 0, 0, 0, 0, 0, 0, 0, 0, 0, 0]
def swC0 : List Int := [0, 0, 0, 0, 0, 0, 0, 0, 0, 0, 0, 0, 0, 0, 0, 0, 8, 0, 0, 0, 0, 0, 0, 0, 0, 0, 0, 0, 0]
def swC1 : List Int := [0, 0, 0, 0, 0, 0, 0, 0, 0, 0, 0, 0, 0, 0, 0, 0, 8, 1, 0, 0, 0, 0, 0, 0, 0, 0, 0, 0, 0]
def swCA : List Int := [0, 0, 0, 0, 0, 0, 0, 0, 0, 0, 0, 0, 0, 0, 0, 0, 8, 1, 0, 0, 0, 4, 0, 0, 0, 0, 0, 0, 0]
def swCC : List Int := [0, 0, 0, 0, 0, 0, 0, 0, 0, 0, 0, 0, 0, 0, 0, 0, 0, 1, 0, 0, 0, 4, 0, 0, 0, 0, 0, 0, 0]
def swCE0 : List Int := [0, 0, 0, 0, 0, 0, 0, 0, 0, 0, 0, 0, 0, 0, 0, 0, 0, 2, 0, 0, 0, 4, 0, 0, 0, 0, 0, 0, 0]
def swCE : List Int := [0, 0, 0, 0, 0, 0, 0, 0, 0, 0, 0, 0, 0, 0, 0, 0, 0, 2, 0, 0, 0, 4, 0, 16, 0, 0, 0, 0, 0]
def swCF : List Int := [0, 0, 0, 0, 0, 0, 0, 0, 0, 0, 0, 0, 0, 0, 0, 0, 0, 2, 0, 0, 0, 4, 0, 16, 0, 0, 5, 0, 0]
def sw_a : M.SRes := ⟨[0, 0, 0, 0, 0, 0, 0, 0, 0, 0, 0, 0, 0, 0, 0, 0, 4, 5, 8, 1, 0, 4, 0, 0, 0, 0, 0, 0, 0], awX, [], false, 1, 1, 0⟩
def sw_b : M.SRes := ⟨[0, 0, 0, 0, 0, 0, 0, 0, 0, 0, 0, 0, 0, 0, 0, 0, 4, 5, 4, 1, 0, 4, 0, 0, 0, 0, 0, 0, 0], awX, [], false, 2, 1, 0⟩
def sw_c : M.SRes := ⟨[0, 0, 0, 0, 0, 0, 0, 0, 0, 0, 0, 0, 0, 0, 0, 0, 4, 1, 0, 0, 0, 4, 0, 0, 0, 0, 0, 0, 0], awX, [], true, 1, 0, 0⟩
def sw_d : M.SRes := ⟨[0, 0, 0, 0, 0, 0, 0, 0, 0, 0, 0, 0, 0, 0, 0, 0, 4, 1, 0, 0, 0, 4, 0, 0, 0, 0, 0, 0, 0], awX, [], true, 1, 0, 0⟩
def sw_e : M.SRes := ⟨[0, 0, 0, 0, 0, 0, 0, 0, 0, 0, 0, 0, 0, 0, 0, 0, 4, 9, 0, 6, 0, 4, 0, 16, 0, 0, 0, 0, 0], awX, [], false, 1, 6, 0⟩
def sw_f : M.SRes := ⟨[0, 0, 0, 0, 0, 0, 0, 0, 0, 0, 0, 0, 0, 0, 0, 0, 4, 9, 0, 2, 1610612736, 4, 0, 16, 0, 0, 5, 0, 0], awX, [], false, 1, 2, 1610612736⟩
def sw_g : M.SRes := ⟨[0, 0, 0, 0, 0, 0, 0, 0, 0, 0, 0, 0, 0, 0, 0, 0, 4, 9, 0, 2, 1610612736, 4, 0, 16, 0, 0, 5, 0, 0], awX, [], false, 1, 2, 1610612736⟩
theorem sw_a_is : M.stS swCA awX [] false 0 = sw_a := by kernel_rfl
theorem sw_b_is : M.stS sw_a.c awX [] false 1 = sw_b := by kernel_rfl
theorem sw_c_is : M.stS swCC awX [] false 0 = sw_c := by kernel_rfl
theorem sw_d_is : M.stS sw_c.c awX [] true 1 = sw_d := by kernel_rfl
theorem sw_e_is : M.stS swCE awX [] false 0 = sw_e := by kernel_rfl
theorem sw_f_is : M.stS swCF awX [] false 0 = sw_f := by kernel_rfl
theorem sw_g_is : M.stn swCF awX [] false 0 = sw_g := by kernel_rfl
theorem awS_ok {w : World} {g : Nat} {c : List Int} (hb : Bs w (some ⟨g, 0, none⟩) 16 awX) (hc : M.Core c) : (awS g c).Ok w := ⟨hc, hb, bs_nil w, (by decide : (0 : Int) ≤ 0), (by decide : (0 : Int) < 18446744073709551616)⟩
theorem sw_core : M.Core swCA ∧ M.Core swCC ∧ M.Core swCE ∧ M.Core swCF := ⟨st_core_lit (by decide), st_core_lit (by decide), st_core_lit (by decide), st_core_lit (by decide)⟩
theorem sw_cur : M.nw Is.M.dOp sw_c.c awX = 0 ∧ M.nw Is.M.dRd sw_c.c awX = 0 ∧ M.nw Is.M.dRa sw_c.c awX = 0 ∧ M.nw Is.M.dRb sw_c.c awX = 0 ∧ M.nw Is.M.dImm sw_c.c awX = 0 ∧ M.nowK sw_c.c awX = 1 ∧ M.nowV sw_c.c awX = 0 := ⟨by kernel_rfl, by kernel_rfl, by kernel_rfl, by kernel_rfl, by kernel_rfl, by kernel_rfl, by kernel_rfl⟩
theorem info8s : (Tryz.prog.info? 5).map (·.size) = some 1 := by kernel_rfl
set_option maxRecDepth 100000 in
set_option maxHeartbeats 2000000 in
theorem awakeS (W : World) (T : Env2 W) : Calls Tryz.prog 9 #[] W fun e W' => e = .returned (.bool true) ∧ Dn W W' := by
 have q0 := eqTrap_same 1 0
 have q1 := eqTrap_same 0 0
 have q2 := eqTrap_same 2 1610612736
 have qI : ∀ w, (Op.equalIn 10000 38 (.agg (ins 0 0 0 0 0)) (.agg #[.int .i64 0, .int .i64 0, .int .i64 0, .int .i64 0, .int .i32 0])).run Tryz.prog w = .ok true w := eqI_same 0 0 0 0 0
 have HD := Lib.hid (Dn.refl W)
 go_enter Tryz.func9, Tryz.ntmps9
 go_wp2_with (first | ((with_reducible refine wpList_makeS (n := 16) (by decide) ?_ ?_ ?_ ?_); rfl; rfl; rfl; intro b_g w' nn; refine Hid.out ?_))
 refine Lib.hid ?_
 have HL_g : Hid (W.heap.size ≤ b_g) := Lib.hid (Blk.hi nn HD.out.size)
 have d' := nn.dn
 replace HD := hT HD d'
 have g := nn.blk
 clear d' nn
 go_wp2_with (first | ((with_reducible refine wpList_alloc zeroMach ?_ ?_); rfl; intro b_v1 w' nn; refine Hid.out ?_))
 refine Lib.hid ?_
 have n_g_v1 := Lib.hid (nn.ne _ g.lt)
 have HL_v1 : Hid (W.heap.size ≤ b_v1) := Lib.hid (Blk.hi nn HD.out.size)
 have d' := nn.dn
 replace g := g.dn d'
 replace HD := hT HD d'
 have v1 := nn.blk
 clear d' nn
 go_wp2_with (first | ((with_reducible refine store33 (awS b_g (zeros 29)) rfl v1 zlen ?_ ?_ ?_ ?_); rfl; rfl; rfl; intro w' r' t'; refine Hid.out ?_))
 refine Lib.hid ?_
 replace g := g.trn t' n_g_v1.out
 replace HD := Lib.hid (HD.out.trn HL_v1.out t')
 clear t' v1
 have v1 := r'
 clear r'
 go_wp2_with (first | ((with_reducible refine storeWord (i := 16) (u := 8) v1 rfl ?_ ?_ ?_ ?_ ?_); rfl; rfl; rfl; rfl; intro w' r' t'; refine Hid.out ?_))
 refine Lib.hid ?_
 replace g := g.trn t' n_g_v1.out
 replace r' : Blk w' b_v1 30 (mach (awS b_g swC0)) := r'
 replace HD := Lib.hid (HD.out.trn HL_v1.out t')
 clear t' v1
 have v1 := r'
 clear r'
 go_wp2_with (first | ((with_reducible refine storeWord (i := 17) (u := 1) v1 rfl ?_ ?_ ?_ ?_ ?_); rfl; rfl; rfl; rfl; intro w' r' t'; refine Hid.out ?_))
 refine Lib.hid ?_
 replace g := g.trn t' n_g_v1.out
 replace r' : Blk w' b_v1 30 (mach (awS b_g swC1)) := r'
 replace HD := Lib.hid (HD.out.trn HL_v1.out t')
 clear t' v1
 have v1 := r'
 clear r'
 go_wp2_with (first | ((with_reducible refine storeWord (i := 21) (u := 4) v1 rfl ?_ ?_ ?_ ?_ ?_); rfl; rfl; rfl; rfl; intro w' r' t'; refine Hid.out ?_))
 refine Lib.hid ?_
 replace g := g.trn t' n_g_v1.out
 replace r' : Blk w' b_v1 30 (mach (awS b_g swCA)) := r'
 replace HD := Lib.hid (HD.out.trn HL_v1.out t')
 clear t' v1
 have v1 := r'
 clear r'
 have kk : w'.cell? ⟨b_v1, 29, none⟩ = some (.slice (some ⟨b_g, 0, none⟩) 16 16) := v1.mem (m := awS b_g swCA) rfl
 go_wp2_with (first | ((with_reducible refine wpList_store_int (i := 3) (u := 96) (Blk.row g) info8s ?_ ?_ ?_ ?_ ?_); rfl; rfl; rfl; (exact (by decide : 3 < (List.replicate 16 (0 : Int)).length)); intro w' r' t'; refine Hid.out ?_))
 refine Lib.hid ?_
 replace v1 := v1.trn t' n_g_v1.out.symm
 replace HD := Lib.hid (HD.out.trn HL_g.out t')
 have oz : Hid (Bs w' (some ⟨b_g, 0, none⟩) 16 awX) := Lib.hid (Bs.of_row (xs := awX) r' (fun y hy => by simp [awX] at hy; omega))
 clear t' r' g kk
 have Ca := Lib.hid fun (w : World) (hb : Bs w (some ⟨b_g, 0, none⟩) 16 awX) (t : Env2 w) => stRunS (awS b_g swCA) swCA awX [] false 0 rfl rfl rfl rfl rfl sw_a 1 0 rfl rfl (by decide) (by decide) w (awS_ok hb sw_core.1) t sw_a_is
 have Cb := Lib.hid fun (w : World) (mb : Mc) (e : Sd sw_a mb) (ob : mb.Ok w) (t : Env2 w) => stRunS mb sw_a.c awX [] false 1 e.c e.xs e.ys e.h e.t sw_b 1 0 rfl rfl (by decide) (by decide) w ob t sw_b_is
 have Cc := Lib.hid fun (w : World) (hb : Bs w (some ⟨b_g, 0, none⟩) 16 awX) (t : Env2 w) => stRunS (awS b_g swCC) swCC awX [] false 0 rfl rfl rfl rfl rfl sw_c 0 0 rfl rfl (by decide) (by decide) w (awS_ok hb sw_core.2.1) t sw_c_is
 have Cd := Lib.hid fun (w : World) (mb : Mc) (e : Sd sw_c mb) (ob : mb.Ok w) (t : Env2 w) => stRunS mb sw_c.c awX [] true 1 e.c e.xs e.ys e.h e.t sw_d 0 0 rfl rfl (by decide) (by decide) w ob t sw_d_is
 have Ce := Lib.hid fun (w : World) (hb : Bs w (some ⟨b_g, 0, none⟩) 16 awX) (t : Env2 w) => stRunS (awS b_g swCE) swCE awX [] false 0 rfl rfl rfl rfl rfl sw_e 6 0 rfl rfl (by decide) (by decide) w (awS_ok hb sw_core.2.2.1) t sw_e_is
 have Cf := Lib.hid fun (w : World) (hb : Bs w (some ⟨b_g, 0, none⟩) 16 awX) (t : Env2 w) => stRunS (awS b_g swCF) swCF awX [] false 0 rfl rfl rfl rfl rfl sw_f 2 1610612736 rfl rfl (by decide) (by decide) w (awS_ok hb sw_core.2.2.2) t sw_f_is
 have Cg := Lib.hid fun (w : World) (hb : Bs w (some ⟨b_g, 0, none⟩) 16 awX) (t : Env2 w) => stRunN (awS b_g swCF) swCF awX [] false 0 rfl rfl rfl rfl rfl sw_g 2 1610612736 rfl rfl (by decide) (by decide) w (awS_ok hb sw_core.2.2.2) t sw_g_is
 have CS := Lib.hid fun (w : World) (m1 m2 : Mc) (o1 : m1.Ok w) (o2 : m2.Ok w) (e1 : Sd sw_f m1) (e2 : Sd sw_g m2) => rsame_s w o1 o2 e1 e2 rfl rfl rfl rfl rfl (by decide) (by decide)
 have CU := Lib.hid fun (w : World) (mc : Mc) (e : Sd sw_c mc) (oc : mc.Ok w) (t : Env2 w) => stRunC mc sw_c.c awX e.c e.xs 0 0 0 0 0 1 0 sw_cur.1 sw_cur.2.1 sw_cur.2.2.1 sw_cur.2.2.2.1 sw_cur.2.2.2.2.1 sw_cur.2.2.2.2.2.1 sw_cur.2.2.2.2.2.2 (by decide) w oc t
 go_wp2_with (first | ((with_reducible refine load33 v1 rfl ?_ ?_ ?_); rfl; rfl) | (go_at_call 11; (with_reducible refine (Ca.out _ oz.out (T.dn HD.out)).mono ?_); rintro e w' ⟨ma, rfl, oa, ea, d'⟩; refine Hid.out ?_))
 refine Lib.hid ?_
 replace v1 := v1.dn d'
 replace oz := Lib.hid (oz.out.dn d')
 replace HD := hT HD d'
 clear d'
 have la := oa.out.len
 have na16 : ma.c.getD 16 0 = 4 := by rw [ea.out.c]; rfl
 have na18 : ma.c.getD 18 0 = 8 := by rw [ea.out.c]; rfl
 have na30 : ma.t = 1 := ea.out.t
 have oa := Lib.hid oa.out
 go_wp2_with (first | ((with_reducible refine wpList_alloc zeroMach ?_ ?_); rfl; intro b_v2 w' nn; refine Hid.out ?_))
 refine Lib.hid ?_
 have n_v1_v2 := Lib.hid (nn.ne _ v1.lt)
 have HL_v2 : Hid (W.heap.size ≤ b_v2) := Lib.hid (Blk.hi nn HD.out.size)
 have d' := nn.dn
 replace v1 := v1.dn d'
 replace oa := Lib.hid (oa.out.dn d')
 replace oz := Lib.hid (oz.out.dn d')
 replace HD := hT HD d'
 have v2 := nn.blk
 clear d' nn
 go_wp2_with (first | ((with_reducible refine wpList_alloc zeroTrap ?_ ?_); rfl; intro b_v3 w' nn; refine Hid.out ?_))
 refine Lib.hid ?_
 have n_v1_v3 := Lib.hid (nn.ne _ v1.lt)
 have n_v2_v3 := Lib.hid (nn.ne _ v2.lt)
 have HL_v3 : Hid (W.heap.size ≤ b_v3) := Lib.hid (Blk.hi nn HD.out.size)
 have d' := nn.dn
 replace v1 := v1.dn d'
 replace v2 := v2.dn d'
 replace oa := Lib.hid (oa.out.dn d')
 replace oz := Lib.hid (oz.out.dn d')
 replace HD := hT HD d'
 have v3 := nn.blk
 clear d' nn
 go_wp2_with (first | ((with_reducible refine store33 ma la v2 zlen ?_ ?_ ?_ ?_); rfl; rfl; rfl; intro w' r' t'; refine Hid.out ?_))
 refine Lib.hid ?_
 replace oa := Lib.hid (oa.out.trn v2 (NoU8.mach _) t')
 replace oz := Lib.hid (oz.out.trn v2 (NoU8.mach _) t')
 replace v1 := v1.trn t' n_v1_v2.out
 replace v3 := v3.trn t' n_v2_v3.out.symm
 replace HD := Lib.hid (HD.out.trn HL_v2.out t')
 clear t' v2
 have v2 := r'
 clear r'
 go_wp2_with (first | ((with_reducible refine storeTrap (k := 1) (v := 0) v3 ?_ ?_ ?_ ?_); rfl; rfl; rfl; intro w' r' t'; refine Hid.out ?_))
 refine Lib.hid ?_
 replace oa := Lib.hid (oa.out.trn v3 (NoU8.trap _ _) t')
 replace oz := Lib.hid (oz.out.trn v3 (NoU8.trap _ _) t')
 replace v1 := v1.trn t' n_v1_v3.out
 replace v2 := v2.trn t' n_v2_v3.out
 replace HD := Lib.hid (HD.out.trn HL_v3.out t')
 clear t' v3
 have v3 := r'
 clear r'
 go_wp2_with (first | ((with_reducible refine load33 v2 la ?_ ?_ ?_); rfl; rfl) | (go_at_call 11; (with_reducible refine (Cb.out _ ma ea.out oa.out (T.dn HD.out)).mono ?_); rintro e w' ⟨mb, rfl, ob, eb, d'⟩; refine Hid.out ?_))
 refine Lib.hid ?_
 replace v1 := v1.dn d'
 replace v2 := v2.dn d'
 replace v3 := v3.dn d'
 replace oa := Lib.hid (oa.out.dn d')
 replace oz := Lib.hid (oz.out.dn d')
 replace HD := hT HD d'
 clear d'
 have lb := ob.out.len
 have nb18 : mb.c.getD 18 0 = 4 := by rw [eb.out.c]; rfl
 go_wp2_with (first | ((with_reducible refine wpList_alloc zeroMach ?_ ?_); rfl; intro b_v4 w' nn; refine Hid.out ?_))
 refine Lib.hid ?_
 have n_v1_v4 := Lib.hid (nn.ne _ v1.lt)
 have n_v2_v4 := Lib.hid (nn.ne _ v2.lt)
 have n_v3_v4 := Lib.hid (nn.ne _ v3.lt)
 have HL_v4 : Hid (W.heap.size ≤ b_v4) := Lib.hid (Blk.hi nn HD.out.size)
 have d' := nn.dn
 replace v1 := v1.dn d'
 replace v2 := v2.dn d'
 replace v3 := v3.dn d'
 replace oa := Lib.hid (oa.out.dn d')
 replace oz := Lib.hid (oz.out.dn d')
 replace HD := hT HD d'
 have v4 := nn.blk
 clear d' nn
 go_wp2_with (first | ((with_reducible refine wpList_alloc zeroTrap ?_ ?_); rfl; intro b_v5 w' nn; refine Hid.out ?_))
 refine Lib.hid ?_
 have n_v1_v5 := Lib.hid (nn.ne _ v1.lt)
 have n_v2_v5 := Lib.hid (nn.ne _ v2.lt)
 have n_v3_v5 := Lib.hid (nn.ne _ v3.lt)
 have n_v4_v5 := Lib.hid (nn.ne _ v4.lt)
 have HL_v5 : Hid (W.heap.size ≤ b_v5) := Lib.hid (Blk.hi nn HD.out.size)
 have d' := nn.dn
 replace v1 := v1.dn d'
 replace v2 := v2.dn d'
 replace v3 := v3.dn d'
 replace v4 := v4.dn d'
 replace oa := Lib.hid (oa.out.dn d')
 replace oz := Lib.hid (oz.out.dn d')
 replace HD := hT HD d'
 have v5 := nn.blk
 clear d' nn
 go_wp2_with (first | ((with_reducible refine store33 mb lb v4 zlen ?_ ?_ ?_ ?_); rfl; rfl; rfl; intro w' r' t'; refine Hid.out ?_))
 refine Lib.hid ?_
 replace oa := Lib.hid (oa.out.trn v4 (NoU8.mach _) t')
 replace oz := Lib.hid (oz.out.trn v4 (NoU8.mach _) t')
 replace v1 := v1.trn t' n_v1_v4.out
 replace v2 := v2.trn t' n_v2_v4.out
 replace v3 := v3.trn t' n_v3_v4.out
 replace v5 := v5.trn t' n_v4_v5.out.symm
 replace HD := Lib.hid (HD.out.trn HL_v4.out t')
 clear t' v4
 have v4 := r'
 clear r'
 go_wp2_with (first | ((with_reducible refine storeTrap (k := 1) (v := 0) v5 ?_ ?_ ?_ ?_); rfl; rfl; rfl; intro w' r' t'; refine Hid.out ?_))
 refine Lib.hid ?_
 replace oa := Lib.hid (oa.out.trn v5 (NoU8.trap _ _) t')
 replace oz := Lib.hid (oz.out.trn v5 (NoU8.trap _ _) t')
 replace v1 := v1.trn t' n_v1_v5.out
 replace v2 := v2.trn t' n_v2_v5.out
 replace v3 := v3.trn t' n_v3_v5.out
 replace v4 := v4.trn t' n_v4_v5.out
 replace HD := Lib.hid (HD.out.trn HL_v5.out t')
 clear t' v5
 have v5 := r'
 clear r'
 go_wp2_with (first | ((with_reducible refine storeWord (i := 16) (u := 0) v1 rfl ?_ ?_ ?_ ?_ ?_); rfl; rfl; rfl; rfl; intro w' r' t'; refine Hid.out ?_))
 refine Lib.hid ?_
 replace oa := Lib.hid (oa.out.trn v1 (NoU8.mach _) t')
 replace oz := Lib.hid (oz.out.trn v1 (NoU8.mach _) t')
 replace v2 := v2.trn t' n_v1_v2.out.symm
 replace v3 := v3.trn t' n_v1_v3.out.symm
 replace v4 := v4.trn t' n_v1_v4.out.symm
 replace v5 := v5.trn t' n_v1_v5.out.symm
 replace r' : Blk w' b_v1 30 (mach (awS b_g swCC)) := r'
 replace HD := Lib.hid (HD.out.trn HL_v1.out t')
 clear t' v1
 have v1 := r'
 clear r'
 go_wp2_with (first | ((with_reducible refine load33 v1 rfl ?_ ?_ ?_); rfl; rfl) | (go_at_call 11; (with_reducible refine (Cc.out _ oz.out (T.dn HD.out)).mono ?_); rintro e w' ⟨mc, rfl, oc, ec, d'⟩; refine Hid.out ?_))
 refine Lib.hid ?_
 replace v1 := v1.dn d'
 replace v2 := v2.dn d'
 replace v3 := v3.dn d'
 replace v4 := v4.dn d'
 replace v5 := v5.dn d'
 replace oa := Lib.hid (oa.out.dn d')
 replace oz := Lib.hid (oz.out.dn d')
 replace HD := hT HD d'
 clear d'
 have lc := oc.out.len
 have nc30 : mc.t = 1 := ec.out.t
 have nc32 : mc.h = true := ec.out.h
 have oc := Lib.hid oc.out
 go_wp2_with (first | ((with_reducible refine wpList_alloc zeroMach ?_ ?_); rfl; intro b_v6 w' nn; refine Hid.out ?_))
 refine Lib.hid ?_
 have n_v1_v6 := Lib.hid (nn.ne _ v1.lt)
 have n_v2_v6 := Lib.hid (nn.ne _ v2.lt)
 have n_v3_v6 := Lib.hid (nn.ne _ v3.lt)
 have n_v4_v6 := Lib.hid (nn.ne _ v4.lt)
 have n_v5_v6 := Lib.hid (nn.ne _ v5.lt)
 have HL_v6 : Hid (W.heap.size ≤ b_v6) := Lib.hid (Blk.hi nn HD.out.size)
 have d' := nn.dn
 replace v1 := v1.dn d'
 replace v2 := v2.dn d'
 replace v3 := v3.dn d'
 replace v4 := v4.dn d'
 replace v5 := v5.dn d'
 replace oa := Lib.hid (oa.out.dn d')
 replace oc := Lib.hid (oc.out.dn d')
 replace oz := Lib.hid (oz.out.dn d')
 replace HD := hT HD d'
 have v6 := nn.blk
 clear d' nn
 go_wp2_with (first | ((with_reducible refine wpList_alloc zeroTrap ?_ ?_); rfl; intro b_v7 w' nn; refine Hid.out ?_))
 refine Lib.hid ?_
 have n_v1_v7 := Lib.hid (nn.ne _ v1.lt)
 have n_v2_v7 := Lib.hid (nn.ne _ v2.lt)
 have n_v3_v7 := Lib.hid (nn.ne _ v3.lt)
 have n_v4_v7 := Lib.hid (nn.ne _ v4.lt)
 have n_v5_v7 := Lib.hid (nn.ne _ v5.lt)
 have n_v6_v7 := Lib.hid (nn.ne _ v6.lt)
 have HL_v7 : Hid (W.heap.size ≤ b_v7) := Lib.hid (Blk.hi nn HD.out.size)
 have d' := nn.dn
 replace v1 := v1.dn d'
 replace v2 := v2.dn d'
 replace v3 := v3.dn d'
 replace v4 := v4.dn d'
 replace v5 := v5.dn d'
 replace v6 := v6.dn d'
 replace oa := Lib.hid (oa.out.dn d')
 replace oc := Lib.hid (oc.out.dn d')
 replace oz := Lib.hid (oz.out.dn d')
 replace HD := hT HD d'
 have v7 := nn.blk
 clear d' nn
 go_wp2_with (first | ((with_reducible refine store33 mc lc v6 zlen ?_ ?_ ?_ ?_); rfl; rfl; rfl; intro w' r' t'; refine Hid.out ?_))
 refine Lib.hid ?_
 replace oa := Lib.hid (oa.out.trn v6 (NoU8.mach _) t')
 replace oc := Lib.hid (oc.out.trn v6 (NoU8.mach _) t')
 replace oz := Lib.hid (oz.out.trn v6 (NoU8.mach _) t')
 replace v1 := v1.trn t' n_v1_v6.out
 replace v2 := v2.trn t' n_v2_v6.out
 replace v3 := v3.trn t' n_v3_v6.out
 replace v4 := v4.trn t' n_v4_v6.out
 replace v5 := v5.trn t' n_v5_v6.out
 replace v7 := v7.trn t' n_v6_v7.out.symm
 replace HD := Lib.hid (HD.out.trn HL_v6.out t')
 clear t' v6
 have v6 := r'
 clear r'
 go_wp2_with (first | ((with_reducible refine storeTrap (k := 0) (v := 0) v7 ?_ ?_ ?_ ?_); rfl; rfl; rfl; intro w' r' t'; refine Hid.out ?_))
 refine Lib.hid ?_
 replace oa := Lib.hid (oa.out.trn v7 (NoU8.trap _ _) t')
 replace oc := Lib.hid (oc.out.trn v7 (NoU8.trap _ _) t')
 replace oz := Lib.hid (oz.out.trn v7 (NoU8.trap _ _) t')
 replace v1 := v1.trn t' n_v1_v7.out
 replace v2 := v2.trn t' n_v2_v7.out
 replace v3 := v3.trn t' n_v3_v7.out
 replace v4 := v4.trn t' n_v4_v7.out
 replace v5 := v5.trn t' n_v5_v7.out
 replace v6 := v6.trn t' n_v6_v7.out
 replace HD := Lib.hid (HD.out.trn HL_v7.out t')
 clear t' v7
 have v7 := r'
 clear r'
 go_wp2_with (first | ((with_reducible refine load33 v6 lc ?_ ?_ ?_); rfl; rfl) | (go_at_call 11; (with_reducible refine (Cd.out _ mc ec.out oc.out (T.dn HD.out)).mono ?_); rintro e w' ⟨md, rfl, od, ed, d'⟩; refine Hid.out ?_))
 refine Lib.hid ?_
 replace v1 := v1.dn d'
 replace v2 := v2.dn d'
 replace v3 := v3.dn d'
 replace v4 := v4.dn d'
 replace v5 := v5.dn d'
 replace v6 := v6.dn d'
 replace v7 := v7.dn d'
 replace oa := Lib.hid (oa.out.dn d')
 replace oc := Lib.hid (oc.out.dn d')
 replace oz := Lib.hid (oz.out.dn d')
 replace HD := hT HD d'
 clear d'
 have ld := od.out.len
 have nd30 : md.t = 1 := ed.out.t
 go_wp2_with (first | ((with_reducible refine wpList_alloc zeroMach ?_ ?_); rfl; intro b_v8 w' nn; refine Hid.out ?_))
 refine Lib.hid ?_
 have n_v1_v8 := Lib.hid (nn.ne _ v1.lt)
 have n_v2_v8 := Lib.hid (nn.ne _ v2.lt)
 have n_v3_v8 := Lib.hid (nn.ne _ v3.lt)
 have n_v4_v8 := Lib.hid (nn.ne _ v4.lt)
 have n_v5_v8 := Lib.hid (nn.ne _ v5.lt)
 have n_v6_v8 := Lib.hid (nn.ne _ v6.lt)
 have n_v7_v8 := Lib.hid (nn.ne _ v7.lt)
 have HL_v8 : Hid (W.heap.size ≤ b_v8) := Lib.hid (Blk.hi nn HD.out.size)
 have d' := nn.dn
 replace v1 := v1.dn d'
 replace v2 := v2.dn d'
 replace v3 := v3.dn d'
 replace v4 := v4.dn d'
 replace v5 := v5.dn d'
 replace v6 := v6.dn d'
 replace v7 := v7.dn d'
 replace oa := Lib.hid (oa.out.dn d')
 replace oc := Lib.hid (oc.out.dn d')
 replace oz := Lib.hid (oz.out.dn d')
 replace HD := hT HD d'
 have v8 := nn.blk
 clear d' nn
 go_wp2_with (first | ((with_reducible refine wpList_alloc zeroTrap ?_ ?_); rfl; intro b_v9 w' nn; refine Hid.out ?_))
 refine Lib.hid ?_
 have n_v1_v9 := Lib.hid (nn.ne _ v1.lt)
 have n_v2_v9 := Lib.hid (nn.ne _ v2.lt)
 have n_v3_v9 := Lib.hid (nn.ne _ v3.lt)
 have n_v4_v9 := Lib.hid (nn.ne _ v4.lt)
 have n_v5_v9 := Lib.hid (nn.ne _ v5.lt)
 have n_v6_v9 := Lib.hid (nn.ne _ v6.lt)
 have n_v7_v9 := Lib.hid (nn.ne _ v7.lt)
 have n_v8_v9 := Lib.hid (nn.ne _ v8.lt)
 have HL_v9 : Hid (W.heap.size ≤ b_v9) := Lib.hid (Blk.hi nn HD.out.size)
 have d' := nn.dn
 replace v1 := v1.dn d'
 replace v2 := v2.dn d'
 replace v3 := v3.dn d'
 replace v4 := v4.dn d'
 replace v5 := v5.dn d'
 replace v6 := v6.dn d'
 replace v7 := v7.dn d'
 replace v8 := v8.dn d'
 replace oa := Lib.hid (oa.out.dn d')
 replace oc := Lib.hid (oc.out.dn d')
 replace oz := Lib.hid (oz.out.dn d')
 replace HD := hT HD d'
 have v9 := nn.blk
 clear d' nn
 go_wp2_with (first | ((with_reducible refine store33 md ld v8 zlen ?_ ?_ ?_ ?_); rfl; rfl; rfl; intro w' r' t'; refine Hid.out ?_))
 refine Lib.hid ?_
 replace oa := Lib.hid (oa.out.trn v8 (NoU8.mach _) t')
 replace oc := Lib.hid (oc.out.trn v8 (NoU8.mach _) t')
 replace oz := Lib.hid (oz.out.trn v8 (NoU8.mach _) t')
 replace v1 := v1.trn t' n_v1_v8.out
 replace v2 := v2.trn t' n_v2_v8.out
 replace v3 := v3.trn t' n_v3_v8.out
 replace v4 := v4.trn t' n_v4_v8.out
 replace v5 := v5.trn t' n_v5_v8.out
 replace v6 := v6.trn t' n_v6_v8.out
 replace v7 := v7.trn t' n_v7_v8.out
 replace v9 := v9.trn t' n_v8_v9.out.symm
 replace HD := Lib.hid (HD.out.trn HL_v8.out t')
 clear t' v8
 have v8 := r'
 clear r'
 go_wp2_with (first | ((with_reducible refine storeTrap (k := 0) (v := 0) v9 ?_ ?_ ?_ ?_); rfl; rfl; rfl; intro w' r' t'; refine Hid.out ?_))
 refine Lib.hid ?_
 replace oa := Lib.hid (oa.out.trn v9 (NoU8.trap _ _) t')
 replace oc := Lib.hid (oc.out.trn v9 (NoU8.trap _ _) t')
 replace oz := Lib.hid (oz.out.trn v9 (NoU8.trap _ _) t')
 replace v1 := v1.trn t' n_v1_v9.out
 replace v2 := v2.trn t' n_v2_v9.out
 replace v3 := v3.trn t' n_v3_v9.out
 replace v4 := v4.trn t' n_v4_v9.out
 replace v5 := v5.trn t' n_v5_v9.out
 replace v6 := v6.trn t' n_v6_v9.out
 replace v7 := v7.trn t' n_v7_v9.out
 replace v8 := v8.trn t' n_v8_v9.out
 replace HD := Lib.hid (HD.out.trn HL_v9.out t')
 clear t' v9
 have v9 := r'
 clear r'
 go_wp2_with (first | ((with_reducible refine storeWord (i := 17) (u := 2) v1 rfl ?_ ?_ ?_ ?_ ?_); rfl; rfl; rfl; rfl; intro w' r' t'; refine Hid.out ?_))
 refine Lib.hid ?_
 replace oa := Lib.hid (oa.out.trn v1 (NoU8.mach _) t')
 replace oc := Lib.hid (oc.out.trn v1 (NoU8.mach _) t')
 replace oz := Lib.hid (oz.out.trn v1 (NoU8.mach _) t')
 replace v2 := v2.trn t' n_v1_v2.out.symm
 replace v3 := v3.trn t' n_v1_v3.out.symm
 replace v4 := v4.trn t' n_v1_v4.out.symm
 replace v5 := v5.trn t' n_v1_v5.out.symm
 replace v6 := v6.trn t' n_v1_v6.out.symm
 replace v7 := v7.trn t' n_v1_v7.out.symm
 replace v8 := v8.trn t' n_v1_v8.out.symm
 replace v9 := v9.trn t' n_v1_v9.out.symm
 replace r' : Blk w' b_v1 30 (mach (awS b_g swCE0)) := r'
 replace HD := Lib.hid (HD.out.trn HL_v1.out t')
 clear t' v1
 have v1 := r'
 clear r'
 go_wp2_with (first | ((with_reducible refine storeWord (i := 23) (u := 16) v1 rfl ?_ ?_ ?_ ?_ ?_); rfl; rfl; rfl; rfl; intro w' r' t'; refine Hid.out ?_))
 refine Lib.hid ?_
 replace oa := Lib.hid (oa.out.trn v1 (NoU8.mach _) t')
 replace oc := Lib.hid (oc.out.trn v1 (NoU8.mach _) t')
 replace oz := Lib.hid (oz.out.trn v1 (NoU8.mach _) t')
 replace v2 := v2.trn t' n_v1_v2.out.symm
 replace v3 := v3.trn t' n_v1_v3.out.symm
 replace v4 := v4.trn t' n_v1_v4.out.symm
 replace v5 := v5.trn t' n_v1_v5.out.symm
 replace v6 := v6.trn t' n_v1_v6.out.symm
 replace v7 := v7.trn t' n_v1_v7.out.symm
 replace v8 := v8.trn t' n_v1_v8.out.symm
 replace v9 := v9.trn t' n_v1_v9.out.symm
 replace r' : Blk w' b_v1 30 (mach (awS b_g swCE)) := r'
 replace HD := Lib.hid (HD.out.trn HL_v1.out t')
 clear t' v1
 have v1 := r'
 clear r'
 go_wp2_with (first | ((with_reducible refine load33 v1 rfl ?_ ?_ ?_); rfl; rfl) | (go_at_call 11; (with_reducible refine (Ce.out _ oz.out (T.dn HD.out)).mono ?_); rintro e w' ⟨me, rfl, oe, ee, d'⟩; refine Hid.out ?_))
 refine Lib.hid ?_
 replace v1 := v1.dn d'
 replace v2 := v2.dn d'
 replace v3 := v3.dn d'
 replace v4 := v4.dn d'
 replace v5 := v5.dn d'
 replace v6 := v6.dn d'
 replace v7 := v7.dn d'
 replace v8 := v8.dn d'
 replace v9 := v9.dn d'
 replace oa := Lib.hid (oa.out.dn d')
 replace oc := Lib.hid (oc.out.dn d')
 replace oz := Lib.hid (oz.out.dn d')
 replace HD := hT HD d'
 clear d'
 have le := oe.out.len
 have ne19 : me.c.getD 19 0 = 6 := by rw [ee.out.c]; rfl
 go_wp2_with (first | ((with_reducible refine wpList_alloc zeroMach ?_ ?_); rfl; intro b_v10 w' nn; refine Hid.out ?_))
 refine Lib.hid ?_
 have n_v1_v10 := Lib.hid (nn.ne _ v1.lt)
 have n_v2_v10 := Lib.hid (nn.ne _ v2.lt)
 have n_v3_v10 := Lib.hid (nn.ne _ v3.lt)
 have n_v4_v10 := Lib.hid (nn.ne _ v4.lt)
 have n_v5_v10 := Lib.hid (nn.ne _ v5.lt)
 have n_v6_v10 := Lib.hid (nn.ne _ v6.lt)
 have n_v7_v10 := Lib.hid (nn.ne _ v7.lt)
 have n_v8_v10 := Lib.hid (nn.ne _ v8.lt)
 have n_v9_v10 := Lib.hid (nn.ne _ v9.lt)
 have HL_v10 : Hid (W.heap.size ≤ b_v10) := Lib.hid (Blk.hi nn HD.out.size)
 have d' := nn.dn
 replace v1 := v1.dn d'
 replace v2 := v2.dn d'
 replace v3 := v3.dn d'
 replace v4 := v4.dn d'
 replace v5 := v5.dn d'
 replace v6 := v6.dn d'
 replace v7 := v7.dn d'
 replace v8 := v8.dn d'
 replace v9 := v9.dn d'
 replace oa := Lib.hid (oa.out.dn d')
 replace oc := Lib.hid (oc.out.dn d')
 replace oz := Lib.hid (oz.out.dn d')
 replace HD := hT HD d'
 have v10 := nn.blk
 clear d' nn
 go_wp2_with (first | ((with_reducible refine wpList_alloc zeroTrap ?_ ?_); rfl; intro b_v11 w' nn; refine Hid.out ?_))
 refine Lib.hid ?_
 have n_v1_v11 := Lib.hid (nn.ne _ v1.lt)
 have n_v2_v11 := Lib.hid (nn.ne _ v2.lt)
 have n_v3_v11 := Lib.hid (nn.ne _ v3.lt)
 have n_v4_v11 := Lib.hid (nn.ne _ v4.lt)
 have n_v5_v11 := Lib.hid (nn.ne _ v5.lt)
 have n_v6_v11 := Lib.hid (nn.ne _ v6.lt)
 have n_v7_v11 := Lib.hid (nn.ne _ v7.lt)
 have n_v8_v11 := Lib.hid (nn.ne _ v8.lt)
 have n_v9_v11 := Lib.hid (nn.ne _ v9.lt)
 have n_v10_v11 := Lib.hid (nn.ne _ v10.lt)
 have HL_v11 : Hid (W.heap.size ≤ b_v11) := Lib.hid (Blk.hi nn HD.out.size)
 have d' := nn.dn
 replace v1 := v1.dn d'
 replace v2 := v2.dn d'
 replace v3 := v3.dn d'
 replace v4 := v4.dn d'
 replace v5 := v5.dn d'
 replace v6 := v6.dn d'
 replace v7 := v7.dn d'
 replace v8 := v8.dn d'
 replace v9 := v9.dn d'
 replace v10 := v10.dn d'
 replace oa := Lib.hid (oa.out.dn d')
 replace oc := Lib.hid (oc.out.dn d')
 replace oz := Lib.hid (oz.out.dn d')
 replace HD := hT HD d'
 have v11 := nn.blk
 clear d' nn
 go_wp2_with (first | ((with_reducible refine store33 me le v10 zlen ?_ ?_ ?_ ?_); rfl; rfl; rfl; intro w' r' t'; refine Hid.out ?_))
 refine Lib.hid ?_
 replace oa := Lib.hid (oa.out.trn v10 (NoU8.mach _) t')
 replace oc := Lib.hid (oc.out.trn v10 (NoU8.mach _) t')
 replace oz := Lib.hid (oz.out.trn v10 (NoU8.mach _) t')
 replace v1 := v1.trn t' n_v1_v10.out
 replace v2 := v2.trn t' n_v2_v10.out
 replace v3 := v3.trn t' n_v3_v10.out
 replace v4 := v4.trn t' n_v4_v10.out
 replace v5 := v5.trn t' n_v5_v10.out
 replace v6 := v6.trn t' n_v6_v10.out
 replace v7 := v7.trn t' n_v7_v10.out
 replace v8 := v8.trn t' n_v8_v10.out
 replace v9 := v9.trn t' n_v9_v10.out
 replace v11 := v11.trn t' n_v10_v11.out.symm
 replace HD := Lib.hid (HD.out.trn HL_v10.out t')
 clear t' v10
 have v10 := r'
 clear r'
 go_wp2_with (first | ((with_reducible refine storeTrap (k := 6) (v := 0) v11 ?_ ?_ ?_ ?_); rfl; rfl; rfl; intro w' r' t'; refine Hid.out ?_))
 refine Lib.hid ?_
 replace oa := Lib.hid (oa.out.trn v11 (NoU8.trap _ _) t')
 replace oc := Lib.hid (oc.out.trn v11 (NoU8.trap _ _) t')
 replace oz := Lib.hid (oz.out.trn v11 (NoU8.trap _ _) t')
 replace v1 := v1.trn t' n_v1_v11.out
 replace v2 := v2.trn t' n_v2_v11.out
 replace v3 := v3.trn t' n_v3_v11.out
 replace v4 := v4.trn t' n_v4_v11.out
 replace v5 := v5.trn t' n_v5_v11.out
 replace v6 := v6.trn t' n_v6_v11.out
 replace v7 := v7.trn t' n_v7_v11.out
 replace v8 := v8.trn t' n_v8_v11.out
 replace v9 := v9.trn t' n_v9_v11.out
 replace v10 := v10.trn t' n_v10_v11.out
 replace HD := Lib.hid (HD.out.trn HL_v11.out t')
 clear t' v11
 have v11 := r'
 clear r'
 go_wp2_with (first | ((with_reducible refine storeWord (i := 26) (u := 5) v1 rfl ?_ ?_ ?_ ?_ ?_); rfl; rfl; rfl; rfl; intro w' r' t'; refine Hid.out ?_))
 refine Lib.hid ?_
 replace oa := Lib.hid (oa.out.trn v1 (NoU8.mach _) t')
 replace oc := Lib.hid (oc.out.trn v1 (NoU8.mach _) t')
 replace oz := Lib.hid (oz.out.trn v1 (NoU8.mach _) t')
 replace v2 := v2.trn t' n_v1_v2.out.symm
 replace v3 := v3.trn t' n_v1_v3.out.symm
 replace v4 := v4.trn t' n_v1_v4.out.symm
 replace v5 := v5.trn t' n_v1_v5.out.symm
 replace v6 := v6.trn t' n_v1_v6.out.symm
 replace v7 := v7.trn t' n_v1_v7.out.symm
 replace v8 := v8.trn t' n_v1_v8.out.symm
 replace v9 := v9.trn t' n_v1_v9.out.symm
 replace v10 := v10.trn t' n_v1_v10.out.symm
 replace v11 := v11.trn t' n_v1_v11.out.symm
 replace r' : Blk w' b_v1 30 (mach (awS b_g swCF)) := r'
 replace HD := Lib.hid (HD.out.trn HL_v1.out t')
 clear t' v1
 have v1 := r'
 clear r'
 go_wp2_with (first | ((with_reducible refine load33 v1 rfl ?_ ?_ ?_); rfl; rfl) | (go_at_call 11; (with_reducible refine (Cf.out _ oz.out (T.dn HD.out)).mono ?_); rintro e w' ⟨mf, rfl, of, ef, d'⟩; refine Hid.out ?_))
 refine Lib.hid ?_
 replace v1 := v1.dn d'
 replace v2 := v2.dn d'
 replace v3 := v3.dn d'
 replace v4 := v4.dn d'
 replace v5 := v5.dn d'
 replace v6 := v6.dn d'
 replace v7 := v7.dn d'
 replace v8 := v8.dn d'
 replace v9 := v9.dn d'
 replace v10 := v10.dn d'
 replace v11 := v11.dn d'
 replace oa := Lib.hid (oa.out.dn d')
 replace oc := Lib.hid (oc.out.dn d')
 replace oz := Lib.hid (oz.out.dn d')
 replace HD := hT HD d'
 clear d'
 have lf := of.out.len
 have nf32 : mf.h = false := ef.out.h
 have of := Lib.hid of.out
 go_wp2_with (first | ((with_reducible refine wpList_alloc zeroMach ?_ ?_); rfl; intro b_v12 w' nn; refine Hid.out ?_))
 refine Lib.hid ?_
 have n_v1_v12 := Lib.hid (nn.ne _ v1.lt)
 have n_v2_v12 := Lib.hid (nn.ne _ v2.lt)
 have n_v3_v12 := Lib.hid (nn.ne _ v3.lt)
 have n_v4_v12 := Lib.hid (nn.ne _ v4.lt)
 have n_v5_v12 := Lib.hid (nn.ne _ v5.lt)
 have n_v6_v12 := Lib.hid (nn.ne _ v6.lt)
 have n_v7_v12 := Lib.hid (nn.ne _ v7.lt)
 have n_v8_v12 := Lib.hid (nn.ne _ v8.lt)
 have n_v9_v12 := Lib.hid (nn.ne _ v9.lt)
 have n_v10_v12 := Lib.hid (nn.ne _ v10.lt)
 have n_v11_v12 := Lib.hid (nn.ne _ v11.lt)
 have HL_v12 : Hid (W.heap.size ≤ b_v12) := Lib.hid (Blk.hi nn HD.out.size)
 have d' := nn.dn
 replace v1 := v1.dn d'
 replace v2 := v2.dn d'
 replace v3 := v3.dn d'
 replace v4 := v4.dn d'
 replace v5 := v5.dn d'
 replace v6 := v6.dn d'
 replace v7 := v7.dn d'
 replace v8 := v8.dn d'
 replace v9 := v9.dn d'
 replace v10 := v10.dn d'
 replace v11 := v11.dn d'
 replace oa := Lib.hid (oa.out.dn d')
 replace oc := Lib.hid (oc.out.dn d')
 replace of := Lib.hid (of.out.dn d')
 replace oz := Lib.hid (oz.out.dn d')
 replace HD := hT HD d'
 have v12 := nn.blk
 clear d' nn
 go_wp2_with (first | ((with_reducible refine wpList_alloc zeroTrap ?_ ?_); rfl; intro b_v13 w' nn; refine Hid.out ?_))
 refine Lib.hid ?_
 have n_v1_v13 := Lib.hid (nn.ne _ v1.lt)
 have n_v2_v13 := Lib.hid (nn.ne _ v2.lt)
 have n_v3_v13 := Lib.hid (nn.ne _ v3.lt)
 have n_v4_v13 := Lib.hid (nn.ne _ v4.lt)
 have n_v5_v13 := Lib.hid (nn.ne _ v5.lt)
 have n_v6_v13 := Lib.hid (nn.ne _ v6.lt)
 have n_v7_v13 := Lib.hid (nn.ne _ v7.lt)
 have n_v8_v13 := Lib.hid (nn.ne _ v8.lt)
 have n_v9_v13 := Lib.hid (nn.ne _ v9.lt)
 have n_v10_v13 := Lib.hid (nn.ne _ v10.lt)
 have n_v11_v13 := Lib.hid (nn.ne _ v11.lt)
 have n_v12_v13 := Lib.hid (nn.ne _ v12.lt)
 have HL_v13 : Hid (W.heap.size ≤ b_v13) := Lib.hid (Blk.hi nn HD.out.size)
 have d' := nn.dn
 replace v1 := v1.dn d'
 replace v2 := v2.dn d'
 replace v3 := v3.dn d'
 replace v4 := v4.dn d'
 replace v5 := v5.dn d'
 replace v6 := v6.dn d'
 replace v7 := v7.dn d'
 replace v8 := v8.dn d'
 replace v9 := v9.dn d'
 replace v10 := v10.dn d'
 replace v11 := v11.dn d'
 replace v12 := v12.dn d'
 replace oa := Lib.hid (oa.out.dn d')
 replace oc := Lib.hid (oc.out.dn d')
 replace of := Lib.hid (of.out.dn d')
 replace oz := Lib.hid (oz.out.dn d')
 replace HD := hT HD d'
 have v13 := nn.blk
 clear d' nn
 go_wp2_with (first | ((with_reducible refine store33 mf lf v12 zlen ?_ ?_ ?_ ?_); rfl; rfl; rfl; intro w' r' t'; refine Hid.out ?_))
 refine Lib.hid ?_
 replace oa := Lib.hid (oa.out.trn v12 (NoU8.mach _) t')
 replace oc := Lib.hid (oc.out.trn v12 (NoU8.mach _) t')
 replace of := Lib.hid (of.out.trn v12 (NoU8.mach _) t')
 replace oz := Lib.hid (oz.out.trn v12 (NoU8.mach _) t')
 replace v1 := v1.trn t' n_v1_v12.out
 replace v2 := v2.trn t' n_v2_v12.out
 replace v3 := v3.trn t' n_v3_v12.out
 replace v4 := v4.trn t' n_v4_v12.out
 replace v5 := v5.trn t' n_v5_v12.out
 replace v6 := v6.trn t' n_v6_v12.out
 replace v7 := v7.trn t' n_v7_v12.out
 replace v8 := v8.trn t' n_v8_v12.out
 replace v9 := v9.trn t' n_v9_v12.out
 replace v10 := v10.trn t' n_v10_v12.out
 replace v11 := v11.trn t' n_v11_v12.out
 replace v13 := v13.trn t' n_v12_v13.out.symm
 replace HD := Lib.hid (HD.out.trn HL_v12.out t')
 clear t' v12
 have v12 := r'
 clear r'
 go_wp2_with (first | ((with_reducible refine storeTrap (k := 2) (v := 1610612736) v13 ?_ ?_ ?_ ?_); rfl; rfl; rfl; intro w' r' t'; refine Hid.out ?_))
 refine Lib.hid ?_
 replace oa := Lib.hid (oa.out.trn v13 (NoU8.trap _ _) t')
 replace oc := Lib.hid (oc.out.trn v13 (NoU8.trap _ _) t')
 replace of := Lib.hid (of.out.trn v13 (NoU8.trap _ _) t')
 replace oz := Lib.hid (oz.out.trn v13 (NoU8.trap _ _) t')
 replace v1 := v1.trn t' n_v1_v13.out
 replace v2 := v2.trn t' n_v2_v13.out
 replace v3 := v3.trn t' n_v3_v13.out
 replace v4 := v4.trn t' n_v4_v13.out
 replace v5 := v5.trn t' n_v5_v13.out
 replace v6 := v6.trn t' n_v6_v13.out
 replace v7 := v7.trn t' n_v7_v13.out
 replace v8 := v8.trn t' n_v8_v13.out
 replace v9 := v9.trn t' n_v9_v13.out
 replace v10 := v10.trn t' n_v10_v13.out
 replace v11 := v11.trn t' n_v11_v13.out
 replace v12 := v12.trn t' n_v12_v13.out
 replace HD := Lib.hid (HD.out.trn HL_v13.out t')
 clear t' v13
 have v13 := r'
 clear r'
 go_wp2_with (first | ((with_reducible refine load33 v1 rfl ?_ ?_ ?_); rfl; rfl) | (go_at_call 13; (with_reducible refine (Cg.out _ oz.out (T.dn HD.out)).mono ?_); rintro e w' ⟨mg, rfl, og, eg, d'⟩; refine Hid.out ?_))
 refine Lib.hid ?_
 replace v1 := v1.dn d'
 replace v2 := v2.dn d'
 replace v3 := v3.dn d'
 replace v4 := v4.dn d'
 replace v5 := v5.dn d'
 replace v6 := v6.dn d'
 replace v7 := v7.dn d'
 replace v8 := v8.dn d'
 replace v9 := v9.dn d'
 replace v10 := v10.dn d'
 replace v11 := v11.dn d'
 replace v12 := v12.dn d'
 replace v13 := v13.dn d'
 replace oa := Lib.hid (oa.out.dn d')
 replace oc := Lib.hid (oc.out.dn d')
 replace of := Lib.hid (of.out.dn d')
 replace oz := Lib.hid (oz.out.dn d')
 replace HD := hT HD d'
 clear d'
 have lg := og.out.len
 have og := Lib.hid og.out
 go_wp2_with (first | ((with_reducible refine wpList_alloc zeroMach ?_ ?_); rfl; intro b_v14 w' nn; refine Hid.out ?_))
 refine Lib.hid ?_
 have n_v1_v14 := Lib.hid (nn.ne _ v1.lt)
 have n_v2_v14 := Lib.hid (nn.ne _ v2.lt)
 have n_v3_v14 := Lib.hid (nn.ne _ v3.lt)
 have n_v4_v14 := Lib.hid (nn.ne _ v4.lt)
 have n_v5_v14 := Lib.hid (nn.ne _ v5.lt)
 have n_v6_v14 := Lib.hid (nn.ne _ v6.lt)
 have n_v7_v14 := Lib.hid (nn.ne _ v7.lt)
 have n_v8_v14 := Lib.hid (nn.ne _ v8.lt)
 have n_v9_v14 := Lib.hid (nn.ne _ v9.lt)
 have n_v10_v14 := Lib.hid (nn.ne _ v10.lt)
 have n_v11_v14 := Lib.hid (nn.ne _ v11.lt)
 have n_v12_v14 := Lib.hid (nn.ne _ v12.lt)
 have n_v13_v14 := Lib.hid (nn.ne _ v13.lt)
 have HL_v14 : Hid (W.heap.size ≤ b_v14) := Lib.hid (Blk.hi nn HD.out.size)
 have d' := nn.dn
 replace v1 := v1.dn d'
 replace v2 := v2.dn d'
 replace v3 := v3.dn d'
 replace v4 := v4.dn d'
 replace v5 := v5.dn d'
 replace v6 := v6.dn d'
 replace v7 := v7.dn d'
 replace v8 := v8.dn d'
 replace v9 := v9.dn d'
 replace v10 := v10.dn d'
 replace v11 := v11.dn d'
 replace v12 := v12.dn d'
 replace v13 := v13.dn d'
 replace oa := Lib.hid (oa.out.dn d')
 replace oc := Lib.hid (oc.out.dn d')
 replace of := Lib.hid (of.out.dn d')
 replace og := Lib.hid (og.out.dn d')
 replace oz := Lib.hid (oz.out.dn d')
 replace HD := hT HD d'
 have v14 := nn.blk
 clear d' nn
 go_wp2_with (first | ((with_reducible refine wpList_alloc zeroTrap ?_ ?_); rfl; intro b_v15 w' nn; refine Hid.out ?_))
 refine Lib.hid ?_
 have n_v1_v15 := Lib.hid (nn.ne _ v1.lt)
 have n_v2_v15 := Lib.hid (nn.ne _ v2.lt)
 have n_v3_v15 := Lib.hid (nn.ne _ v3.lt)
 have n_v4_v15 := Lib.hid (nn.ne _ v4.lt)
 have n_v5_v15 := Lib.hid (nn.ne _ v5.lt)
 have n_v6_v15 := Lib.hid (nn.ne _ v6.lt)
 have n_v7_v15 := Lib.hid (nn.ne _ v7.lt)
 have n_v8_v15 := Lib.hid (nn.ne _ v8.lt)
 have n_v9_v15 := Lib.hid (nn.ne _ v9.lt)
 have n_v10_v15 := Lib.hid (nn.ne _ v10.lt)
 have n_v11_v15 := Lib.hid (nn.ne _ v11.lt)
 have n_v12_v15 := Lib.hid (nn.ne _ v12.lt)
 have n_v13_v15 := Lib.hid (nn.ne _ v13.lt)
 have n_v14_v15 := Lib.hid (nn.ne _ v14.lt)
 have HL_v15 : Hid (W.heap.size ≤ b_v15) := Lib.hid (Blk.hi nn HD.out.size)
 have d' := nn.dn
 replace v1 := v1.dn d'
 replace v2 := v2.dn d'
 replace v3 := v3.dn d'
 replace v4 := v4.dn d'
 replace v5 := v5.dn d'
 replace v6 := v6.dn d'
 replace v7 := v7.dn d'
 replace v8 := v8.dn d'
 replace v9 := v9.dn d'
 replace v10 := v10.dn d'
 replace v11 := v11.dn d'
 replace v12 := v12.dn d'
 replace v13 := v13.dn d'
 replace v14 := v14.dn d'
 replace oa := Lib.hid (oa.out.dn d')
 replace oc := Lib.hid (oc.out.dn d')
 replace of := Lib.hid (of.out.dn d')
 replace og := Lib.hid (og.out.dn d')
 replace oz := Lib.hid (oz.out.dn d')
 replace HD := hT HD d'
 have v15 := nn.blk
 clear d' nn
 go_wp2_with (first | ((with_reducible refine store33 mg lg v14 zlen ?_ ?_ ?_ ?_); rfl; rfl; rfl; intro w' r' t'; refine Hid.out ?_))
 refine Lib.hid ?_
 replace oa := Lib.hid (oa.out.trn v14 (NoU8.mach _) t')
 replace oc := Lib.hid (oc.out.trn v14 (NoU8.mach _) t')
 replace of := Lib.hid (of.out.trn v14 (NoU8.mach _) t')
 replace og := Lib.hid (og.out.trn v14 (NoU8.mach _) t')
 replace oz := Lib.hid (oz.out.trn v14 (NoU8.mach _) t')
 replace v1 := v1.trn t' n_v1_v14.out
 replace v2 := v2.trn t' n_v2_v14.out
 replace v3 := v3.trn t' n_v3_v14.out
 replace v4 := v4.trn t' n_v4_v14.out
 replace v5 := v5.trn t' n_v5_v14.out
 replace v6 := v6.trn t' n_v6_v14.out
 replace v7 := v7.trn t' n_v7_v14.out
 replace v8 := v8.trn t' n_v8_v14.out
 replace v9 := v9.trn t' n_v9_v14.out
 replace v10 := v10.trn t' n_v10_v14.out
 replace v11 := v11.trn t' n_v11_v14.out
 replace v12 := v12.trn t' n_v12_v14.out
 replace v13 := v13.trn t' n_v13_v14.out
 replace v15 := v15.trn t' n_v14_v15.out.symm
 replace HD := Lib.hid (HD.out.trn HL_v14.out t')
 clear t' v14
 have v14 := r'
 clear r'
 go_wp2_with (first | ((with_reducible refine storeTrap (k := 2) (v := 1610612736) v15 ?_ ?_ ?_ ?_); rfl; rfl; rfl; intro w' r' t'; refine Hid.out ?_))
 refine Lib.hid ?_
 replace oa := Lib.hid (oa.out.trn v15 (NoU8.trap _ _) t')
 replace oc := Lib.hid (oc.out.trn v15 (NoU8.trap _ _) t')
 replace of := Lib.hid (of.out.trn v15 (NoU8.trap _ _) t')
 replace og := Lib.hid (og.out.trn v15 (NoU8.trap _ _) t')
 replace oz := Lib.hid (oz.out.trn v15 (NoU8.trap _ _) t')
 replace v1 := v1.trn t' n_v1_v15.out
 replace v2 := v2.trn t' n_v2_v15.out
 replace v3 := v3.trn t' n_v3_v15.out
 replace v4 := v4.trn t' n_v4_v15.out
 replace v5 := v5.trn t' n_v5_v15.out
 replace v6 := v6.trn t' n_v6_v15.out
 replace v7 := v7.trn t' n_v7_v15.out
 replace v8 := v8.trn t' n_v8_v15.out
 replace v9 := v9.trn t' n_v9_v15.out
 replace v10 := v10.trn t' n_v10_v15.out
 replace v11 := v11.trn t' n_v11_v15.out
 replace v12 := v12.trn t' n_v12_v15.out
 replace v13 := v13.trn t' n_v13_v15.out
 replace v14 := v14.trn t' n_v14_v15.out
 replace HD := Lib.hid (HD.out.trn HL_v15.out t')
 clear t' v15
 have v15 := r'
 clear r'
 go_wp2_with (first | ((with_reducible refine load33 v6 lc ?_ ?_ ?_); rfl; rfl) | (go_at_call 15; (with_reducible refine (CU.out _ mc ec.out oc.out (T.dn HD.out)).mono ?_); rintro e w' ⟨rfl, d'⟩; refine Hid.out ?_))
 refine Lib.hid ?_
 replace v1 := v1.dn d'
 replace v2 := v2.dn d'
 replace v3 := v3.dn d'
 replace v4 := v4.dn d'
 replace v5 := v5.dn d'
 replace v6 := v6.dn d'
 replace v7 := v7.dn d'
 replace v8 := v8.dn d'
 replace v9 := v9.dn d'
 replace v10 := v10.dn d'
 replace v11 := v11.dn d'
 replace v12 := v12.dn d'
 replace v13 := v13.dn d'
 replace v14 := v14.dn d'
 replace v15 := v15.dn d'
 replace oa := Lib.hid (oa.out.dn d')
 replace oc := Lib.hid (oc.out.dn d')
 replace of := Lib.hid (of.out.dn d')
 replace og := Lib.hid (og.out.dn d')
 replace oz := Lib.hid (oz.out.dn d')
 replace HD := hT HD d'
 clear d'
 go_wp2_with (first | ((with_reducible refine wpList_alloc zeroI ?_ ?_); rfl; intro b_v16 w' nn; refine Hid.out ?_))
 refine Lib.hid ?_
 have n_v1_v16 := Lib.hid (nn.ne _ v1.lt)
 have n_v2_v16 := Lib.hid (nn.ne _ v2.lt)
 have n_v3_v16 := Lib.hid (nn.ne _ v3.lt)
 have n_v4_v16 := Lib.hid (nn.ne _ v4.lt)
 have n_v5_v16 := Lib.hid (nn.ne _ v5.lt)
 have n_v6_v16 := Lib.hid (nn.ne _ v6.lt)
 have n_v7_v16 := Lib.hid (nn.ne _ v7.lt)
 have n_v8_v16 := Lib.hid (nn.ne _ v8.lt)
 have n_v9_v16 := Lib.hid (nn.ne _ v9.lt)
 have n_v10_v16 := Lib.hid (nn.ne _ v10.lt)
 have n_v11_v16 := Lib.hid (nn.ne _ v11.lt)
 have n_v12_v16 := Lib.hid (nn.ne _ v12.lt)
 have n_v13_v16 := Lib.hid (nn.ne _ v13.lt)
 have n_v14_v16 := Lib.hid (nn.ne _ v14.lt)
 have n_v15_v16 := Lib.hid (nn.ne _ v15.lt)
 have HL_v16 : Hid (W.heap.size ≤ b_v16) := Lib.hid (Blk.hi nn HD.out.size)
 have d' := nn.dn
 replace v1 := v1.dn d'
 replace v2 := v2.dn d'
 replace v3 := v3.dn d'
 replace v4 := v4.dn d'
 replace v5 := v5.dn d'
 replace v6 := v6.dn d'
 replace v7 := v7.dn d'
 replace v8 := v8.dn d'
 replace v9 := v9.dn d'
 replace v10 := v10.dn d'
 replace v11 := v11.dn d'
 replace v12 := v12.dn d'
 replace v13 := v13.dn d'
 replace v14 := v14.dn d'
 replace v15 := v15.dn d'
 replace oa := Lib.hid (oa.out.dn d')
 replace oc := Lib.hid (oc.out.dn d')
 replace of := Lib.hid (of.out.dn d')
 replace og := Lib.hid (og.out.dn d')
 replace oz := Lib.hid (oz.out.dn d')
 replace HD := hT HD d'
 have v16 := nn.blk
 clear d' nn
 go_wp2_with (first | ((with_reducible refine wpList_alloc zeroTrap ?_ ?_); rfl; intro b_v17 w' nn; refine Hid.out ?_))
 refine Lib.hid ?_
 have n_v1_v17 := Lib.hid (nn.ne _ v1.lt)
 have n_v2_v17 := Lib.hid (nn.ne _ v2.lt)
 have n_v3_v17 := Lib.hid (nn.ne _ v3.lt)
 have n_v4_v17 := Lib.hid (nn.ne _ v4.lt)
 have n_v5_v17 := Lib.hid (nn.ne _ v5.lt)
 have n_v6_v17 := Lib.hid (nn.ne _ v6.lt)
 have n_v7_v17 := Lib.hid (nn.ne _ v7.lt)
 have n_v8_v17 := Lib.hid (nn.ne _ v8.lt)
 have n_v9_v17 := Lib.hid (nn.ne _ v9.lt)
 have n_v10_v17 := Lib.hid (nn.ne _ v10.lt)
 have n_v11_v17 := Lib.hid (nn.ne _ v11.lt)
 have n_v12_v17 := Lib.hid (nn.ne _ v12.lt)
 have n_v13_v17 := Lib.hid (nn.ne _ v13.lt)
 have n_v14_v17 := Lib.hid (nn.ne _ v14.lt)
 have n_v15_v17 := Lib.hid (nn.ne _ v15.lt)
 have n_v16_v17 := Lib.hid (nn.ne _ v16.lt)
 have HL_v17 : Hid (W.heap.size ≤ b_v17) := Lib.hid (Blk.hi nn HD.out.size)
 have d' := nn.dn
 replace v1 := v1.dn d'
 replace v2 := v2.dn d'
 replace v3 := v3.dn d'
 replace v4 := v4.dn d'
 replace v5 := v5.dn d'
 replace v6 := v6.dn d'
 replace v7 := v7.dn d'
 replace v8 := v8.dn d'
 replace v9 := v9.dn d'
 replace v10 := v10.dn d'
 replace v11 := v11.dn d'
 replace v12 := v12.dn d'
 replace v13 := v13.dn d'
 replace v14 := v14.dn d'
 replace v15 := v15.dn d'
 replace v16 := v16.dn d'
 replace oa := Lib.hid (oa.out.dn d')
 replace oc := Lib.hid (oc.out.dn d')
 replace of := Lib.hid (of.out.dn d')
 replace og := Lib.hid (og.out.dn d')
 replace oz := Lib.hid (oz.out.dn d')
 replace HD := hT HD d'
 have v17 := nn.blk
 clear d' nn
 go_wp2_with (first | ((with_reducible refine storeI (op := 0) (rd := 0) (ra := 0) (rb := 0) (imm := 0) v16 ?_ ?_ ?_ ?_); rfl; rfl; rfl; intro w' r' t'; refine Hid.out ?_))
 refine Lib.hid ?_
 replace oa := Lib.hid (oa.out.trn v16 (NoU8.ins _ _ _ _ _) t')
 replace oc := Lib.hid (oc.out.trn v16 (NoU8.ins _ _ _ _ _) t')
 replace of := Lib.hid (of.out.trn v16 (NoU8.ins _ _ _ _ _) t')
 replace og := Lib.hid (og.out.trn v16 (NoU8.ins _ _ _ _ _) t')
 replace oz := Lib.hid (oz.out.trn v16 (NoU8.ins _ _ _ _ _) t')
 replace v1 := v1.trn t' n_v1_v16.out
 replace v2 := v2.trn t' n_v2_v16.out
 replace v3 := v3.trn t' n_v3_v16.out
 replace v4 := v4.trn t' n_v4_v16.out
 replace v5 := v5.trn t' n_v5_v16.out
 replace v6 := v6.trn t' n_v6_v16.out
 replace v7 := v7.trn t' n_v7_v16.out
 replace v8 := v8.trn t' n_v8_v16.out
 replace v9 := v9.trn t' n_v9_v16.out
 replace v10 := v10.trn t' n_v10_v16.out
 replace v11 := v11.trn t' n_v11_v16.out
 replace v12 := v12.trn t' n_v12_v16.out
 replace v13 := v13.trn t' n_v13_v16.out
 replace v14 := v14.trn t' n_v14_v16.out
 replace v15 := v15.trn t' n_v15_v16.out
 replace v17 := v17.trn t' n_v16_v17.out.symm
 replace HD := Lib.hid (HD.out.trn HL_v16.out t')
 clear t' v16
 have v16 := r'
 clear r'
 go_wp2_with (first | ((with_reducible refine storeTrap (k := 1) (v := 0) v17 ?_ ?_ ?_ ?_); rfl; rfl; rfl; intro w' r' t'; refine Hid.out ?_))
 refine Lib.hid ?_
 replace oa := Lib.hid (oa.out.trn v17 (NoU8.trap _ _) t')
 replace oc := Lib.hid (oc.out.trn v17 (NoU8.trap _ _) t')
 replace of := Lib.hid (of.out.trn v17 (NoU8.trap _ _) t')
 replace og := Lib.hid (og.out.trn v17 (NoU8.trap _ _) t')
 replace oz := Lib.hid (oz.out.trn v17 (NoU8.trap _ _) t')
 replace v1 := v1.trn t' n_v1_v17.out
 replace v2 := v2.trn t' n_v2_v17.out
 replace v3 := v3.trn t' n_v3_v17.out
 replace v4 := v4.trn t' n_v4_v17.out
 replace v5 := v5.trn t' n_v5_v17.out
 replace v6 := v6.trn t' n_v6_v17.out
 replace v7 := v7.trn t' n_v7_v17.out
 replace v8 := v8.trn t' n_v8_v17.out
 replace v9 := v9.trn t' n_v9_v17.out
 replace v10 := v10.trn t' n_v10_v17.out
 replace v11 := v11.trn t' n_v11_v17.out
 replace v12 := v12.trn t' n_v12_v17.out
 replace v13 := v13.trn t' n_v13_v17.out
 replace v14 := v14.trn t' n_v14_v17.out
 replace v15 := v15.trn t' n_v15_v17.out
 replace v16 := v16.trn t' n_v16_v17.out
 replace HD := Lib.hid (HD.out.trn HL_v17.out t')
 clear t' v17
 have v17 := r'
 clear r'
 go_upto_region 18 with (fail)
 simp only [List.append]
 have ck0 := v2.word la 16 rfl
 rw [na16] at ck0
 have ck1 := v2.time la
 rw [na30] at ck1
 have ck2 := v2.word la 18 rfl
 rw [na18] at ck2
 have ck3 := v5.cell (i := 0) (v := .int .i64 1) rfl
 have ck4 := v4.word lb 18 rfl
 rw [nb18] at ck4
 have ck5 := v6.halted lc
 rw [nc32] at ck5
 have ck6 := v6.time lc
 rw [nc30] at ck6
 have ck7 := v8.time ld
 rw [nd30] at ck7
 have ck8 := v11.cell (i := 0) (v := .int .i64 6) rfl
 have ck9 := v10.word le 19 rfl
 rw [ne19] at ck9
 have ck10 := v12.halted lf
 rw [nf32] at ck10
 go_wp2_with (first | ((with_reducible refine loadTrap v3 ?_ ?_ ?_); rfl; rfl; simp only [Act.put, tA, tS, tZ]) | ((with_reducible refine loadTrap v7 ?_ ?_ ?_); rfl; rfl; simp only [Act.put, tA, tS, tZ]) | ((with_reducible refine loadTrap v9 ?_ ?_ ?_); rfl; rfl; simp only [Act.put, tA, tS, tZ]) | ((with_reducible refine loadTrap v13 ?_ ?_ ?_); rfl; rfl; simp only [Act.put, tA, tS, tZ]) | ((with_reducible refine load33 v12 lf ?_ ?_ ?_); rfl; rfl; simp only [Act.put, tA, tS, tZ]) | ((with_reducible refine load33 v14 lg ?_ ?_ ?_); rfl; rfl; simp only [Act.put, tA, tS, tZ]) | (go_at_call 17; (with_reducible refine (CS.out _ mf mg of.out og.out ef.out eg.out).mono ?_); rintro e w' ⟨rfl, d'⟩; dsimp only; refine Hid.out ?_))
 refine Lib.hid ?_
 clear ck0 ck1 ck2 ck3 ck4 ck5 ck6 ck7 ck8 ck9 ck10
 replace v1 := v1.dn d'
 replace v2 := v2.dn d'
 replace v3 := v3.dn d'
 replace v4 := v4.dn d'
 replace v5 := v5.dn d'
 replace v6 := v6.dn d'
 replace v7 := v7.dn d'
 replace v8 := v8.dn d'
 replace v9 := v9.dn d'
 replace v10 := v10.dn d'
 replace v11 := v11.dn d'
 replace v12 := v12.dn d'
 replace v13 := v13.dn d'
 replace v14 := v14.dn d'
 replace v15 := v15.dn d'
 replace v16 := v16.dn d'
 replace v17 := v17.dn d'
 replace oa := Lib.hid (oa.out.dn d')
 replace oc := Lib.hid (oc.out.dn d')
 replace of := Lib.hid (of.out.dn d')
 replace og := Lib.hid (og.out.dn d')
 replace oz := Lib.hid (oz.out.dn d')
 replace HD := hT HD d'
 clear d'
 have ck0 := v17.cell (i := 0) (v := .int .i64 1) rfl
 go_wp2_with (first | ((with_reducible refine loadTrap v13 ?_ ?_ ?_); rfl; rfl; simp only [Act.put, tA, tS, tZ]) | ((with_reducible refine loadTrap v15 ?_ ?_ ?_); rfl; rfl; simp only [Act.put, tA, tS, tZ]) | ((with_reducible refine loadI v16 ?_ ?_ ?_); rfl; rfl; simp only [Act.put, tA, tS, tZ]) | fail)
 go_ret
 exact ⟨rfl, HD.out⟩
end Go.Proofs.YtjbnflalngjfaaaGreatDoor
