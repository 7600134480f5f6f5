/-
  Contracts over the translated program and the plain facts behind them, of the texts: ExLoad, ExStoreOk, ExStoreNo, ExMeth, ExWrap. Conditions: those that stand in each theorem.
-/
import Derived.Test.YtclpdjpaaagkdaaGreatDoorPmG
import Derived.Test.YtclpdjpaaagkdaaGreatDoorPmX
namespace Go.Proofs.YtclpdjpaaagkdaaGreatDoor
open Go.ChangeShapes Go.WideShapes Go.ChangeAt Go.RowKit Go.Sort
set_option linter.unusedVariables false

set_option maxRecDepth 100000 in
set_option maxHeartbeats 2000000 in
theorem xLoadOk (m : Mc) (op rd ra rb imm x y z : Int) (b_g : Nat) (W : World) (g : Blk W b_g 127 (prg m op rd ra rb imm x y z)) (hm : m.Ok W) (i0 : -2147483648 ≤ imm) (i1 : imm < 2147483648) (x0 : 0 ≤ x) (x1 : x < 4294967296) (n : Int) (n0 : 1 ≤ n) (n1 : n ≤ 4) (hs : m.xs.length ≤ 100000) (s : Int) (s0 : 0 ≤ s) (s1 : s < 4294967296) (hsum : Hid ((x + M.iw imm) % 4294967296 = s)) (v : Int) (v0 : 0 ≤ v) (v1 : v < 4294967296) (hk : M.acz m.c m.xs.length s n = 0) (hv : M.alv m.c m.xs s n = v) (m' : Mc) (hm' : m' = { m with c := M.adv (M.setreg m.c rd v) 4 }) :
   Calls Tryz.prog 145 #[.pointer (some ⟨b_g, 0, none⟩), .int .i64 n] W fun e W' => e = .returned (.tuple #[.agg (mach m'), .agg #[.int .i64 0, .int .u32 0]]) ∧ Dn W W' := by
 have hl := hm.len
 have hl' : m'.c.length = 29 := by rw [hm']; exact ((hm.core.setreg rd ⟨v0, v1⟩).adv 4).len
 have C1 := Lib.hid fun w => fun (gw : Blk w b_g 127 (prg m op rd ra rb imm x y z)) (ow : m.Ok w) => xSum m op rd ra rb imm x y z b_g w gw ow i0 i1 x0 x1 s hsum
 have C2 := Lib.hid fun w => fun (ow : m.Ok w) => fload m s n w ow hs s0 s1 n0 n1 v 0 0 hv hk (M.atv_yes hk)
 have C3 := Lib.hid (xTrapped 0 0 false · rfl)
 have C4 := Lib.hid fun w => fun (gw : Blk w b_g 127 (prg m op rd ra rb imm x y z)) (ow : m.Ok w) => xSet m op rd ra rb imm x y z b_g w gw ow v v0 v1 m' hm'
 clear hm' hk hv hsum
 have D1 := Lib.hid fun w (d : Dn W w) => C1.out w (g.dn d) (hm.dn d)
 have D2 := Lib.hid fun w (d : Dn W w) => C2.out w (hm.dn d)
 have D3 := Lib.hid fun w (d : Dn W w) => C3.out w
 have D4 := Lib.hid fun w (d : Dn W w) => C4.out w (g.dn d) (hm.dn d)
 have R1 : Hid (Rg [] [0, 1, 2, 3, 4, 5, 6, 7, 8, 9, 10] [[11], [12], [13]]) := Lib.hid trivial
 have S : Hid (Sw W W []) := Lib.hid (Dn.refl W)
 go_enter Tryz.func145, Tryz.ntmps145
 exact Wr
set_option maxRecDepth 100000 in
set_option maxHeartbeats 2000000 in
theorem xLoadNo (m : Mc) (op rd ra rb imm x y z : Int) (b_g : Nat) (W : World) (g : Blk W b_g 127 (prg m op rd ra rb imm x y z)) (hm : m.Ok W) (i0 : -2147483648 ≤ imm) (i1 : imm < 2147483648) (x0 : 0 ≤ x) (x1 : x < 4294967296) (n : Int) (n0 : 1 ≤ n) (n1 : n ≤ 4) (hs : m.xs.length ≤ 100000) (s : Int) (s0 : 0 ≤ s) (s1 : s < 4294967296) (hsum : Hid ((x + M.iw imm) % 4294967296 = s)) (k v : Int) (hk : M.acz m.c m.xs.length s n = k) (hv : M.atv m.c m.xs.length s n = v) (hz : k ≠ 0) :
   Calls Tryz.prog 145 #[.pointer (some ⟨b_g, 0, none⟩), .int .i64 n] W fun e W' => e = .returned (.tuple #[.agg (mach m), .agg #[.int .i64 k, .int .u32 v]]) ∧ Dn W W' := by
 have hl := hm.len
 have C1 := Lib.hid fun w => fun (gw : Blk w b_g 127 (prg m op rd ra rb imm x y z)) (ow : m.Ok w) => xSum m op rd ra rb imm x y z b_g w gw ow i0 i1 x0 x1 s hsum
 have C2 := Lib.hid fun w => fun (ow : m.Ok w) => fload m s n w ow hs s0 s1 n0 n1 _ k v rfl hk hv
 have C3 := Lib.hid (xTrapped k v true · (by simp [hz]))
 generalize M.alv m.c m.xs s n = u at C2
 clear hk hv hsum hz
 have D1 := Lib.hid fun w (d : Dn W w) => C1.out w (g.dn d) (hm.dn d)
 have D2 := Lib.hid fun w (d : Dn W w) => C2.out w (hm.dn d)
 have D3 := Lib.hid fun w (d : Dn W w) => C3.out w
 have R1 : Hid (Rg [] [0, 1, 2, 3, 4, 5, 6, 7, 8, 9, 10] [[11], [12], [13]]) := Lib.hid trivial
 have R2 : Hid (Rg [1, 2] [0, 1, 2, 3, 4] [[5], [6]]) := Lib.hid trivial
 have S : Hid (Sw W W []) := Lib.hid (Dn.refl W)
 go_enter Tryz.func145, Tryz.ntmps145
 exact Wr

set_option maxRecDepth 100000 in
set_option maxHeartbeats 2000000 in
theorem xStoreOk (m : Mc) (op rd ra rb imm x y z : Int) (b_g : Nat) (W : World) (g : Blk W b_g 127 (prg m op rd ra rb imm x y z)) (hm : m.Ok W) (i0 : -2147483648 ≤ imm) (i1 : imm < 2147483648) (x0 : 0 ≤ x) (x1 : x < 4294967296) (z0 : 0 ≤ z) (z1 : z < 4294967296) (n : Int) (n0 : 1 ≤ n) (n1 : n ≤ 4) (hs : m.xs.length ≤ 100000) (s : Int) (s0 : 0 ≤ s) (s1 : s < 4294967296) (hsum : Hid ((x + M.iw imm) % 4294967296 = s)) (zs : List Int) (hk : M.acz m.c m.xs.length s n = 0) (hz : M.asv m.c m.xs s n z = zs) (c2 : List Int) (h2 : M.adv m.c 4 = c2) :
   Calls Tryz.prog 146 #[.pointer (some ⟨b_g, 0, none⟩), .int .i64 n] W fun e W' => ExRet W m ⟨c2, zs, 0, 0⟩ e W' := by
 have hl := hm.len
 have C1 := Lib.hid fun w => fun (gw : Blk w b_g 127 (prg m op rd ra rb imm x y z)) (ow : m.Ok w) => xSum m op rd ra rb imm x y z b_g w gw ow i0 i1 x0 x1 s hsum
 have C2 := Lib.hid fun w => fun (ow : m.Ok w) => fstore m s n z w ow hs s0 s1 n0 n1 z0 z1 zs 0 0 hz hk (M.atv_yes hk)
 have C3 := Lib.hid (xTrapped 0 0 false · rfl)
 have hc := hm.core
 have k2 : M.Core c2 := by rw [← h2]; exact hc.adv 4
 have l2 := k2.len
 have C4 := Lib.hid fun w => fun (c : List Int) (e : c = m.c) => xAdv c 4 c2 w (by rw [e]; exact hc) (by decide) (by decide) (by rw [e]; exact h2)
 clear hk hz hsum h2
 have HD := Lib.hid (Dn.refl W)
 go_enter Tryz.func146, Tryz.ntmps146
 go_wp2_with (first | ((with_reducible refine wpList_alloc zeroMach ?_ ?_); rfl; intro b_v4 w' nn; refine Hid.out ?_))
 refine Lib.hid ?_
 have n_g_v4 := Lib.hid (nn.ne _ g.lt)
 have HL_v4 : Hid (W.heap.size ≤ b_v4) := Lib.hid (Blk.hi nn HD.out.size)
 have d' := nn.dn
 replace g := g.dn d'
 replace HD := hT HD d'
 have v4 := nn.blk
 clear d' nn
 go_wp2_with (first | ((with_reducible refine wpList_alloc zeroTrap ?_ ?_); rfl; intro b_v5 w' nn; refine Hid.out ?_))
 refine Lib.hid ?_
 have n_g_v5 := Lib.hid (nn.ne _ g.lt)
 have n_v4_v5 := Lib.hid (nn.ne _ v4.lt)
 have HL_v5 : Hid (W.heap.size ≤ b_v5) := Lib.hid (Blk.hi nn HD.out.size)
 have d' := nn.dn
 replace g := g.dn d'
 replace v4 := v4.dn d'
 replace HD := hT HD d'
 have v5 := nn.blk
 clear d' nn
 go_wp2_with fail
 have nx_g : b_g ∉ [] := (by simp)
 have nx_v4 : b_v4 ∉ [] := (by simp)
 have nx_v5 : b_v5 ∉ [] := (by simp)
 have hbs : ∀ b ∈ ([] : List Nat), ∃ t cs, Blk w' b t cs ∧ NoU8 cs := fun b hb => absurd hb (by simp)
 have hbl : ∀ b ∈ ([] : List Nat), W.heap.size ≤ b := fun b hb => absurd hb (by simp)
 refine wp_region_picks [] [0, 1, 2, 3, 4, 5, 6, 7, 8, 9, 10] 8 (by kernel_rfl) (by kernel_rfl) rfl (by kernel_rfl) ?_
 simp only [pickL, List.drop_succ_cons, List.drop_zero, List.take_succ_cons, List.take_zero, List.cons_append, List.nil_append]
 refine ⟨?_, ?_, ?_⟩
 rotate_left 1
 refine ⟨_, calx_pure (by rfl) (fun u => by go_simp; rfl), ?_⟩
 simp only [Act.put, tA, tS, tZ]
 refine ⟨_, calx_pure (by rfl) (fun u => by go_simp; rfl), ?_⟩
 simp only [Act.put, tA, tS, tZ]
 refine ⟨_, calx_pure (by rfl) (fun u => by go_simp; rfl), ?_⟩
 simp only [Act.put, tA, tS, tZ]
 refine ⟨_, calxPm g hl nx_g (by rfl) rfl, ?_⟩
 simp only [Act.put, tA, tS, tZ]
 refine ⟨_, calx_pure (by rfl) (fun u => by go_simp; rfl), ?_⟩
 simp only [Act.put, tA, tS, tZ]
 refine ⟨_, calx_call (fun u du => C1.out u (g.dx du nx_g) (hm.dn (HD.out.of_dx du hbl))) (by rfl) (fun u => by go_simp), ?_⟩
 simp only [Act.put, tA, tS, tZ]
 refine ⟨_, calx_pure (by rfl) (fun u => by go_simp; rfl), ?_⟩
 simp only [Act.put, tA, tS, tZ]
 refine ⟨_, calx_pure (by rfl) (fun u => by go_simp; rfl), ?_⟩
 simp only [Act.put, tA, tS, tZ]
 refine ⟨_, calx_pure (by rfl) (fun u => by go_simp; rfl), ?_⟩
 simp only [Act.put, tA, tS, tZ]
 refine ⟨_, calx_pure (by rfl) (fun u => by go_simp; rfl), ?_⟩
 simp only [Act.put, tA, tS, tZ]
 refine ⟨_, calxInt (v := .int .u32 z) g nx_g Tryz.underlying22 (by rfl) rfl (prg_tail hl (i := 7) (by decide)), ?_⟩
 simp only [Act.put, tA, tS, tZ]
 exact rfl
 have e0 : Dx [] w' w'.drew := Dn.dx (Dn.drawn _)
 refine wpX_three 11 15 16 (by kernel_rfl) ?_ ?_ ?_
 focus
   refine x1_call rfl (by rfl) (fun u => by go_simp) e0 fun x0 dx ex => (C2.out x0 (hm.dn (HD.out.of_dx ex hbl))).mono ?_
   rintro e y0 ⟨m1, rfl, om1, up, d'⟩
   refine ⟨d', _, rfl, ?_⟩
   replace e0 := ex.trans (Dn.dx d')
   have hl1 := om1.out.len
   have hc1 := Lib.hid up.out.core
   have oo := Lib.hid om1.out
   clear dx ex d'
   simp only [Act.put, tA, tS, tZ]
   refine wpX_pick2 (by kernel_rfl) e0 [12, 13, 14] 4 rfl (by kernel_rfl) ?_
   simp only [pickL, List.drop_succ_cons, List.drop_zero, List.take_succ_cons, List.take_zero, List.cons_append, List.nil_append]
   refine ⟨?_, ?_, ?_⟩
   rotate_left 1
   refine ⟨_, calx_pure (by rfl) (fun u => by go_simp; rfl), ?_⟩
   simp only [Act.put, tA, tS, tZ]
   refine ⟨_, calx_pure (by rfl) (fun u => by go_simp; rfl), ?_⟩
   simp only [Act.put, tA, tS, tZ]
   refine ⟨_, calx_pure (by rfl) (fun u => by go_simp; rfl), ?_⟩
   simp only [Act.put, tA, tS, tZ]
   exact rfl
   refine wpX_two 15 16 (by kernel_rfl) ?_ ?_
   focus
     refine x1_alloc rfl zeroMach e0 fun b_v6 y1 dy lo f_v6 => ?_
     have n_g_v6 := Lib.hid (Nat.ne_of_lt (Nat.lt_of_lt_of_le g.lt (Nat.le_trans e0.size lo)))
     have n_v4_v6 := Lib.hid (Nat.ne_of_lt (Nat.lt_of_lt_of_le v4.lt (Nat.le_trans e0.size lo)))
     have n_v5_v6 := Lib.hid (Nat.ne_of_lt (Nat.lt_of_lt_of_le v5.lt (Nat.le_trans e0.size lo)))
     have lo_v6 := Nat.le_trans e0.size lo
     have HL_v6 : Hid (W.heap.size ≤ b_v6) := Lib.hid (Nat.le_trans HD.out.size lo_v6)
     replace e0 := e0.trans (Dn.dx dy)
     replace oo := Lib.hid (oo.out.dn dy)
     clear dy lo
     simp only [Act.put, tA, tS, tZ]
     refine wpX_one 16 (by kernel_rfl) ?_
     refine x1_alloc rfl zeroTrap e0 fun b_v7 y1 dy lo f_v7 => ?_
     have n_g_v7 := Lib.hid (Nat.ne_of_lt (Nat.lt_of_lt_of_le g.lt (Nat.le_trans e0.size lo)))
     have n_v4_v7 := Lib.hid (Nat.ne_of_lt (Nat.lt_of_lt_of_le v4.lt (Nat.le_trans e0.size lo)))
     have n_v5_v7 := Lib.hid (Nat.ne_of_lt (Nat.lt_of_lt_of_le v5.lt (Nat.le_trans e0.size lo)))
     have n_v6_v7 := Lib.hid (Nat.ne_of_lt (Nat.lt_of_lt_of_le f_v6.lt lo))
     have lo_v7 := Nat.le_trans e0.size lo
     have HL_v7 : Hid (W.heap.size ≤ b_v7) := Lib.hid (Nat.le_trans HD.out.size lo_v7)
     replace e0 := e0.trans (Dn.dx dy)
     replace f_v6 := f_v6.dn dy
     replace oo := Lib.hid (oo.out.dn dy)
     clear dy lo
     simp only [Act.put, tA, tS, tZ]
     refine wpX_one 17 (by kernel_rfl) ?_
     refine x1_store 0 (vs := (mach m1)) rfl f_v6 (.inr lo_v6) (info_mach hl1) (by rw [mach_size hl1, mach_size zlen]; omega) (mach_one _) rfl rfl e0 fun u1 y1 du1 t1 e1 g1 => ?_
     rw [lay_all (mach Mc.zero) (mach m1) (by rw [mach_size hl1, mach_size zlen])] at g1
     replace f_v7 := (f_v7.dn du1).trn t1 n_v6_v7.out.symm
     replace oo := Lib.hid ((oo.out.dn du1).trn (f_v6.dn du1) (NoU8.mach _) t1)
     clear f_v6 e0
     have f_v6 := g1
     have e0 := e1
     clear g1 t1 du1 e1
     refine wpX_one 18 (by kernel_rfl) ?_
     refine x1_store 0 (vs := #[.int .i64 0, .int .u32 0]) rfl f_v7 (.inr lo_v7) infoTrap (by simp) (by simp [Value.oneCell']) rfl rfl e0 fun u1 y1 du1 t1 e1 g1 => ?_
     rw [lay_all #[.int .i64 0, .int .u32 0] #[.int .i64 0, .int .u32 0] rfl] at g1
     replace f_v6 := (f_v6.dn du1).trn t1 n_v6_v7.out
     replace oo := Lib.hid ((oo.out.dn du1).trn (f_v7.dn du1) (NoU8.trap _ _) t1)
     clear f_v7 e0
     have f_v7 := g1
     have e0 := e1
     clear g1 t1 du1 e1
   rotate_left 1
   focus
     refine x1_alloc rfl zeroTrap e0 fun b_v7 y1 dy lo f_v7 => ?_
     have n_g_v7 := Lib.hid (Nat.ne_of_lt (Nat.lt_of_lt_of_le g.lt (Nat.le_trans e0.size lo)))
     have n_v4_v7 := Lib.hid (Nat.ne_of_lt (Nat.lt_of_lt_of_le v4.lt (Nat.le_trans e0.size lo)))
     have n_v5_v7 := Lib.hid (Nat.ne_of_lt (Nat.lt_of_lt_of_le v5.lt (Nat.le_trans e0.size lo)))
     have lo_v7 := Nat.le_trans e0.size lo
     have HL_v7 : Hid (W.heap.size ≤ b_v7) := Lib.hid (Nat.le_trans HD.out.size lo_v7)
     replace e0 := e0.trans (Dn.dx dy)
     replace oo := Lib.hid (oo.out.dn dy)
     clear dy lo
     simp only [Act.put, tA, tS, tZ]
     refine wpX_one 15 (by kernel_rfl) ?_
     refine x1_alloc rfl zeroMach e0 fun b_v6 y1 dy lo f_v6 => ?_
     have n_g_v6 := Lib.hid (Nat.ne_of_lt (Nat.lt_of_lt_of_le g.lt (Nat.le_trans e0.size lo)))
     have n_v4_v6 := Lib.hid (Nat.ne_of_lt (Nat.lt_of_lt_of_le v4.lt (Nat.le_trans e0.size lo)))
     have n_v5_v6 := Lib.hid (Nat.ne_of_lt (Nat.lt_of_lt_of_le v5.lt (Nat.le_trans e0.size lo)))
     have n_v6_v7 := Lib.hid (Ne.symm (Nat.ne_of_lt (Nat.lt_of_lt_of_le f_v7.lt lo)))
     have lo_v6 := Nat.le_trans e0.size lo
     have HL_v6 : Hid (W.heap.size ≤ b_v6) := Lib.hid (Nat.le_trans HD.out.size lo_v6)
     replace e0 := e0.trans (Dn.dx dy)
     replace f_v7 := f_v7.dn dy
     replace oo := Lib.hid (oo.out.dn dy)
     clear dy lo
     simp only [Act.put, tA, tS, tZ]
     refine wpX_one 17 (by kernel_rfl) ?_
     refine x1_store 0 (vs := (mach m1)) rfl f_v6 (.inr lo_v6) (info_mach hl1) (by rw [mach_size hl1, mach_size zlen]; omega) (mach_one _) rfl rfl e0 fun u1 y1 du1 t1 e1 g1 => ?_
     rw [lay_all (mach Mc.zero) (mach m1) (by rw [mach_size hl1, mach_size zlen])] at g1
     replace f_v7 := (f_v7.dn du1).trn t1 n_v6_v7.out.symm
     replace oo := Lib.hid ((oo.out.dn du1).trn (f_v6.dn du1) (NoU8.mach _) t1)
     clear f_v6 e0
     have f_v6 := g1
     have e0 := e1
     clear g1 t1 du1 e1
     refine wpX_one 18 (by kernel_rfl) ?_
     refine x1_store 0 (vs := #[.int .i64 0, .int .u32 0]) rfl f_v7 (.inr lo_v7) infoTrap (by simp) (by simp [Value.oneCell']) rfl rfl e0 fun u1 y1 du1 t1 e1 g1 => ?_
     rw [lay_all #[.int .i64 0, .int .u32 0] #[.int .i64 0, .int .u32 0] rfl] at g1
     replace f_v6 := (f_v6.dn du1).trn t1 n_v6_v7.out
     replace oo := Lib.hid ((oo.out.dn du1).trn (f_v7.dn du1) (NoU8.trap _ _) t1)
     clear f_v7 e0
     have f_v7 := g1
     have e0 := e1
     clear g1 t1 du1 e1
   rotate_left 1
 rotate_left 2
 focus
   refine x1_alloc rfl zeroMach e0 fun b_v6 y1 dy lo f_v6 => ?_
   have n_g_v6 := Lib.hid (Nat.ne_of_lt (Nat.lt_of_lt_of_le g.lt (Nat.le_trans e0.size lo)))
   have n_v4_v6 := Lib.hid (Nat.ne_of_lt (Nat.lt_of_lt_of_le v4.lt (Nat.le_trans e0.size lo)))
   have n_v5_v6 := Lib.hid (Nat.ne_of_lt (Nat.lt_of_lt_of_le v5.lt (Nat.le_trans e0.size lo)))
   have lo_v6 := Nat.le_trans e0.size lo
   have HL_v6 : Hid (W.heap.size ≤ b_v6) := Lib.hid (Nat.le_trans HD.out.size lo_v6)
   replace e0 := e0.trans (Dn.dx dy)
   clear dy lo
   simp only [Act.put, tA, tS, tZ]
   refine wpX_two 11 16 (by kernel_rfl) ?_ ?_
   focus
     refine x1_call rfl (by rfl) (fun u => by go_simp) e0 fun x0 dx ex => (C2.out x0 (hm.dn (HD.out.of_dx ex hbl))).mono ?_
     rintro e y0 ⟨m1, rfl, om1, up, d'⟩
     refine ⟨d', _, rfl, ?_⟩
     replace e0 := ex.trans (Dn.dx d')
     replace f_v6 := (f_v6.dn dx).dn d'
     have hl1 := om1.out.len
     have hc1 := Lib.hid up.out.core
     have oo := Lib.hid om1.out
     clear dx ex d'
     simp only [Act.put, tA, tS, tZ]
     refine wpX_pick2 (by kernel_rfl) e0 [12, 13, 14] 3 rfl (by kernel_rfl) ?_
     simp only [pickL, List.drop_succ_cons, List.drop_zero, List.take_succ_cons, List.take_zero, List.cons_append, List.nil_append]
     refine ⟨?_, ?_, ?_⟩
     rotate_left 1
     refine ⟨_, calx_pure (by rfl) (fun u => by go_simp; rfl), ?_⟩
     simp only [Act.put, tA, tS, tZ]
     refine ⟨_, calx_pure (by rfl) (fun u => by go_simp; rfl), ?_⟩
     simp only [Act.put, tA, tS, tZ]
     refine ⟨_, calx_pure (by rfl) (fun u => by go_simp; rfl), ?_⟩
     simp only [Act.put, tA, tS, tZ]
     exact rfl
     refine wpX_one 16 (by kernel_rfl) ?_
     refine x1_alloc rfl zeroTrap e0 fun b_v7 y1 dy lo f_v7 => ?_
     have n_g_v7 := Lib.hid (Nat.ne_of_lt (Nat.lt_of_lt_of_le g.lt (Nat.le_trans e0.size lo)))
     have n_v4_v7 := Lib.hid (Nat.ne_of_lt (Nat.lt_of_lt_of_le v4.lt (Nat.le_trans e0.size lo)))
     have n_v5_v7 := Lib.hid (Nat.ne_of_lt (Nat.lt_of_lt_of_le v5.lt (Nat.le_trans e0.size lo)))
     have n_v6_v7 := Lib.hid (Nat.ne_of_lt (Nat.lt_of_lt_of_le f_v6.lt lo))
     have lo_v7 := Nat.le_trans e0.size lo
     have HL_v7 : Hid (W.heap.size ≤ b_v7) := Lib.hid (Nat.le_trans HD.out.size lo_v7)
     replace e0 := e0.trans (Dn.dx dy)
     replace f_v6 := f_v6.dn dy
     replace oo := Lib.hid (oo.out.dn dy)
     clear dy lo
     simp only [Act.put, tA, tS, tZ]
     refine wpX_one 17 (by kernel_rfl) ?_
     refine x1_store 0 (vs := (mach m1)) rfl f_v6 (.inr lo_v6) (info_mach hl1) (by rw [mach_size hl1, mach_size zlen]; omega) (mach_one _) rfl rfl e0 fun u1 y1 du1 t1 e1 g1 => ?_
     rw [lay_all (mach Mc.zero) (mach m1) (by rw [mach_size hl1, mach_size zlen])] at g1
     replace f_v7 := (f_v7.dn du1).trn t1 n_v6_v7.out.symm
     replace oo := Lib.hid ((oo.out.dn du1).trn (f_v6.dn du1) (NoU8.mach _) t1)
     clear f_v6 e0
     have f_v6 := g1
     have e0 := e1
     clear g1 t1 du1 e1
     refine wpX_one 18 (by kernel_rfl) ?_
     refine x1_store 0 (vs := #[.int .i64 0, .int .u32 0]) rfl f_v7 (.inr lo_v7) infoTrap (by simp) (by simp [Value.oneCell']) rfl rfl e0 fun u1 y1 du1 t1 e1 g1 => ?_
     rw [lay_all #[.int .i64 0, .int .u32 0] #[.int .i64 0, .int .u32 0] rfl] at g1
     replace f_v6 := (f_v6.dn du1).trn t1 n_v6_v7.out
     replace oo := Lib.hid ((oo.out.dn du1).trn (f_v7.dn du1) (NoU8.trap _ _) t1)
     clear f_v7 e0
     have f_v7 := g1
     have e0 := e1
     clear g1 t1 du1 e1
   rotate_left 1
   focus
     refine x1_alloc rfl zeroTrap e0 fun b_v7 y1 dy lo f_v7 => ?_
     have n_g_v7 := Lib.hid (Nat.ne_of_lt (Nat.lt_of_lt_of_le g.lt (Nat.le_trans e0.size lo)))
     have n_v4_v7 := Lib.hid (Nat.ne_of_lt (Nat.lt_of_lt_of_le v4.lt (Nat.le_trans e0.size lo)))
     have n_v5_v7 := Lib.hid (Nat.ne_of_lt (Nat.lt_of_lt_of_le v5.lt (Nat.le_trans e0.size lo)))
     have n_v6_v7 := Lib.hid (Nat.ne_of_lt (Nat.lt_of_lt_of_le f_v6.lt lo))
     have lo_v7 := Nat.le_trans e0.size lo
     have HL_v7 : Hid (W.heap.size ≤ b_v7) := Lib.hid (Nat.le_trans HD.out.size lo_v7)
     replace e0 := e0.trans (Dn.dx dy)
     replace f_v6 := f_v6.dn dy
     clear dy lo
     simp only [Act.put, tA, tS, tZ]
     refine wpX_one 11 (by kernel_rfl) ?_
     refine x1_call rfl (by rfl) (fun u => by go_simp) e0 fun x0 dx ex => (C2.out x0 (hm.dn (HD.out.of_dx ex hbl))).mono ?_
     rintro e y0 ⟨m1, rfl, om1, up, d'⟩
     refine ⟨d', _, rfl, ?_⟩
     replace e0 := ex.trans (Dn.dx d')
     replace f_v6 := (f_v6.dn dx).dn d'
     replace f_v7 := (f_v7.dn dx).dn d'
     have hl1 := om1.out.len
     have hc1 := Lib.hid up.out.core
     have oo := Lib.hid om1.out
     clear dx ex d'
     simp only [Act.put, tA, tS, tZ]
     refine wpX_pick2 (by kernel_rfl) e0 [12, 13, 14] 2 rfl (by kernel_rfl) ?_
     simp only [pickL, List.drop_succ_cons, List.drop_zero, List.take_succ_cons, List.take_zero, List.cons_append, List.nil_append]
     refine ⟨?_, ?_, ?_⟩
     rotate_left 1
     refine ⟨_, calx_pure (by rfl) (fun u => by go_simp; rfl), ?_⟩
     simp only [Act.put, tA, tS, tZ]
     refine ⟨_, calx_pure (by rfl) (fun u => by go_simp; rfl), ?_⟩
     simp only [Act.put, tA, tS, tZ]
     refine ⟨_, calx_pure (by rfl) (fun u => by go_simp; rfl), ?_⟩
     simp only [Act.put, tA, tS, tZ]
     exact rfl
     refine wpX_one 17 (by kernel_rfl) ?_
     refine x1_store 0 (vs := (mach m1)) rfl f_v6 (.inr lo_v6) (info_mach hl1) (by rw [mach_size hl1, mach_size zlen]; omega) (mach_one _) rfl rfl e0 fun u1 y1 du1 t1 e1 g1 => ?_
     rw [lay_all (mach Mc.zero) (mach m1) (by rw [mach_size hl1, mach_size zlen])] at g1
     replace f_v7 := (f_v7.dn du1).trn t1 n_v6_v7.out.symm
     replace oo := Lib.hid ((oo.out.dn du1).trn (f_v6.dn du1) (NoU8.mach _) t1)
     clear f_v6 e0
     have f_v6 := g1
     have e0 := e1
     clear g1 t1 du1 e1
     refine wpX_one 18 (by kernel_rfl) ?_
     refine x1_store 0 (vs := #[.int .i64 0, .int .u32 0]) rfl f_v7 (.inr lo_v7) infoTrap (by simp) (by simp [Value.oneCell']) rfl rfl e0 fun u1 y1 du1 t1 e1 g1 => ?_
     rw [lay_all #[.int .i64 0, .int .u32 0] #[.int .i64 0, .int .u32 0] rfl] at g1
     replace f_v6 := (f_v6.dn du1).trn t1 n_v6_v7.out
     replace oo := Lib.hid ((oo.out.dn du1).trn (f_v7.dn du1) (NoU8.trap _ _) t1)
     clear f_v7 e0
     have f_v7 := g1
     have e0 := e1
     clear g1 t1 du1 e1
   rotate_left 1
 rotate_left 2
 focus
   refine x1_alloc rfl zeroTrap e0 fun b_v7 y1 dy lo f_v7 => ?_
   have n_g_v7 := Lib.hid (Nat.ne_of_lt (Nat.lt_of_lt_of_le g.lt (Nat.le_trans e0.size lo)))
   have n_v4_v7 := Lib.hid (Nat.ne_of_lt (Nat.lt_of_lt_of_le v4.lt (Nat.le_trans e0.size lo)))
   have n_v5_v7 := Lib.hid (Nat.ne_of_lt (Nat.lt_of_lt_of_le v5.lt (Nat.le_trans e0.size lo)))
   have lo_v7 := Nat.le_trans e0.size lo
   have HL_v7 : Hid (W.heap.size ≤ b_v7) := Lib.hid (Nat.le_trans HD.out.size lo_v7)
   replace e0 := e0.trans (Dn.dx dy)
   clear dy lo
   simp only [Act.put, tA, tS, tZ]
   refine wpX_two 11 15 (by kernel_rfl) ?_ ?_
   focus
     refine x1_call rfl (by rfl) (fun u => by go_simp) e0 fun x0 dx ex => (C2.out x0 (hm.dn (HD.out.of_dx ex hbl))).mono ?_
     rintro e y0 ⟨m1, rfl, om1, up, d'⟩
     refine ⟨d', _, rfl, ?_⟩
     replace e0 := ex.trans (Dn.dx d')
     replace f_v7 := (f_v7.dn dx).dn d'
     have hl1 := om1.out.len
     have hc1 := Lib.hid up.out.core
     have oo := Lib.hid om1.out
     clear dx ex d'
     simp only [Act.put, tA, tS, tZ]
     refine wpX_pick2 (by kernel_rfl) e0 [12, 13, 14] 3 rfl (by kernel_rfl) ?_
     simp only [pickL, List.drop_succ_cons, List.drop_zero, List.take_succ_cons, List.take_zero, List.cons_append, List.nil_append]
     refine ⟨?_, ?_, ?_⟩
     rotate_left 1
     refine ⟨_, calx_pure (by rfl) (fun u => by go_simp; rfl), ?_⟩
     simp only [Act.put, tA, tS, tZ]
     refine ⟨_, calx_pure (by rfl) (fun u => by go_simp; rfl), ?_⟩
     simp only [Act.put, tA, tS, tZ]
     refine ⟨_, calx_pure (by rfl) (fun u => by go_simp; rfl), ?_⟩
     simp only [Act.put, tA, tS, tZ]
     exact rfl
     refine wpX_one 15 (by kernel_rfl) ?_
     refine x1_alloc rfl zeroMach e0 fun b_v6 y1 dy lo f_v6 => ?_
     have n_g_v6 := Lib.hid (Nat.ne_of_lt (Nat.lt_of_lt_of_le g.lt (Nat.le_trans e0.size lo)))
     have n_v4_v6 := Lib.hid (Nat.ne_of_lt (Nat.lt_of_lt_of_le v4.lt (Nat.le_trans e0.size lo)))
     have n_v5_v6 := Lib.hid (Nat.ne_of_lt (Nat.lt_of_lt_of_le v5.lt (Nat.le_trans e0.size lo)))
     have n_v6_v7 := Lib.hid (Ne.symm (Nat.ne_of_lt (Nat.lt_of_lt_of_le f_v7.lt lo)))
     have lo_v6 := Nat.le_trans e0.size lo
     have HL_v6 : Hid (W.heap.size ≤ b_v6) := Lib.hid (Nat.le_trans HD.out.size lo_v6)
     replace e0 := e0.trans (Dn.dx dy)
     replace f_v7 := f_v7.dn dy
     replace oo := Lib.hid (oo.out.dn dy)
     clear dy lo
     simp only [Act.put, tA, tS, tZ]
     refine wpX_one 17 (by kernel_rfl) ?_
     refine x1_store 0 (vs := (mach m1)) rfl f_v6 (.inr lo_v6) (info_mach hl1) (by rw [mach_size hl1, mach_size zlen]; omega) (mach_one _) rfl rfl e0 fun u1 y1 du1 t1 e1 g1 => ?_
     rw [lay_all (mach Mc.zero) (mach m1) (by rw [mach_size hl1, mach_size zlen])] at g1
     replace f_v7 := (f_v7.dn du1).trn t1 n_v6_v7.out.symm
     replace oo := Lib.hid ((oo.out.dn du1).trn (f_v6.dn du1) (NoU8.mach _) t1)
     clear f_v6 e0
     have f_v6 := g1
     have e0 := e1
     clear g1 t1 du1 e1
     refine wpX_one 18 (by kernel_rfl) ?_
     refine x1_store 0 (vs := #[.int .i64 0, .int .u32 0]) rfl f_v7 (.inr lo_v7) infoTrap (by simp) (by simp [Value.oneCell']) rfl rfl e0 fun u1 y1 du1 t1 e1 g1 => ?_
     rw [lay_all #[.int .i64 0, .int .u32 0] #[.int .i64 0, .int .u32 0] rfl] at g1
     replace f_v6 := (f_v6.dn du1).trn t1 n_v6_v7.out
     replace oo := Lib.hid ((oo.out.dn du1).trn (f_v7.dn du1) (NoU8.trap _ _) t1)
     clear f_v7 e0
     have f_v7 := g1
     have e0 := e1
     clear g1 t1 du1 e1
   rotate_left 1
   focus
     refine x1_alloc rfl zeroMach e0 fun b_v6 y1 dy lo f_v6 => ?_
     have n_g_v6 := Lib.hid (Nat.ne_of_lt (Nat.lt_of_lt_of_le g.lt (Nat.le_trans e0.size lo)))
     have n_v4_v6 := Lib.hid (Nat.ne_of_lt (Nat.lt_of_lt_of_le v4.lt (Nat.le_trans e0.size lo)))
     have n_v5_v6 := Lib.hid (Nat.ne_of_lt (Nat.lt_of_lt_of_le v5.lt (Nat.le_trans e0.size lo)))
     have n_v6_v7 := Lib.hid (Ne.symm (Nat.ne_of_lt (Nat.lt_of_lt_of_le f_v7.lt lo)))
     have lo_v6 := Nat.le_trans e0.size lo
     have HL_v6 : Hid (W.heap.size ≤ b_v6) := Lib.hid (Nat.le_trans HD.out.size lo_v6)
     replace e0 := e0.trans (Dn.dx dy)
     replace f_v7 := f_v7.dn dy
     clear dy lo
     simp only [Act.put, tA, tS, tZ]
     refine wpX_one 11 (by kernel_rfl) ?_
     refine x1_call rfl (by rfl) (fun u => by go_simp) e0 fun x0 dx ex => (C2.out x0 (hm.dn (HD.out.of_dx ex hbl))).mono ?_
     rintro e y0 ⟨m1, rfl, om1, up, d'⟩
     refine ⟨d', _, rfl, ?_⟩
     replace e0 := ex.trans (Dn.dx d')
     replace f_v7 := (f_v7.dn dx).dn d'
     replace f_v6 := (f_v6.dn dx).dn d'
     have hl1 := om1.out.len
     have hc1 := Lib.hid up.out.core
     have oo := Lib.hid om1.out
     clear dx ex d'
     simp only [Act.put, tA, tS, tZ]
     refine wpX_pick2 (by kernel_rfl) e0 [12, 13, 14] 2 rfl (by kernel_rfl) ?_
     simp only [pickL, List.drop_succ_cons, List.drop_zero, List.take_succ_cons, List.take_zero, List.cons_append, List.nil_append]
     refine ⟨?_, ?_, ?_⟩
     rotate_left 1
     refine ⟨_, calx_pure (by rfl) (fun u => by go_simp; rfl), ?_⟩
     simp only [Act.put, tA, tS, tZ]
     refine ⟨_, calx_pure (by rfl) (fun u => by go_simp; rfl), ?_⟩
     simp only [Act.put, tA, tS, tZ]
     refine ⟨_, calx_pure (by rfl) (fun u => by go_simp; rfl), ?_⟩
     simp only [Act.put, tA, tS, tZ]
     exact rfl
     refine wpX_one 17 (by kernel_rfl) ?_
     refine x1_store 0 (vs := (mach m1)) rfl f_v6 (.inr lo_v6) (info_mach hl1) (by rw [mach_size hl1, mach_size zlen]; omega) (mach_one _) rfl rfl e0 fun u1 y1 du1 t1 e1 g1 => ?_
     rw [lay_all (mach Mc.zero) (mach m1) (by rw [mach_size hl1, mach_size zlen])] at g1
     replace f_v7 := (f_v7.dn du1).trn t1 n_v6_v7.out.symm
     replace oo := Lib.hid ((oo.out.dn du1).trn (f_v6.dn du1) (NoU8.mach _) t1)
     clear f_v6 e0
     have f_v6 := g1
     have e0 := e1
     clear g1 t1 du1 e1
     refine wpX_one 18 (by kernel_rfl) ?_
     refine x1_store 0 (vs := #[.int .i64 0, .int .u32 0]) rfl f_v7 (.inr lo_v7) infoTrap (by simp) (by simp [Value.oneCell']) rfl rfl e0 fun u1 y1 du1 t1 e1 g1 => ?_
     rw [lay_all #[.int .i64 0, .int .u32 0] #[.int .i64 0, .int .u32 0] rfl] at g1
     replace f_v6 := (f_v6.dn du1).trn t1 n_v6_v7.out
     replace oo := Lib.hid ((oo.out.dn du1).trn (f_v7.dn du1) (NoU8.trap _ _) t1)
     clear f_v7 e0
     have f_v7 := g1
     have e0 := e1
     clear g1 t1 du1 e1
   rotate_left 1
 rotate_left 2
 all_goals
   refine wpX_end (by kernel_rfl) fun w' dx => NoPanic.normal ?_
   have D := e0.trans (Dn.dx dx)
   replace f_v6 := f_v6.dn dx
   replace f_v7 := f_v7.dn dx
   replace oo := Lib.hid (oo.out.dn dx)
   clear e0 dx
   replace g := g.dx D nx_g
   replace v4 := v4.dx D nx_v4
   replace v5 := v5.dx D nx_v5
   replace HD := Lib.hid (HD.out.of_dx D hbl)
   clear D hbs hbl nx_g nx_v4 nx_v5
   have v6 := f_v6
   clear f_v6
   have v7 := f_v7
   clear f_v7
   go_wp2_with (first | ((with_reducible refine loadTrap v7 ?_ ?_ ?_); rfl; rfl) | (go_at_call 160; (with_reducible refine (C3.out _).mono ?_); rintro e w' ⟨rfl, d'⟩; refine Hid.out ?_))
   refine Lib.hid ?_
   replace g := g.dn d'
   replace v4 := v4.dn d'
   replace v5 := v5.dn d'
   replace v6 := v6.dn d'
   replace v7 := v7.dn d'
   replace oo := Lib.hid (oo.out.dn d')
   replace HD := hT HD d'
   clear d'
   go_wp2_with (first | ((with_reducible refine loadCore v6 hl1 ?_ ?_ ?_); rfl; rfl) | (go_at_call 134; (with_reducible refine (C4.out _ m1.c hc1.out).mono ?_); rintro e w' ⟨rfl, d'⟩; refine Hid.out ?_))
   refine Lib.hid ?_
   replace g := g.dn d'
   replace v4 := v4.dn d'
   replace v5 := v5.dn d'
   replace v6 := v6.dn d'
   replace v7 := v7.dn d'
   replace oo := Lib.hid (oo.out.dn d')
   replace HD := hT HD d'
   clear d'
   go_wp2_with (first | ((with_reducible refine storeCore c2 l2 v6 hl1 ?_ ?_ ?_ ?_); rfl; rfl; rfl; intro w' r' t'; refine Hid.out ?_))
   refine Lib.hid ?_
   replace oo := Lib.hid (oo.out.trn v6 (NoU8.mach _) t')
   replace g := g.trn t' n_g_v6.out
   replace v4 := v4.trn t' n_v4_v6.out
   replace v5 := v5.trn t' n_v5_v6.out
   replace v7 := v7.trn t' n_v6_v7.out.symm
   obtain ⟨m2, hm2⟩ : ∃ m2 : Mc, m2 = { m1 with c := c2 } := ⟨_, rfl⟩
   rw [← hm2] at r'
   have hl2 : m2.c.length = 29 := by rw [hm2]; exact l2
   replace oo : Hid (m2.Ok w') := Lib.hid (by rw [hm2]; exact ⟨k2, oo.out.mem, oo.out.out, oo.out.t0, oo.out.t1⟩)
   replace up : Hid (Mc.Up { m with c := c2 } zs m2) := Lib.hid (by obtain ⟨A, k, h⟩ := up.out; rw [hm2, h]; exact ⟨A, k, rfl⟩)
   clear hm2
   replace HD := Lib.hid (HD.out.trn HL_v6.out t')
   clear t' v6
   have v6 := r'
   clear r'
   go_wp2_with fail
   have nx_g : b_g ∉ [b_v4, b_v5] := (by simp only [List.mem_cons, List.not_mem_nil, or_false, not_or]; exact ⟨n_g_v4.out, n_g_v5.out⟩)
   have nx_v6 : b_v6 ∉ [b_v4, b_v5] := (by simp only [List.mem_cons, List.not_mem_nil, or_false, not_or]; exact ⟨n_v4_v6.out.symm, n_v5_v6.out.symm⟩)
   have nx_v7 : b_v7 ∉ [b_v4, b_v5] := (by simp only [List.mem_cons, List.not_mem_nil, or_false, not_or]; exact ⟨n_v4_v7.out.symm, n_v5_v7.out.symm⟩)
   have hbs : ∀ b ∈ [b_v4, b_v5], ∃ t cs, Blk w' b t cs ∧ NoU8 cs := by
     intro b hb
     simp only [List.mem_cons, List.not_mem_nil, or_false] at hb
     rcases hb with rfl | rfl
     · exact ⟨_, _, v4, (NoU8.mach _)⟩
     · exact ⟨_, _, v5, (NoU8.trap _ _)⟩
   have hbl : ∀ b ∈ [b_v4, b_v5], W.heap.size ≤ b := by
     intro b hb
     simp only [List.mem_cons, List.not_mem_nil, or_false] at hb
     rcases hb with rfl | rfl
     · exact HL_v4.out
     · exact HL_v5.out
   refine wp_region_picks [b_v4, b_v5] [0, 1] 2 (by kernel_rfl) (by kernel_rfl) rfl (by kernel_rfl) ?_
   simp only [pickL, List.drop_succ_cons, List.drop_zero, List.take_succ_cons, List.take_zero, List.cons_append, List.nil_append]
   refine ⟨?_, ?_, ?_⟩
   rotate_left 1
   refine ⟨_, calx33 v6 hl2 nx_v6 (by rfl) rfl, ?_⟩
   simp only [Act.put, tA, tS, tZ]
   refine ⟨_, calxTrap v7 nx_v7 (by rfl) rfl, ?_⟩
   simp only [Act.put, tA, tS, tZ]
   exact rfl
   have e0 : Dx [b_v4, b_v5] w' w'.drew := Dn.dx (Dn.drawn _)
   have f_v4 := v4.dn (Dn.drawn w')
   have f_v5 := v5.dn (Dn.drawn w')
   refine wpX_one 2 (by kernel_rfl) ?_
   refine x1_store 0 (vs := (mach m2)) rfl f_v4 (.inl (by simp)) (info_mach hl2) (by rw [mach_size hl2, mach_size zlen]; omega) (mach_one _) rfl rfl e0 fun u1 y1 du1 t1 e1 g1 => ?_
   rw [lay_all (mach Mc.zero) (mach m2) (by rw [mach_size hl2, mach_size zlen])] at g1
   replace f_v5 := (f_v5.dn du1).trn t1 n_v4_v5.out.symm
   clear f_v4 e0
   have f_v4 := g1
   have e0 := e1
   clear g1 t1 du1 e1
   refine wpX_one 3 (by kernel_rfl) ?_
   refine x1_store 0 (vs := #[.int .i64 0, .int .u32 0]) rfl f_v5 (.inl (by simp)) infoTrap (by simp) (by simp [Value.oneCell']) rfl rfl e0 fun u1 y1 du1 t1 e1 g1 => ?_
   rw [lay_all #[.int .i64 0, .int .u32 0] #[.int .i64 0, .int .u32 0] rfl] at g1
   replace f_v4 := (f_v4.dn du1).trn t1 n_v4_v5.out
   clear f_v5 e0
   have f_v5 := g1
   have e0 := e1
   clear g1 t1 du1 e1
   refine wpX_end (by kernel_rfl) fun w' dx => NoPanic.normal ?_
   have D := e0.trans (Dn.dx dx)
   replace f_v4 := f_v4.dn dx
   replace f_v5 := f_v5.dn dx
   clear e0 dx
   replace g := g.dx D nx_g
   replace v6 := v6.dx D nx_v6
   replace v7 := v7.dx D nx_v7
   replace oo := Lib.hid (oo.out.dx D hbs)
   replace HD := Lib.hid (HD.out.of_dx D hbl)
   clear v4 v5 D hbs hbl nx_g nx_v6 nx_v7
   have v4 := f_v4
   clear f_v4
   have v5 := f_v5
   clear f_v5
   go_wp2_with fail
   exact retMT rfl rfl rfl v4 hl2 v5 ⟨m2, rfl, oo, up, HD.out⟩ rfl

set_option maxRecDepth 100000 in
set_option maxHeartbeats 2000000 in
theorem xStoreNo (m : Mc) (op rd ra rb imm x y z : Int) (b_g : Nat) (W : World) (g : Blk W b_g 127 (prg m op rd ra rb imm x y z)) (hm : m.Ok W) (i0 : -2147483648 ≤ imm) (i1 : imm < 2147483648) (x0 : 0 ≤ x) (x1 : x < 4294967296) (z0 : 0 ≤ z) (z1 : z < 4294967296) (n : Int) (n0 : 1 ≤ n) (n1 : n ≤ 4) (hs : m.xs.length ≤ 100000) (s : Int) (s0 : 0 ≤ s) (s1 : s < 4294967296) (hsum : Hid ((x + M.iw imm) % 4294967296 = s)) (k v : Int) (hk : M.acz m.c m.xs.length s n = k) (hv : M.atv m.c m.xs.length s n = v) (hn : k ≠ 0) :
   Calls Tryz.prog 146 #[.pointer (some ⟨b_g, 0, none⟩), .int .i64 n] W fun e W' => e = .returned (.tuple #[.agg (mach m), .agg #[.int .i64 k, .int .u32 v]]) ∧ Dn W W' := by
 have hl := hm.len
 obtain ⟨zs, hz⟩ : ∃ zs, M.asv m.c m.xs s n z = zs := ⟨_, rfl⟩
 have C1 := Lib.hid fun w => fun (gw : Blk w b_g 127 (prg m op rd ra rb imm x y z)) (ow : m.Ok w) => xSum m op rd ra rb imm x y z b_g w gw ow i0 i1 x0 x1 s hsum
 have C2 := Lib.hid fun w => fun (ow : m.Ok w) => fstore m s n z w ow hs s0 s1 n0 n1 z0 z1 zs k v hz hk hv
 have C3 := Lib.hid (xTrapped k v true · (by simp [hn]))
 clear hk hv hz hsum hn
 have HD := Lib.hid (Dn.refl W)
 go_enter Tryz.func146, Tryz.ntmps146
 go_wp2_with (first | ((with_reducible refine wpList_alloc zeroMach ?_ ?_); rfl; intro b_v4 w' nn; refine Hid.out ?_))
 refine Lib.hid ?_
 have n_g_v4 := Lib.hid (nn.ne _ g.lt)
 have HL_v4 : Hid (W.heap.size ≤ b_v4) := Lib.hid (Blk.hi nn HD.out.size)
 have d' := nn.dn
 replace g := g.dn d'
 replace HD := hT HD d'
 have v4 := nn.blk
 clear d' nn
 go_wp2_with (first | ((with_reducible refine wpList_alloc zeroTrap ?_ ?_); rfl; intro b_v5 w' nn; refine Hid.out ?_))
 refine Lib.hid ?_
 have n_g_v5 := Lib.hid (nn.ne _ g.lt)
 have n_v4_v5 := Lib.hid (nn.ne _ v4.lt)
 have HL_v5 : Hid (W.heap.size ≤ b_v5) := Lib.hid (Blk.hi nn HD.out.size)
 have d' := nn.dn
 replace g := g.dn d'
 replace v4 := v4.dn d'
 replace HD := hT HD d'
 have v5 := nn.blk
 clear d' nn
 go_wp2_with fail
 have nx_g : b_g ∉ [] := (by simp)
 have nx_v4 : b_v4 ∉ [] := (by simp)
 have nx_v5 : b_v5 ∉ [] := (by simp)
 have hbs : ∀ b ∈ ([] : List Nat), ∃ t cs, Blk w' b t cs ∧ NoU8 cs := fun b hb => absurd hb (by simp)
 have hbl : ∀ b ∈ ([] : List Nat), W.heap.size ≤ b := fun b hb => absurd hb (by simp)
 refine wp_region_picks [] [0, 1, 2, 3, 4, 5, 6, 7, 8, 9, 10] 8 (by kernel_rfl) (by kernel_rfl) rfl (by kernel_rfl) ?_
 simp only [pickL, List.drop_succ_cons, List.drop_zero, List.take_succ_cons, List.take_zero, List.cons_append, List.nil_append]
 refine ⟨?_, ?_, ?_⟩
 rotate_left 1
 refine ⟨_, calx_pure (by rfl) (fun u => by go_simp; rfl), ?_⟩
 simp only [Act.put, tA, tS, tZ]
 refine ⟨_, calx_pure (by rfl) (fun u => by go_simp; rfl), ?_⟩
 simp only [Act.put, tA, tS, tZ]
 refine ⟨_, calx_pure (by rfl) (fun u => by go_simp; rfl), ?_⟩
 simp only [Act.put, tA, tS, tZ]
 refine ⟨_, calxPm g hl nx_g (by rfl) rfl, ?_⟩
 simp only [Act.put, tA, tS, tZ]
 refine ⟨_, calx_pure (by rfl) (fun u => by go_simp; rfl), ?_⟩
 simp only [Act.put, tA, tS, tZ]
 refine ⟨_, calx_call (fun u du => C1.out u (g.dx du nx_g) (hm.dn (HD.out.of_dx du hbl))) (by rfl) (fun u => by go_simp), ?_⟩
 simp only [Act.put, tA, tS, tZ]
 refine ⟨_, calx_pure (by rfl) (fun u => by go_simp; rfl), ?_⟩
 simp only [Act.put, tA, tS, tZ]
 refine ⟨_, calx_pure (by rfl) (fun u => by go_simp; rfl), ?_⟩
 simp only [Act.put, tA, tS, tZ]
 refine ⟨_, calx_pure (by rfl) (fun u => by go_simp; rfl), ?_⟩
 simp only [Act.put, tA, tS, tZ]
 refine ⟨_, calx_pure (by rfl) (fun u => by go_simp; rfl), ?_⟩
 simp only [Act.put, tA, tS, tZ]
 refine ⟨_, calxInt (v := .int .u32 z) g nx_g Tryz.underlying22 (by rfl) rfl (prg_tail hl (i := 7) (by decide)), ?_⟩
 simp only [Act.put, tA, tS, tZ]
 exact rfl
 have e0 : Dx [] w' w'.drew := Dn.dx (Dn.drawn _)
 refine wpX_three 11 15 16 (by kernel_rfl) ?_ ?_ ?_
 focus
   refine x1_call rfl (by rfl) (fun u => by go_simp) e0 fun x0 dx ex => (C2.out x0 (hm.dn (HD.out.of_dx ex hbl))).mono ?_
   rintro e y0 ⟨m1, rfl, om1, up, d'⟩
   refine ⟨d', _, rfl, ?_⟩
   replace e0 := ex.trans (Dn.dx d')
   have hl1 := om1.out.len
   clear up om1
   clear dx ex d'
   simp only [Act.put, tA, tS, tZ]
   refine wpX_pick2 (by kernel_rfl) e0 [12, 13, 14] 4 rfl (by kernel_rfl) ?_
   simp only [pickL, List.drop_succ_cons, List.drop_zero, List.take_succ_cons, List.take_zero, List.cons_append, List.nil_append]
   refine ⟨?_, ?_, ?_⟩
   rotate_left 1
   refine ⟨_, calx_pure (by rfl) (fun u => by go_simp; rfl), ?_⟩
   simp only [Act.put, tA, tS, tZ]
   refine ⟨_, calx_pure (by rfl) (fun u => by go_simp; rfl), ?_⟩
   simp only [Act.put, tA, tS, tZ]
   refine ⟨_, calx_pure (by rfl) (fun u => by go_simp; rfl), ?_⟩
   simp only [Act.put, tA, tS, tZ]
   exact rfl
   refine wpX_two 15 16 (by kernel_rfl) ?_ ?_
   focus
     refine x1_alloc rfl zeroMach e0 fun b_v6 y1 dy lo f_v6 => ?_
     have n_g_v6 := Lib.hid (Nat.ne_of_lt (Nat.lt_of_lt_of_le g.lt (Nat.le_trans e0.size lo)))
     have n_v4_v6 := Lib.hid (Nat.ne_of_lt (Nat.lt_of_lt_of_le v4.lt (Nat.le_trans e0.size lo)))
     have n_v5_v6 := Lib.hid (Nat.ne_of_lt (Nat.lt_of_lt_of_le v5.lt (Nat.le_trans e0.size lo)))
     have lo_v6 := Nat.le_trans e0.size lo
     have HL_v6 : Hid (W.heap.size ≤ b_v6) := Lib.hid (Nat.le_trans HD.out.size lo_v6)
     replace e0 := e0.trans (Dn.dx dy)
     clear dy lo
     simp only [Act.put, tA, tS, tZ]
     refine wpX_one 16 (by kernel_rfl) ?_
     refine x1_alloc rfl zeroTrap e0 fun b_v7 y1 dy lo f_v7 => ?_
     have n_g_v7 := Lib.hid (Nat.ne_of_lt (Nat.lt_of_lt_of_le g.lt (Nat.le_trans e0.size lo)))
     have n_v4_v7 := Lib.hid (Nat.ne_of_lt (Nat.lt_of_lt_of_le v4.lt (Nat.le_trans e0.size lo)))
     have n_v5_v7 := Lib.hid (Nat.ne_of_lt (Nat.lt_of_lt_of_le v5.lt (Nat.le_trans e0.size lo)))
     have n_v6_v7 := Lib.hid (Nat.ne_of_lt (Nat.lt_of_lt_of_le f_v6.lt lo))
     have lo_v7 := Nat.le_trans e0.size lo
     have HL_v7 : Hid (W.heap.size ≤ b_v7) := Lib.hid (Nat.le_trans HD.out.size lo_v7)
     replace e0 := e0.trans (Dn.dx dy)
     replace f_v6 := f_v6.dn dy
     clear dy lo
     simp only [Act.put, tA, tS, tZ]
     refine wpX_one 17 (by kernel_rfl) ?_
     refine x1_store 0 (vs := (mach m1)) rfl f_v6 (.inr lo_v6) (info_mach hl1) (by rw [mach_size hl1, mach_size zlen]; omega) (mach_one _) rfl rfl e0 fun u1 y1 du1 t1 e1 g1 => ?_
     rw [lay_all (mach Mc.zero) (mach m1) (by rw [mach_size hl1, mach_size zlen])] at g1
     replace f_v7 := (f_v7.dn du1).trn t1 n_v6_v7.out.symm
     clear f_v6 e0
     have f_v6 := g1
     have e0 := e1
     clear g1 t1 du1 e1
     refine wpX_one 18 (by kernel_rfl) ?_
     refine x1_store 0 (vs := #[.int .i64 k, .int .u32 v]) rfl f_v7 (.inr lo_v7) infoTrap (by simp) (by simp [Value.oneCell']) rfl rfl e0 fun u1 y1 du1 t1 e1 g1 => ?_
     rw [lay_all #[.int .i64 0, .int .u32 0] #[.int .i64 k, .int .u32 v] rfl] at g1
     replace f_v6 := (f_v6.dn du1).trn t1 n_v6_v7.out
     clear f_v7 e0
     have f_v7 := g1
     have e0 := e1
     clear g1 t1 du1 e1
   rotate_left 1
   focus
     refine x1_alloc rfl zeroTrap e0 fun b_v7 y1 dy lo f_v7 => ?_
     have n_g_v7 := Lib.hid (Nat.ne_of_lt (Nat.lt_of_lt_of_le g.lt (Nat.le_trans e0.size lo)))
     have n_v4_v7 := Lib.hid (Nat.ne_of_lt (Nat.lt_of_lt_of_le v4.lt (Nat.le_trans e0.size lo)))
     have n_v5_v7 := Lib.hid (Nat.ne_of_lt (Nat.lt_of_lt_of_le v5.lt (Nat.le_trans e0.size lo)))
     have lo_v7 := Nat.le_trans e0.size lo
     have HL_v7 : Hid (W.heap.size ≤ b_v7) := Lib.hid (Nat.le_trans HD.out.size lo_v7)
     replace e0 := e0.trans (Dn.dx dy)
     clear dy lo
     simp only [Act.put, tA, tS, tZ]
     refine wpX_one 15 (by kernel_rfl) ?_
     refine x1_alloc rfl zeroMach e0 fun b_v6 y1 dy lo f_v6 => ?_
     have n_g_v6 := Lib.hid (Nat.ne_of_lt (Nat.lt_of_lt_of_le g.lt (Nat.le_trans e0.size lo)))
     have n_v4_v6 := Lib.hid (Nat.ne_of_lt (Nat.lt_of_lt_of_le v4.lt (Nat.le_trans e0.size lo)))
     have n_v5_v6 := Lib.hid (Nat.ne_of_lt (Nat.lt_of_lt_of_le v5.lt (Nat.le_trans e0.size lo)))
     have n_v6_v7 := Lib.hid (Ne.symm (Nat.ne_of_lt (Nat.lt_of_lt_of_le f_v7.lt lo)))
     have lo_v6 := Nat.le_trans e0.size lo
     have HL_v6 : Hid (W.heap.size ≤ b_v6) := Lib.hid (Nat.le_trans HD.out.size lo_v6)
     replace e0 := e0.trans (Dn.dx dy)
     replace f_v7 := f_v7.dn dy
     clear dy lo
     simp only [Act.put, tA, tS, tZ]
     refine wpX_one 17 (by kernel_rfl) ?_
     refine x1_store 0 (vs := (mach m1)) rfl f_v6 (.inr lo_v6) (info_mach hl1) (by rw [mach_size hl1, mach_size zlen]; omega) (mach_one _) rfl rfl e0 fun u1 y1 du1 t1 e1 g1 => ?_
     rw [lay_all (mach Mc.zero) (mach m1) (by rw [mach_size hl1, mach_size zlen])] at g1
     replace f_v7 := (f_v7.dn du1).trn t1 n_v6_v7.out.symm
     clear f_v6 e0
     have f_v6 := g1
     have e0 := e1
     clear g1 t1 du1 e1
     refine wpX_one 18 (by kernel_rfl) ?_
     refine x1_store 0 (vs := #[.int .i64 k, .int .u32 v]) rfl f_v7 (.inr lo_v7) infoTrap (by simp) (by simp [Value.oneCell']) rfl rfl e0 fun u1 y1 du1 t1 e1 g1 => ?_
     rw [lay_all #[.int .i64 0, .int .u32 0] #[.int .i64 k, .int .u32 v] rfl] at g1
     replace f_v6 := (f_v6.dn du1).trn t1 n_v6_v7.out
     clear f_v7 e0
     have f_v7 := g1
     have e0 := e1
     clear g1 t1 du1 e1
   rotate_left 1
 rotate_left 2
 focus
   refine x1_alloc rfl zeroMach e0 fun b_v6 y1 dy lo f_v6 => ?_
   have n_g_v6 := Lib.hid (Nat.ne_of_lt (Nat.lt_of_lt_of_le g.lt (Nat.le_trans e0.size lo)))
   have n_v4_v6 := Lib.hid (Nat.ne_of_lt (Nat.lt_of_lt_of_le v4.lt (Nat.le_trans e0.size lo)))
   have n_v5_v6 := Lib.hid (Nat.ne_of_lt (Nat.lt_of_lt_of_le v5.lt (Nat.le_trans e0.size lo)))
   have lo_v6 := Nat.le_trans e0.size lo
   have HL_v6 : Hid (W.heap.size ≤ b_v6) := Lib.hid (Nat.le_trans HD.out.size lo_v6)
   replace e0 := e0.trans (Dn.dx dy)
   clear dy lo
   simp only [Act.put, tA, tS, tZ]
   refine wpX_two 11 16 (by kernel_rfl) ?_ ?_
   focus
     refine x1_call rfl (by rfl) (fun u => by go_simp) e0 fun x0 dx ex => (C2.out x0 (hm.dn (HD.out.of_dx ex hbl))).mono ?_
     rintro e y0 ⟨m1, rfl, om1, up, d'⟩
     refine ⟨d', _, rfl, ?_⟩
     replace e0 := ex.trans (Dn.dx d')
     replace f_v6 := (f_v6.dn dx).dn d'
     have hl1 := om1.out.len
     clear up om1
     clear dx ex d'
     simp only [Act.put, tA, tS, tZ]
     refine wpX_pick2 (by kernel_rfl) e0 [12, 13, 14] 3 rfl (by kernel_rfl) ?_
     simp only [pickL, List.drop_succ_cons, List.drop_zero, List.take_succ_cons, List.take_zero, List.cons_append, List.nil_append]
     refine ⟨?_, ?_, ?_⟩
     rotate_left 1
     refine ⟨_, calx_pure (by rfl) (fun u => by go_simp; rfl), ?_⟩
     simp only [Act.put, tA, tS, tZ]
     refine ⟨_, calx_pure (by rfl) (fun u => by go_simp; rfl), ?_⟩
     simp only [Act.put, tA, tS, tZ]
     refine ⟨_, calx_pure (by rfl) (fun u => by go_simp; rfl), ?_⟩
     simp only [Act.put, tA, tS, tZ]
     exact rfl
     refine wpX_one 16 (by kernel_rfl) ?_
     refine x1_alloc rfl zeroTrap e0 fun b_v7 y1 dy lo f_v7 => ?_
     have n_g_v7 := Lib.hid (Nat.ne_of_lt (Nat.lt_of_lt_of_le g.lt (Nat.le_trans e0.size lo)))
     have n_v4_v7 := Lib.hid (Nat.ne_of_lt (Nat.lt_of_lt_of_le v4.lt (Nat.le_trans e0.size lo)))
     have n_v5_v7 := Lib.hid (Nat.ne_of_lt (Nat.lt_of_lt_of_le v5.lt (Nat.le_trans e0.size lo)))
     have n_v6_v7 := Lib.hid (Nat.ne_of_lt (Nat.lt_of_lt_of_le f_v6.lt lo))
     have lo_v7 := Nat.le_trans e0.size lo
     have HL_v7 : Hid (W.heap.size ≤ b_v7) := Lib.hid (Nat.le_trans HD.out.size lo_v7)
     replace e0 := e0.trans (Dn.dx dy)
     replace f_v6 := f_v6.dn dy
     clear dy lo
     simp only [Act.put, tA, tS, tZ]
     refine wpX_one 17 (by kernel_rfl) ?_
     refine x1_store 0 (vs := (mach m1)) rfl f_v6 (.inr lo_v6) (info_mach hl1) (by rw [mach_size hl1, mach_size zlen]; omega) (mach_one _) rfl rfl e0 fun u1 y1 du1 t1 e1 g1 => ?_
     rw [lay_all (mach Mc.zero) (mach m1) (by rw [mach_size hl1, mach_size zlen])] at g1
     replace f_v7 := (f_v7.dn du1).trn t1 n_v6_v7.out.symm
     clear f_v6 e0
     have f_v6 := g1
     have e0 := e1
     clear g1 t1 du1 e1
     refine wpX_one 18 (by kernel_rfl) ?_
     refine x1_store 0 (vs := #[.int .i64 k, .int .u32 v]) rfl f_v7 (.inr lo_v7) infoTrap (by simp) (by simp [Value.oneCell']) rfl rfl e0 fun u1 y1 du1 t1 e1 g1 => ?_
     rw [lay_all #[.int .i64 0, .int .u32 0] #[.int .i64 k, .int .u32 v] rfl] at g1
     replace f_v6 := (f_v6.dn du1).trn t1 n_v6_v7.out
     clear f_v7 e0
     have f_v7 := g1
     have e0 := e1
     clear g1 t1 du1 e1
   rotate_left 1
   focus
     refine x1_alloc rfl zeroTrap e0 fun b_v7 y1 dy lo f_v7 => ?_
     have n_g_v7 := Lib.hid (Nat.ne_of_lt (Nat.lt_of_lt_of_le g.lt (Nat.le_trans e0.size lo)))
     have n_v4_v7 := Lib.hid (Nat.ne_of_lt (Nat.lt_of_lt_of_le v4.lt (Nat.le_trans e0.size lo)))
     have n_v5_v7 := Lib.hid (Nat.ne_of_lt (Nat.lt_of_lt_of_le v5.lt (Nat.le_trans e0.size lo)))
     have n_v6_v7 := Lib.hid (Nat.ne_of_lt (Nat.lt_of_lt_of_le f_v6.lt lo))
     have lo_v7 := Nat.le_trans e0.size lo
     have HL_v7 : Hid (W.heap.size ≤ b_v7) := Lib.hid (Nat.le_trans HD.out.size lo_v7)
     replace e0 := e0.trans (Dn.dx dy)
     replace f_v6 := f_v6.dn dy
     clear dy lo
     simp only [Act.put, tA, tS, tZ]
     refine wpX_one 11 (by kernel_rfl) ?_
     refine x1_call rfl (by rfl) (fun u => by go_simp) e0 fun x0 dx ex => (C2.out x0 (hm.dn (HD.out.of_dx ex hbl))).mono ?_
     rintro e y0 ⟨m1, rfl, om1, up, d'⟩
     refine ⟨d', _, rfl, ?_⟩
     replace e0 := ex.trans (Dn.dx d')
     replace f_v6 := (f_v6.dn dx).dn d'
     replace f_v7 := (f_v7.dn dx).dn d'
     have hl1 := om1.out.len
     clear up om1
     clear dx ex d'
     simp only [Act.put, tA, tS, tZ]
     refine wpX_pick2 (by kernel_rfl) e0 [12, 13, 14] 2 rfl (by kernel_rfl) ?_
     simp only [pickL, List.drop_succ_cons, List.drop_zero, List.take_succ_cons, List.take_zero, List.cons_append, List.nil_append]
     refine ⟨?_, ?_, ?_⟩
     rotate_left 1
     refine ⟨_, calx_pure (by rfl) (fun u => by go_simp; rfl), ?_⟩
     simp only [Act.put, tA, tS, tZ]
     refine ⟨_, calx_pure (by rfl) (fun u => by go_simp; rfl), ?_⟩
     simp only [Act.put, tA, tS, tZ]
     refine ⟨_, calx_pure (by rfl) (fun u => by go_simp; rfl), ?_⟩
     simp only [Act.put, tA, tS, tZ]
     exact rfl
     refine wpX_one 17 (by kernel_rfl) ?_
     refine x1_store 0 (vs := (mach m1)) rfl f_v6 (.inr lo_v6) (info_mach hl1) (by rw [mach_size hl1, mach_size zlen]; omega) (mach_one _) rfl rfl e0 fun u1 y1 du1 t1 e1 g1 => ?_
     rw [lay_all (mach Mc.zero) (mach m1) (by rw [mach_size hl1, mach_size zlen])] at g1
     replace f_v7 := (f_v7.dn du1).trn t1 n_v6_v7.out.symm
     clear f_v6 e0
     have f_v6 := g1
     have e0 := e1
     clear g1 t1 du1 e1
     refine wpX_one 18 (by kernel_rfl) ?_
     refine x1_store 0 (vs := #[.int .i64 k, .int .u32 v]) rfl f_v7 (.inr lo_v7) infoTrap (by simp) (by simp [Value.oneCell']) rfl rfl e0 fun u1 y1 du1 t1 e1 g1 => ?_
     rw [lay_all #[.int .i64 0, .int .u32 0] #[.int .i64 k, .int .u32 v] rfl] at g1
     replace f_v6 := (f_v6.dn du1).trn t1 n_v6_v7.out
     clear f_v7 e0
     have f_v7 := g1
     have e0 := e1
     clear g1 t1 du1 e1
   rotate_left 1
 rotate_left 2
 focus
   refine x1_alloc rfl zeroTrap e0 fun b_v7 y1 dy lo f_v7 => ?_
   have n_g_v7 := Lib.hid (Nat.ne_of_lt (Nat.lt_of_lt_of_le g.lt (Nat.le_trans e0.size lo)))
   have n_v4_v7 := Lib.hid (Nat.ne_of_lt (Nat.lt_of_lt_of_le v4.lt (Nat.le_trans e0.size lo)))
   have n_v5_v7 := Lib.hid (Nat.ne_of_lt (Nat.lt_of_lt_of_le v5.lt (Nat.le_trans e0.size lo)))
   have lo_v7 := Nat.le_trans e0.size lo
   have HL_v7 : Hid (W.heap.size ≤ b_v7) := Lib.hid (Nat.le_trans HD.out.size lo_v7)
   replace e0 := e0.trans (Dn.dx dy)
   clear dy lo
   simp only [Act.put, tA, tS, tZ]
   refine wpX_two 11 15 (by kernel_rfl) ?_ ?_
   focus
     refine x1_call rfl (by rfl) (fun u => by go_simp) e0 fun x0 dx ex => (C2.out x0 (hm.dn (HD.out.of_dx ex hbl))).mono ?_
     rintro e y0 ⟨m1, rfl, om1, up, d'⟩
     refine ⟨d', _, rfl, ?_⟩
     replace e0 := ex.trans (Dn.dx d')
     replace f_v7 := (f_v7.dn dx).dn d'
     have hl1 := om1.out.len
     clear up om1
     clear dx ex d'
     simp only [Act.put, tA, tS, tZ]
     refine wpX_pick2 (by kernel_rfl) e0 [12, 13, 14] 3 rfl (by kernel_rfl) ?_
     simp only [pickL, List.drop_succ_cons, List.drop_zero, List.take_succ_cons, List.take_zero, List.cons_append, List.nil_append]
     refine ⟨?_, ?_, ?_⟩
     rotate_left 1
     refine ⟨_, calx_pure (by rfl) (fun u => by go_simp; rfl), ?_⟩
     simp only [Act.put, tA, tS, tZ]
     refine ⟨_, calx_pure (by rfl) (fun u => by go_simp; rfl), ?_⟩
     simp only [Act.put, tA, tS, tZ]
     refine ⟨_, calx_pure (by rfl) (fun u => by go_simp; rfl), ?_⟩
     simp only [Act.put, tA, tS, tZ]
     exact rfl
     refine wpX_one 15 (by kernel_rfl) ?_
     refine x1_alloc rfl zeroMach e0 fun b_v6 y1 dy lo f_v6 => ?_
     have n_g_v6 := Lib.hid (Nat.ne_of_lt (Nat.lt_of_lt_of_le g.lt (Nat.le_trans e0.size lo)))
     have n_v4_v6 := Lib.hid (Nat.ne_of_lt (Nat.lt_of_lt_of_le v4.lt (Nat.le_trans e0.size lo)))
     have n_v5_v6 := Lib.hid (Nat.ne_of_lt (Nat.lt_of_lt_of_le v5.lt (Nat.le_trans e0.size lo)))
     have n_v6_v7 := Lib.hid (Ne.symm (Nat.ne_of_lt (Nat.lt_of_lt_of_le f_v7.lt lo)))
     have lo_v6 := Nat.le_trans e0.size lo
     have HL_v6 : Hid (W.heap.size ≤ b_v6) := Lib.hid (Nat.le_trans HD.out.size lo_v6)
     replace e0 := e0.trans (Dn.dx dy)
     replace f_v7 := f_v7.dn dy
     clear dy lo
     simp only [Act.put, tA, tS, tZ]
     refine wpX_one 17 (by kernel_rfl) ?_
     refine x1_store 0 (vs := (mach m1)) rfl f_v6 (.inr lo_v6) (info_mach hl1) (by rw [mach_size hl1, mach_size zlen]; omega) (mach_one _) rfl rfl e0 fun u1 y1 du1 t1 e1 g1 => ?_
     rw [lay_all (mach Mc.zero) (mach m1) (by rw [mach_size hl1, mach_size zlen])] at g1
     replace f_v7 := (f_v7.dn du1).trn t1 n_v6_v7.out.symm
     clear f_v6 e0
     have f_v6 := g1
     have e0 := e1
     clear g1 t1 du1 e1
     refine wpX_one 18 (by kernel_rfl) ?_
     refine x1_store 0 (vs := #[.int .i64 k, .int .u32 v]) rfl f_v7 (.inr lo_v7) infoTrap (by simp) (by simp [Value.oneCell']) rfl rfl e0 fun u1 y1 du1 t1 e1 g1 => ?_
     rw [lay_all #[.int .i64 0, .int .u32 0] #[.int .i64 k, .int .u32 v] rfl] at g1
     replace f_v6 := (f_v6.dn du1).trn t1 n_v6_v7.out
     clear f_v7 e0
     have f_v7 := g1
     have e0 := e1
     clear g1 t1 du1 e1
   rotate_left 1
   focus
     refine x1_alloc rfl zeroMach e0 fun b_v6 y1 dy lo f_v6 => ?_
     have n_g_v6 := Lib.hid (Nat.ne_of_lt (Nat.lt_of_lt_of_le g.lt (Nat.le_trans e0.size lo)))
     have n_v4_v6 := Lib.hid (Nat.ne_of_lt (Nat.lt_of_lt_of_le v4.lt (Nat.le_trans e0.size lo)))
     have n_v5_v6 := Lib.hid (Nat.ne_of_lt (Nat.lt_of_lt_of_le v5.lt (Nat.le_trans e0.size lo)))
     have n_v6_v7 := Lib.hid (Ne.symm (Nat.ne_of_lt (Nat.lt_of_lt_of_le f_v7.lt lo)))
     have lo_v6 := Nat.le_trans e0.size lo
     have HL_v6 : Hid (W.heap.size ≤ b_v6) := Lib.hid (Nat.le_trans HD.out.size lo_v6)
     replace e0 := e0.trans (Dn.dx dy)
     replace f_v7 := f_v7.dn dy
     clear dy lo
     simp only [Act.put, tA, tS, tZ]
     refine wpX_one 11 (by kernel_rfl) ?_
     refine x1_call rfl (by rfl) (fun u => by go_simp) e0 fun x0 dx ex => (C2.out x0 (hm.dn (HD.out.of_dx ex hbl))).mono ?_
     rintro e y0 ⟨m1, rfl, om1, up, d'⟩
     refine ⟨d', _, rfl, ?_⟩
     replace e0 := ex.trans (Dn.dx d')
     replace f_v7 := (f_v7.dn dx).dn d'
     replace f_v6 := (f_v6.dn dx).dn d'
     have hl1 := om1.out.len
     clear up om1
     clear dx ex d'
     simp only [Act.put, tA, tS, tZ]
     refine wpX_pick2 (by kernel_rfl) e0 [12, 13, 14] 2 rfl (by kernel_rfl) ?_
     simp only [pickL, List.drop_succ_cons, List.drop_zero, List.take_succ_cons, List.take_zero, List.cons_append, List.nil_append]
     refine ⟨?_, ?_, ?_⟩
     rotate_left 1
     refine ⟨_, calx_pure (by rfl) (fun u => by go_simp; rfl), ?_⟩
     simp only [Act.put, tA, tS, tZ]
     refine ⟨_, calx_pure (by rfl) (fun u => by go_simp; rfl), ?_⟩
     simp only [Act.put, tA, tS, tZ]
     refine ⟨_, calx_pure (by rfl) (fun u => by go_simp; rfl), ?_⟩
     simp only [Act.put, tA, tS, tZ]
     exact rfl
     refine wpX_one 17 (by kernel_rfl) ?_
     refine x1_store 0 (vs := (mach m1)) rfl f_v6 (.inr lo_v6) (info_mach hl1) (by rw [mach_size hl1, mach_size zlen]; omega) (mach_one _) rfl rfl e0 fun u1 y1 du1 t1 e1 g1 => ?_
     rw [lay_all (mach Mc.zero) (mach m1) (by rw [mach_size hl1, mach_size zlen])] at g1
     replace f_v7 := (f_v7.dn du1).trn t1 n_v6_v7.out.symm
     clear f_v6 e0
     have f_v6 := g1
     have e0 := e1
     clear g1 t1 du1 e1
     refine wpX_one 18 (by kernel_rfl) ?_
     refine x1_store 0 (vs := #[.int .i64 k, .int .u32 v]) rfl f_v7 (.inr lo_v7) infoTrap (by simp) (by simp [Value.oneCell']) rfl rfl e0 fun u1 y1 du1 t1 e1 g1 => ?_
     rw [lay_all #[.int .i64 0, .int .u32 0] #[.int .i64 k, .int .u32 v] rfl] at g1
     replace f_v6 := (f_v6.dn du1).trn t1 n_v6_v7.out
     clear f_v7 e0
     have f_v7 := g1
     have e0 := e1
     clear g1 t1 du1 e1
   rotate_left 1
 rotate_left 2
 all_goals
   refine wpX_end (by kernel_rfl) fun w' dx => NoPanic.normal ?_
   have D := e0.trans (Dn.dx dx)
   replace f_v6 := f_v6.dn dx
   replace f_v7 := f_v7.dn dx
   clear e0 dx
   replace g := g.dx D nx_g
   replace v4 := v4.dx D nx_v4
   replace v5 := v5.dx D nx_v5
   replace HD := Lib.hid (HD.out.of_dx D hbl)
   clear D hbs hbl nx_g nx_v4 nx_v5
   have v6 := f_v6
   clear f_v6
   have v7 := f_v7
   clear f_v7
   go_wp2_with (first | ((with_reducible refine loadTrap v7 ?_ ?_ ?_); rfl; rfl) | (go_at_call 160; (with_reducible refine (C3.out _).mono ?_); rintro e w' ⟨rfl, d'⟩; refine Hid.out ?_))
   refine Lib.hid ?_
   replace g := g.dn d'
   replace v4 := v4.dn d'
   replace v5 := v5.dn d'
   replace v6 := v6.dn d'
   replace v7 := v7.dn d'
   replace HD := hT HD d'
   clear d'
   go_wp2_with fail
   have nx_g : b_g ∉ [b_v4, b_v5] := (by simp only [List.mem_cons, List.not_mem_nil, or_false, not_or]; exact ⟨n_g_v4.out, n_g_v5.out⟩)
   have nx_v6 : b_v6 ∉ [b_v4, b_v5] := (by simp only [List.mem_cons, List.not_mem_nil, or_false, not_or]; exact ⟨n_v4_v6.out.symm, n_v5_v6.out.symm⟩)
   have nx_v7 : b_v7 ∉ [b_v4, b_v5] := (by simp only [List.mem_cons, List.not_mem_nil, or_false, not_or]; exact ⟨n_v4_v7.out.symm, n_v5_v7.out.symm⟩)
   have hbs : ∀ b ∈ [b_v4, b_v5], ∃ t cs, Blk w' b t cs ∧ NoU8 cs := by
     intro b hb
     simp only [List.mem_cons, List.not_mem_nil, or_false] at hb
     rcases hb with rfl | rfl
     · exact ⟨_, _, v4, (NoU8.mach _)⟩
     · exact ⟨_, _, v5, (NoU8.trap _ _)⟩
   have hbl : ∀ b ∈ [b_v4, b_v5], W.heap.size ≤ b := by
     intro b hb
     simp only [List.mem_cons, List.not_mem_nil, or_false] at hb
     rcases hb with rfl | rfl
     · exact HL_v4.out
     · exact HL_v5.out
   refine wp_region_picks [b_v4, b_v5] [0, 1, 2, 3, 4] 2 (by kernel_rfl) (by kernel_rfl) rfl (by kernel_rfl) ?_
   simp only [pickL, List.drop_succ_cons, List.drop_zero, List.take_succ_cons, List.take_zero, List.cons_append, List.nil_append]
   refine ⟨?_, ?_, ?_⟩
   rotate_left 1
   refine ⟨_, calx_pure (by rfl) (fun u => by go_simp; rfl), ?_⟩
   simp only [Act.put, tA, tS, tZ]
   refine ⟨_, calx_pure (by rfl) (fun u => by go_simp; rfl), ?_⟩
   simp only [Act.put, tA, tS, tZ]
   refine ⟨_, calx_pure (by rfl) (fun u => by go_simp; rfl), ?_⟩
   simp only [Act.put, tA, tS, tZ]
   refine ⟨_, calxPm g hl nx_g (by rfl) rfl, ?_⟩
   simp only [Act.put, tA, tS, tZ]
   refine ⟨_, calxTrap v7 nx_v7 (by rfl) rfl, ?_⟩
   simp only [Act.put, tA, tS, tZ]
   exact rfl
   have e0 : Dx [b_v4, b_v5] w' w'.drew := Dn.dx (Dn.drawn _)
   have f_v4 := v4.dn (Dn.drawn w')
   have f_v5 := v5.dn (Dn.drawn w')
   refine wpX_one 5 (by kernel_rfl) ?_
   refine x1_store 0 (vs := (mach m)) rfl f_v4 (.inl (by simp)) (info_mach hl) (by rw [mach_size hl, mach_size zlen]; omega) (mach_one _) rfl rfl e0 fun u1 y1 du1 t1 e1 g1 => ?_
   rw [lay_all (mach Mc.zero) (mach m) (by rw [mach_size hl, mach_size zlen])] at g1
   replace f_v5 := (f_v5.dn du1).trn t1 n_v4_v5.out.symm
   clear f_v4 e0
   have f_v4 := g1
   have e0 := e1
   clear g1 t1 du1 e1
   refine wpX_one 6 (by kernel_rfl) ?_
   refine x1_store 0 (vs := #[.int .i64 k, .int .u32 v]) rfl f_v5 (.inl (by simp)) infoTrap (by simp) (by simp [Value.oneCell']) rfl rfl e0 fun u1 y1 du1 t1 e1 g1 => ?_
   rw [lay_all #[.int .i64 0, .int .u32 0] #[.int .i64 k, .int .u32 v] rfl] at g1
   replace f_v4 := (f_v4.dn du1).trn t1 n_v4_v5.out
   clear f_v5 e0
   have f_v5 := g1
   have e0 := e1
   clear g1 t1 du1 e1
   refine wpX_end (by kernel_rfl) fun w' dx => NoPanic.normal ?_
   have D := e0.trans (Dn.dx dx)
   replace f_v4 := f_v4.dn dx
   replace f_v5 := f_v5.dn dx
   clear e0 dx
   replace g := g.dx D nx_g
   replace v6 := v6.dx D nx_v6
   replace v7 := v7.dx D nx_v7
   replace HD := Lib.hid (HD.out.of_dx D hbl)
   clear v4 v5 D hbs hbl nx_g nx_v6 nx_v7
   have v4 := f_v4
   clear f_v4
   have v5 := f_v5
   clear f_v5
   go_wp2_with fail
   exact retMT rfl rfl rfl v4 hl v5 ⟨rfl, HD.out⟩ rfl

set_option maxRecDepth 100000 in
set_option maxHeartbeats 2000000 in
theorem xBranchYes (m : Mc) (op rd ra rb imm x y z : Int) (b_g : Nat) (W : World) (g : Blk W b_g 127 (prg m op rd ra rb imm x y z)) (hm : m.Ok W) (i0 : -2147483648 ≤ imm) (i1 : imm < 2147483648) (x0 : 0 ≤ x) (x1 : x < 4294967296) (z0 : 0 ≤ z) (z1 : z < 4294967296) (hb : M.tk op z x = true) (m' : Mc) (hm' : m' = { m with c := M.adv m.c (M.far imm) }) :
   Calls Tryz.prog 121 #[.pointer (some ⟨b_g, 0, none⟩)] W fun e W' => e = .returned (.tuple #[.agg (mach m'), .agg #[.int .i64 0, .int .u32 0]]) ∧ Dn W W' := by
 have hl := hm.len
 have hc := hm.core
 obtain ⟨c2, e2⟩ : ∃ c2, M.adv m.c (M.far imm) = c2 := ⟨_, rfl⟩
 have k2 : M.Core c2 := by rw [← e2]; exact hc.adv _
 rw [e2] at hm'
 have hl' : m'.c.length = 29 := by rw [hm']; exact k2.len
 have C1 := Lib.hid (branch_is op z x true ⟨z0, z1⟩ ⟨x0, x1⟩ hb)
 have C4 := Lib.hid fun w => fun (gw : Blk w b_g 127 (prg m op rd ra rb imm x y z)) (ow : m.Ok w) => xProceed m op rd ra rb imm x y z b_g w gw ow c2 m' k2.len hm'
 have hr := M.far_rng imm
 have C2 := Lib.hid fun w => fun (gw : Blk w b_g 127 (prg m op rd ra rb imm x y z)) (ow : m.Ok w) => xDist m op rd ra rb imm x y z b_g w gw ow i0 i1
 have C3 := Lib.hid fun w => xAdv m.c (M.far imm) c2 w hc hr.1 hr.2 e2
 generalize M.far imm = u at C2 C3 hr e2
 clear e2 hm' hb
 have D1 := Lib.hid fun w (d : Dn W w) => C1.out w
 have D2 := Lib.hid fun w (d : Dn W w) => C2.out w (g.dn d) (hm.dn d)
 have D3 := Lib.hid fun w (d : Dn W w) => C3.out w
 have D4 := Lib.hid fun w (d : Dn W w) => C4.out w (g.dn d) (hm.dn d)
 have R1 : Hid (Rg [] [0, 1, 2, 3, 4, 5, 6, 7, 8, 9, 10, 11, 12, 13] []) := Lib.hid trivial
 have R2 : Hid (Rg [0, 1] [0, 1, 2, 3, 4, 5, 6, 7, 8, 9, 10, 11] [[12], [13]]) := Lib.hid trivial
 have S : Hid (Sw W W []) := Lib.hid (Dn.refl W)
 go_enter Tryz.func121, Tryz.ntmps121
 exact Wr
set_option maxRecDepth 100000 in
set_option maxHeartbeats 2000000 in
theorem xBranchNo (m : Mc) (op rd ra rb imm x y z : Int) (b_g : Nat) (W : World) (g : Blk W b_g 127 (prg m op rd ra rb imm x y z)) (hm : m.Ok W) (i0 : -2147483648 ≤ imm) (i1 : imm < 2147483648) (x0 : 0 ≤ x) (x1 : x < 4294967296) (z0 : 0 ≤ z) (z1 : z < 4294967296) (hb : M.tk op z x = false) (m' : Mc) (hm' : m' = { m with c := M.adv m.c 4 }) :
   Calls Tryz.prog 121 #[.pointer (some ⟨b_g, 0, none⟩)] W fun e W' => e = .returned (.tuple #[.agg (mach m'), .agg #[.int .i64 0, .int .u32 0]]) ∧ Dn W W' := by
 have hl := hm.len
 have hc := hm.core
 obtain ⟨c2, e2⟩ : ∃ c2, M.adv m.c 4 = c2 := ⟨_, rfl⟩
 have k2 : M.Core c2 := by rw [← e2]; exact hc.adv _
 rw [e2] at hm'
 have hl' : m'.c.length = 29 := by rw [hm']; exact k2.len
 have C1 := Lib.hid (branch_is op z x false ⟨z0, z1⟩ ⟨x0, x1⟩ hb)
 have C4 := Lib.hid fun w => fun (gw : Blk w b_g 127 (prg m op rd ra rb imm x y z)) (ow : m.Ok w) => xProceed m op rd ra rb imm x y z b_g w gw ow c2 m' k2.len hm'
 have C3 := Lib.hid fun w => xAdv m.c 4 c2 w hc (by decide) (by decide) e2
 clear e2 hm' hb
 have D1 := Lib.hid fun w (d : Dn W w) => C1.out w
 have D2 := Lib.hid fun w (d : Dn W w) => C3.out w
 have D3 := Lib.hid fun w (d : Dn W w) => C4.out w (g.dn d) (hm.dn d)
 have R1 : Hid (Rg [] [0, 1, 2, 3, 4, 5, 6, 7, 8, 9, 10, 11, 12, 13] []) := Lib.hid trivial
 have S : Hid (Sw W W []) := Lib.hid (Dn.refl W)
 go_enter Tryz.func121, Tryz.ntmps121
 exact Wr
set_option maxRecDepth 100000 in
set_option maxHeartbeats 2000000 in
theorem xJump (m : Mc) (op rd ra rb imm x y z : Int) (b_g : Nat) (W : World) (g : Blk W b_g 127 (prg m op rd ra rb imm x y z)) (hm : m.Ok W) (i0 : -2147483648 ≤ imm) (i1 : imm < 2147483648) (m' : Mc) (hm' : m' = { m with c := M.adv (M.setreg m.c rd (M.nxt m.c)) (M.far imm) }) :
   Calls Tryz.prog 122 #[.pointer (some ⟨b_g, 0, none⟩)] W fun e W' => e = .returned (.tuple #[.agg (mach m'), .agg #[.int .i64 0, .int .u32 0]]) ∧ Dn W W' := by
 have hl := hm.len
 have hc := hm.core
 obtain ⟨c1, e1⟩ : ∃ c1, M.setreg m.c rd (M.nxt m.c) = c1 := ⟨_, rfl⟩
 obtain ⟨c2, e2⟩ : ∃ c2, M.adv c1 (M.far imm) = c2 := ⟨_, rfl⟩
 have k1 : M.Core c1 := by rw [← e1]; exact hc.setreg rd (M.nxt_rng _)
 have k2 : M.Core c2 := by rw [← e2]; exact k1.adv _
 rw [e1, e2] at hm'
 have hl' : m'.c.length = 29 := by rw [hm']; exact k2.len
 have hr := M.far_rng imm
 have C1 := Lib.hid fun w => fun (gw : Blk w b_g 127 (prg m op rd ra rb imm x y z)) (ow : m.Ok w) => xLinked m op rd ra rb imm x y z b_g w gw ow c1 k1 e1
 have C2 := Lib.hid fun w => fun (gw : Blk w b_g 127 (prg m op rd ra rb imm x y z)) (ow : m.Ok w) => xDist m op rd ra rb imm x y z b_g w gw ow i0 i1
 have C3 := Lib.hid fun w => xAdv c1 (M.far imm) c2 w k1 hr.1 hr.2 e2
 have C4 := Lib.hid fun w => fun (gw : Blk w b_g 127 (prg m op rd ra rb imm x y z)) (ow : m.Ok w) => xProceed m op rd ra rb imm x y z b_g w gw ow c2 m' k2.len hm'
 generalize M.far imm = u at C2 C3 hr e2
 clear e1 e2 hm'
 have D1 := Lib.hid fun w (d : Dn W w) => C1.out w (g.dn d) (hm.dn d)
 have D2 := Lib.hid fun w (d : Dn W w) => C2.out w (g.dn d) (hm.dn d)
 have D3 := Lib.hid fun w (d : Dn W w) => C3.out w
 have D4 := Lib.hid fun w (d : Dn W w) => C4.out w (g.dn d) (hm.dn d)
 have S : Hid (Sw W W []) := Lib.hid (Dn.refl W)
 go_enter Tryz.func122, Tryz.ntmps122
 exact Wr
set_option maxRecDepth 100000 in
set_option maxHeartbeats 2000000 in
theorem xJalr (m : Mc) (op rd ra rb imm x y z : Int) (b_g : Nat) (W : World) (g : Blk W b_g 127 (prg m op rd ra rb imm x y z)) (hm : m.Ok W) (i0 : -2147483648 ≤ imm) (i1 : imm < 2147483648) (x0 : 0 ≤ x) (x1 : x < 4294967296) (s : Int) (s0 : 0 ≤ s) (s1 : s < 4294967296) (hsum : Hid ((x + M.iw imm) % 4294967296 = s)) (m' : Mc) (hm' : m' = { m with c := (M.setreg m.c rd (M.nxt m.c)).set 16 s }) :
   Calls Tryz.prog 123 #[.pointer (some ⟨b_g, 0, none⟩)] W fun e W' => e = .returned (.tuple #[.agg (mach m'), .agg #[.int .i64 0, .int .u32 0]]) ∧ Dn W W' := by
 have hl := hm.len
 have hc := hm.core
 obtain ⟨c1, e1⟩ : ∃ c1, M.setreg m.c rd (M.nxt m.c) = c1 := ⟨_, rfl⟩
 obtain ⟨c2, e2⟩ : ∃ c2, c1.set 16 s = c2 := ⟨_, rfl⟩
 have k1 : M.Core c1 := by rw [← e1]; exact hc.setreg rd (M.nxt_rng _)
 have k2 : M.Core c2 := by rw [← e2]; exact k1.set _ _ s0 s1
 rw [e1, e2] at hm'
 have hl' : m'.c.length = 29 := by rw [hm']; exact k2.len
 have C1 := Lib.hid fun w => fun (gw : Blk w b_g 127 (prg m op rd ra rb imm x y z)) (ow : m.Ok w) => xLinked m op rd ra rb imm x y z b_g w gw ow c1 k1 e1
 have C2 := Lib.hid fun w => fun (gw : Blk w b_g 127 (prg m op rd ra rb imm x y z)) (ow : m.Ok w) => xSum m op rd ra rb imm x y z b_g w gw ow i0 i1 x0 x1 s hsum
 have C4 := Lib.hid fun w => fun (gw : Blk w b_g 127 (prg m op rd ra rb imm x y z)) (ow : m.Ok w) => xProceed m op rd ra rb imm x y z b_g w gw ow c2 m' k2.len hm'
 have HE := Lib.hid e2
 clear e1 e2 hm'
 have E1 := Lib.hid (HE.out)
 have D1 := Lib.hid fun w (d : Dn W w) => C1.out w (g.dn d) (hm.dn d)
 have D2 := Lib.hid fun w (d : Dn W w) => C2.out w (g.dn d) (hm.dn d)
 have D3 := Lib.hid fun w (d : Dn W w) => C4.out w (g.dn d) (hm.dn d)
 have S : Hid (Sw W W []) := Lib.hid (Dn.refl W)
 go_enter Tryz.func123, Tryz.ntmps123
 exact Wr
set_option maxRecDepth 100000 in
set_option maxHeartbeats 2000000 in
theorem xCall (m : Mc) (op rd ra rb imm x y z : Int) (b_g : Nat) (W : World) (g : Blk W b_g 127 (prg m op rd ra rb imm x y z)) (hm : m.Ok W) :
   Calls Tryz.prog 124 #[.pointer (some ⟨b_g, 0, none⟩)] W fun e W' => e = .returned (.tuple #[.agg (mach m), .agg #[.int .i64 5, .int .u32 0]]) ∧ Dn W W' := by
 have hl := hm.len
 have S : Hid (Sw W W []) := Lib.hid (Dn.refl W)
 go_enter Tryz.func124, Tryz.ntmps124
 exact Wr

set_option maxRecDepth 100000 in
set_option maxHeartbeats 2000000 in
theorem xLWOk (m : Mc) (op rd ra rb imm x y z : Int) (b_g : Nat) (W : World) (g : Blk W b_g 127 (prg m op rd ra rb imm x y z)) (hm : m.Ok W) (i0 : -2147483648 ≤ imm) (i1 : imm < 2147483648) (x0 : 0 ≤ x) (x1 : x < 4294967296) (hs : m.xs.length ≤ 100000) (s : Int) (s0 : 0 ≤ s) (s1 : s < 4294967296) (hsum : Hid ((x + M.iw imm) % 4294967296 = s)) (v : Int) (v0 : 0 ≤ v) (v1 : v < 4294967296) (hk : M.acz m.c m.xs.length s 4 = 0) (hv : M.alv m.c m.xs s 4 = v) (m' : Mc) (hm' : m' = { m with c := M.adv (M.setreg m.c rd v) 4 }) :
   Calls Tryz.prog 117 #[.pointer (some ⟨b_g, 0, none⟩)] W fun e W' => e = .returned (.tuple #[.agg (mach m'), .agg #[.int .i64 0, .int .u32 0]]) ∧ Dn W W' := by
 have hl := hm.len
 have hl' : m'.c.length = 29 := by rw [hm']; exact ((hm.core.setreg rd ⟨v0, v1⟩).adv 4).len
 have C1 := Lib.hid fun w => fun (gw : Blk w b_g 127 (prg m op rd ra rb imm x y z)) (ow : m.Ok w) => xLoadOk m op rd ra rb imm x y z b_g w gw ow i0 i1 x0 x1 4 (by decide) (by decide) hs s s0 s1 hsum v v0 v1 hk hv m' hm'
 clear hm' hk hv hsum
 have D1 := Lib.hid fun w (d : Dn W w) => C1.out w (g.dn d) (hm.dn d)
 have S : Hid (Sw W W []) := Lib.hid (Dn.refl W)
 go_enter Tryz.func117, Tryz.ntmps117
 exact Wr
set_option maxRecDepth 100000 in
set_option maxHeartbeats 2000000 in
theorem xLWNo (m : Mc) (op rd ra rb imm x y z : Int) (b_g : Nat) (W : World) (g : Blk W b_g 127 (prg m op rd ra rb imm x y z)) (hm : m.Ok W) (i0 : -2147483648 ≤ imm) (i1 : imm < 2147483648) (x0 : 0 ≤ x) (x1 : x < 4294967296) (hs : m.xs.length ≤ 100000) (s : Int) (s0 : 0 ≤ s) (s1 : s < 4294967296) (hsum : Hid ((x + M.iw imm) % 4294967296 = s)) (k v : Int) (hk : M.acz m.c m.xs.length s 4 = k) (hv : M.atv m.c m.xs.length s 4 = v) (hz : k ≠ 0) :
   Calls Tryz.prog 117 #[.pointer (some ⟨b_g, 0, none⟩)] W fun e W' => e = .returned (.tuple #[.agg (mach m), .agg #[.int .i64 k, .int .u32 v]]) ∧ Dn W W' := by
 have hl := hm.len
 have C1 := Lib.hid fun w => fun (gw : Blk w b_g 127 (prg m op rd ra rb imm x y z)) (ow : m.Ok w) => xLoadNo m op rd ra rb imm x y z b_g w gw ow i0 i1 x0 x1 4 (by decide) (by decide) hs s s0 s1 hsum k v hk hv hz
 clear hk hv hz hsum
 have D1 := Lib.hid fun w (d : Dn W w) => C1.out w (g.dn d) (hm.dn d)
 have S : Hid (Sw W W []) := Lib.hid (Dn.refl W)
 go_enter Tryz.func117, Tryz.ntmps117
 exact Wr
set_option maxRecDepth 100000 in
set_option maxHeartbeats 2000000 in
theorem xSWOk (m : Mc) (op rd ra rb imm x y z : Int) (b_g : Nat) (W : World) (g : Blk W b_g 127 (prg m op rd ra rb imm x y z)) (hm : m.Ok W) (i0 : -2147483648 ≤ imm) (i1 : imm < 2147483648) (x0 : 0 ≤ x) (x1 : x < 4294967296) (z0 : 0 ≤ z) (z1 : z < 4294967296) (hs : m.xs.length ≤ 100000) (s : Int) (s0 : 0 ≤ s) (s1 : s < 4294967296) (hsum : Hid ((x + M.iw imm) % 4294967296 = s)) (zs : List Int) (hk : M.acz m.c m.xs.length s 4 = 0) (hz : M.asv m.c m.xs s 4 z = zs) (c2 : List Int) (h2 : M.adv m.c 4 = c2) :
   Calls Tryz.prog 118 #[.pointer (some ⟨b_g, 0, none⟩)] W fun e W' => ExRet W m ⟨c2, zs, 0, 0⟩ e W' := by
 have hl := hm.len
 have C1 := Lib.hid fun w => fun (gw : Blk w b_g 127 (prg m op rd ra rb imm x y z)) (ow : m.Ok w) => xStoreOk m op rd ra rb imm x y z b_g w gw ow i0 i1 x0 x1 z0 z1 4 (by decide) (by decide) hs s s0 s1 hsum zs hk hz c2 h2
 clear hk hz h2 hsum
 have HD := Lib.hid (Dn.refl W)
 go_enter Tryz.func118, Tryz.ntmps118
 go_wp2_with (first | ((with_reducible refine wpList_alloc zeroMach ?_ ?_); rfl; intro b_v2 w' nn; refine Hid.out ?_))
 refine Lib.hid ?_
 have n_g_v2 := Lib.hid (nn.ne _ g.lt)
 have HL_v2 : Hid (W.heap.size ≤ b_v2) := Lib.hid (Blk.hi nn HD.out.size)
 have d' := nn.dn
 replace g := g.dn d'
 replace HD := hT HD d'
 have v2 := nn.blk
 clear d' nn
 go_wp2_with (first | ((with_reducible refine wpList_alloc zeroTrap ?_ ?_); rfl; intro b_v3 w' nn; refine Hid.out ?_))
 refine Lib.hid ?_
 have n_g_v3 := Lib.hid (nn.ne _ g.lt)
 have n_v2_v3 := Lib.hid (nn.ne _ v2.lt)
 have HL_v3 : Hid (W.heap.size ≤ b_v3) := Lib.hid (Blk.hi nn HD.out.size)
 have d' := nn.dn
 replace g := g.dn d'
 replace v2 := v2.dn d'
 replace HD := hT HD d'
 have v3 := nn.blk
 clear d' nn
 go_wp2_with (first | (go_at_call 146; (with_reducible refine (C1.out _ g (hm.dn HD.out)).mono ?_); rintro e w' ⟨m', rfl, oo', up, d'⟩; refine Hid.out ?_))
 refine Lib.hid ?_
 replace g := g.dn d'
 replace v2 := v2.dn d'
 replace v3 := v3.dn d'
 replace HD := hT HD d'
 clear d'
 have hl' := oo'.out.len
 have oo := Lib.hid oo'.out
 go_wp2_with (first | ((with_reducible refine store33 m' hl' v2 zlen ?_ ?_ ?_ ?_); rfl; rfl; rfl; intro w' r' t'; refine Hid.out ?_))
 refine Lib.hid ?_
 replace oo := Lib.hid (oo.out.trn v2 (NoU8.mach _) t')
 replace g := g.trn t' n_g_v2.out
 replace v3 := v3.trn t' n_v2_v3.out.symm
 replace HD := Lib.hid (HD.out.trn HL_v2.out t')
 clear t' v2
 have v2 := r'
 clear r'
 go_wp2_with (first | ((with_reducible refine storeTrap (k := 0) (v := 0) v3 ?_ ?_ ?_ ?_); rfl; rfl; rfl; intro w' r' t'; refine Hid.out ?_))
 refine Lib.hid ?_
 replace oo := Lib.hid (oo.out.trn v3 (NoU8.trap _ _) t')
 replace g := g.trn t' n_g_v3.out
 replace v2 := v2.trn t' n_v2_v3.out
 replace HD := Lib.hid (HD.out.trn HL_v3.out t')
 clear t' v3
 have v3 := r'
 clear r'
 go_wp2_with fail
 exact retMT rfl rfl rfl v2 hl' v3 ⟨m', rfl, oo, up, HD.out⟩ rfl
set_option maxRecDepth 100000 in
set_option maxHeartbeats 2000000 in
theorem xSWNo (m : Mc) (op rd ra rb imm x y z : Int) (b_g : Nat) (W : World) (g : Blk W b_g 127 (prg m op rd ra rb imm x y z)) (hm : m.Ok W) (i0 : -2147483648 ≤ imm) (i1 : imm < 2147483648) (x0 : 0 ≤ x) (x1 : x < 4294967296) (z0 : 0 ≤ z) (z1 : z < 4294967296) (hs : m.xs.length ≤ 100000) (s : Int) (s0 : 0 ≤ s) (s1 : s < 4294967296) (hsum : Hid ((x + M.iw imm) % 4294967296 = s)) (k v : Int) (hk : M.acz m.c m.xs.length s 4 = k) (hv : M.atv m.c m.xs.length s 4 = v) (hn : k ≠ 0) :
   Calls Tryz.prog 118 #[.pointer (some ⟨b_g, 0, none⟩)] W fun e W' => e = .returned (.tuple #[.agg (mach m), .agg #[.int .i64 k, .int .u32 v]]) ∧ Dn W W' := by
 have hl := hm.len
 have C1 := Lib.hid fun w => fun (gw : Blk w b_g 127 (prg m op rd ra rb imm x y z)) (ow : m.Ok w) => xStoreNo m op rd ra rb imm x y z b_g w gw ow i0 i1 x0 x1 z0 z1 4 (by decide) (by decide) hs s s0 s1 hsum k v hk hv hn
 clear hk hv hn hsum
 have D1 := Lib.hid fun w (d : Dn W w) => C1.out w (g.dn d) (hm.dn d)
 have S : Hid (Sw W W []) := Lib.hid (Dn.refl W)
 go_enter Tryz.func118, Tryz.ntmps118
 exact Wr
set_option maxRecDepth 100000 in
set_option maxHeartbeats 2000000 in
theorem xLBOk (m : Mc) (op rd ra rb imm x y z : Int) (b_g : Nat) (W : World) (g : Blk W b_g 127 (prg m op rd ra rb imm x y z)) (hm : m.Ok W) (i0 : -2147483648 ≤ imm) (i1 : imm < 2147483648) (x0 : 0 ≤ x) (x1 : x < 4294967296) (hs : m.xs.length ≤ 100000) (s : Int) (s0 : 0 ≤ s) (s1 : s < 4294967296) (hsum : Hid ((x + M.iw imm) % 4294967296 = s)) (v : Int) (v0 : 0 ≤ v) (v1 : v < 4294967296) (hk : M.acz m.c m.xs.length s 1 = 0) (hv : M.alv m.c m.xs s 1 = v) (m' : Mc) (hm' : m' = { m with c := M.adv (M.setreg m.c rd v) 4 }) :
   Calls Tryz.prog 119 #[.pointer (some ⟨b_g, 0, none⟩)] W fun e W' => e = .returned (.tuple #[.agg (mach m'), .agg #[.int .i64 0, .int .u32 0]]) ∧ Dn W W' := by
 have hl := hm.len
 have hl' : m'.c.length = 29 := by rw [hm']; exact ((hm.core.setreg rd ⟨v0, v1⟩).adv 4).len
 have C1 := Lib.hid fun w => fun (gw : Blk w b_g 127 (prg m op rd ra rb imm x y z)) (ow : m.Ok w) => xLoadOk m op rd ra rb imm x y z b_g w gw ow i0 i1 x0 x1 1 (by decide) (by decide) hs s s0 s1 hsum v v0 v1 hk hv m' hm'
 clear hm' hk hv hsum
 have D1 := Lib.hid fun w (d : Dn W w) => C1.out w (g.dn d) (hm.dn d)
 have S : Hid (Sw W W []) := Lib.hid (Dn.refl W)
 go_enter Tryz.func119, Tryz.ntmps119
 exact Wr
set_option maxRecDepth 100000 in
set_option maxHeartbeats 2000000 in
theorem xLBNo (m : Mc) (op rd ra rb imm x y z : Int) (b_g : Nat) (W : World) (g : Blk W b_g 127 (prg m op rd ra rb imm x y z)) (hm : m.Ok W) (i0 : -2147483648 ≤ imm) (i1 : imm < 2147483648) (x0 : 0 ≤ x) (x1 : x < 4294967296) (hs : m.xs.length ≤ 100000) (s : Int) (s0 : 0 ≤ s) (s1 : s < 4294967296) (hsum : Hid ((x + M.iw imm) % 4294967296 = s)) (k v : Int) (hk : M.acz m.c m.xs.length s 1 = k) (hv : M.atv m.c m.xs.length s 1 = v) (hz : k ≠ 0) :
   Calls Tryz.prog 119 #[.pointer (some ⟨b_g, 0, none⟩)] W fun e W' => e = .returned (.tuple #[.agg (mach m), .agg #[.int .i64 k, .int .u32 v]]) ∧ Dn W W' := by
 have hl := hm.len
 have C1 := Lib.hid fun w => fun (gw : Blk w b_g 127 (prg m op rd ra rb imm x y z)) (ow : m.Ok w) => xLoadNo m op rd ra rb imm x y z b_g w gw ow i0 i1 x0 x1 1 (by decide) (by decide) hs s s0 s1 hsum k v hk hv hz
 clear hk hv hz hsum
 have D1 := Lib.hid fun w (d : Dn W w) => C1.out w (g.dn d) (hm.dn d)
 have S : Hid (Sw W W []) := Lib.hid (Dn.refl W)
 go_enter Tryz.func119, Tryz.ntmps119
 exact Wr
set_option maxRecDepth 100000 in
set_option maxHeartbeats 2000000 in
theorem xSBOk (m : Mc) (op rd ra rb imm x y z : Int) (b_g : Nat) (W : World) (g : Blk W b_g 127 (prg m op rd ra rb imm x y z)) (hm : m.Ok W) (i0 : -2147483648 ≤ imm) (i1 : imm < 2147483648) (x0 : 0 ≤ x) (x1 : x < 4294967296) (z0 : 0 ≤ z) (z1 : z < 4294967296) (hs : m.xs.length ≤ 100000) (s : Int) (s0 : 0 ≤ s) (s1 : s < 4294967296) (hsum : Hid ((x + M.iw imm) % 4294967296 = s)) (zs : List Int) (hk : M.acz m.c m.xs.length s 1 = 0) (hz : M.asv m.c m.xs s 1 z = zs) (c2 : List Int) (h2 : M.adv m.c 4 = c2) :
   Calls Tryz.prog 120 #[.pointer (some ⟨b_g, 0, none⟩)] W fun e W' => ExRet W m ⟨c2, zs, 0, 0⟩ e W' := by
 have hl := hm.len
 have C1 := Lib.hid fun w => fun (gw : Blk w b_g 127 (prg m op rd ra rb imm x y z)) (ow : m.Ok w) => xStoreOk m op rd ra rb imm x y z b_g w gw ow i0 i1 x0 x1 z0 z1 1 (by decide) (by decide) hs s s0 s1 hsum zs hk hz c2 h2
 clear hk hz h2 hsum
 have HD := Lib.hid (Dn.refl W)
 go_enter Tryz.func120, Tryz.ntmps120
 go_wp2_with (first | ((with_reducible refine wpList_alloc zeroMach ?_ ?_); rfl; intro b_v2 w' nn; refine Hid.out ?_))
 refine Lib.hid ?_
 have n_g_v2 := Lib.hid (nn.ne _ g.lt)
 have HL_v2 : Hid (W.heap.size ≤ b_v2) := Lib.hid (Blk.hi nn HD.out.size)
 have d' := nn.dn
 replace g := g.dn d'
 replace HD := hT HD d'
 have v2 := nn.blk
 clear d' nn
 go_wp2_with (first | ((with_reducible refine wpList_alloc zeroTrap ?_ ?_); rfl; intro b_v3 w' nn; refine Hid.out ?_))
 refine Lib.hid ?_
 have n_g_v3 := Lib.hid (nn.ne _ g.lt)
 have n_v2_v3 := Lib.hid (nn.ne _ v2.lt)
 have HL_v3 : Hid (W.heap.size ≤ b_v3) := Lib.hid (Blk.hi nn HD.out.size)
 have d' := nn.dn
 replace g := g.dn d'
 replace v2 := v2.dn d'
 replace HD := hT HD d'
 have v3 := nn.blk
 clear d' nn
 go_wp2_with (first | (go_at_call 146; (with_reducible refine (C1.out _ g (hm.dn HD.out)).mono ?_); rintro e w' ⟨m', rfl, oo', up, d'⟩; refine Hid.out ?_))
 refine Lib.hid ?_
 replace g := g.dn d'
 replace v2 := v2.dn d'
 replace v3 := v3.dn d'
 replace HD := hT HD d'
 clear d'
 have hl' := oo'.out.len
 have oo := Lib.hid oo'.out
 go_wp2_with (first | ((with_reducible refine store33 m' hl' v2 zlen ?_ ?_ ?_ ?_); rfl; rfl; rfl; intro w' r' t'; refine Hid.out ?_))
 refine Lib.hid ?_
 replace oo := Lib.hid (oo.out.trn v2 (NoU8.mach _) t')
 replace g := g.trn t' n_g_v2.out
 replace v3 := v3.trn t' n_v2_v3.out.symm
 replace HD := Lib.hid (HD.out.trn HL_v2.out t')
 clear t' v2
 have v2 := r'
 clear r'
 go_wp2_with (first | ((with_reducible refine storeTrap (k := 0) (v := 0) v3 ?_ ?_ ?_ ?_); rfl; rfl; rfl; intro w' r' t'; refine Hid.out ?_))
 refine Lib.hid ?_
 replace oo := Lib.hid (oo.out.trn v3 (NoU8.trap _ _) t')
 replace g := g.trn t' n_g_v3.out
 replace v2 := v2.trn t' n_v2_v3.out
 replace HD := Lib.hid (HD.out.trn HL_v3.out t')
 clear t' v3
 have v3 := r'
 clear r'
 go_wp2_with fail
 exact retMT rfl rfl rfl v2 hl' v3 ⟨m', rfl, oo, up, HD.out⟩ rfl
set_option maxRecDepth 100000 in
set_option maxHeartbeats 2000000 in
theorem xSBNo (m : Mc) (op rd ra rb imm x y z : Int) (b_g : Nat) (W : World) (g : Blk W b_g 127 (prg m op rd ra rb imm x y z)) (hm : m.Ok W) (i0 : -2147483648 ≤ imm) (i1 : imm < 2147483648) (x0 : 0 ≤ x) (x1 : x < 4294967296) (z0 : 0 ≤ z) (z1 : z < 4294967296) (hs : m.xs.length ≤ 100000) (s : Int) (s0 : 0 ≤ s) (s1 : s < 4294967296) (hsum : Hid ((x + M.iw imm) % 4294967296 = s)) (k v : Int) (hk : M.acz m.c m.xs.length s 1 = k) (hv : M.atv m.c m.xs.length s 1 = v) (hn : k ≠ 0) :
   Calls Tryz.prog 120 #[.pointer (some ⟨b_g, 0, none⟩)] W fun e W' => e = .returned (.tuple #[.agg (mach m), .agg #[.int .i64 k, .int .u32 v]]) ∧ Dn W W' := by
 have hl := hm.len
 have C1 := Lib.hid fun w => fun (gw : Blk w b_g 127 (prg m op rd ra rb imm x y z)) (ow : m.Ok w) => xStoreNo m op rd ra rb imm x y z b_g w gw ow i0 i1 x0 x1 z0 z1 1 (by decide) (by decide) hs s s0 s1 hsum k v hk hv hn
 clear hk hv hn hsum
 have D1 := Lib.hid fun w (d : Dn W w) => C1.out w (g.dn d) (hm.dn d)
 have S : Hid (Sw W W []) := Lib.hid (Dn.refl W)
 go_enter Tryz.func120, Tryz.ntmps120
 exact Wr
end Go.Proofs.YtclpdjpaaagkdaaGreatDoor
