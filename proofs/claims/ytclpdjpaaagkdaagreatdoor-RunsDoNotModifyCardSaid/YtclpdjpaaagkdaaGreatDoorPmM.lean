/-
  Contracts over the translated program and the plain facts behind them, of the texts: ExRdC. Conditions: those that stand in each theorem.
-/
import Derived.Test.YtclpdjpaaagkdaaGreatDoorPmS
import Derived.Test.YtclpdjpaaagkdaaGreatDoorPmX
namespace Go.Proofs.YtclpdjpaaagkdaaGreatDoor
open Go.ChangeShapes Go.WideShapes Go.ChangeAt Go.RowKit Go.Sort
set_option linter.unusedVariables false

set_option maxRecDepth 100000 in
set_option maxHeartbeats 2000000 in
theorem rd12ok (m : Mc) (rd ra rb imm x y z u : Int) (W : World) (hm : m.Ok W) (i0 : -2147483648 ≤ imm) (i1 : imm < 2147483648) (hx : M.reg m.c ra = x) (hy : M.reg m.c rb = y) (hz : M.reg m.c rd = z) (hu : M.iw imm = u) (hs : m.xs.length ≤ 100000) (zs : List Int) (hk : M.acz m.c m.xs.length ((x + u) % 4294967296) 4 = 0) (hzs : M.asv m.c m.xs ((x + u) % 4294967296) 4 z = zs) (c2 : List Int) (h2 : M.adv m.c 4 = c2) :
   Calls Tryz.prog 36 #[.agg (mach m), .agg (ins 12 rd ra rb imm)] W fun e W' => ExRet W m ⟨c2, zs, 0, 0⟩ e W' := by
 have hl := hm.len
 have hc := hm.core
 have G1 := Lib.hid fun w => (by have h := refGet (m.c.take 16) ra w (take16 hl); rw [M.reg_take m.c hl, hx] at h; exact h : Calls Tryz.prog 49 #[.agg (ints .u32 (m.c.take 16)), .int .i64 ra] w fun e W' => e = .returned (.int .u32 x) ∧ Dn w W')
 have G2 := Lib.hid fun w => (by have h := refGet (m.c.take 16) rb w (take16 hl); rw [M.reg_take m.c hl, hy] at h; exact h : Calls Tryz.prog 49 #[.agg (ints .u32 (m.c.take 16)), .int .i64 rb] w fun e W' => e = .returned (.int .u32 y) ∧ Dn w W')
 have G3 := Lib.hid fun w => (by have h := refGet (m.c.take 16) rd w (take16 hl); rw [M.reg_take m.c hl, hz] at h; exact h : Calls Tryz.prog 49 #[.agg (ints .u32 (m.c.take 16)), .int .i64 rd] w fun e W' => e = .returned (.int .u32 z) ∧ Dn w W')
 have xr : 0 ≤ x ∧ x < 4294967296 := by rw [← hx]; exact M.reg_rng hc _
 have yr : 0 ≤ y ∧ y < 4294967296 := by rw [← hy]; exact M.reg_rng hc _
 have zr : 0 ≤ z ∧ z < 4294967296 := by rw [← hz]; exact M.reg_rng hc _
 have ur : 0 ≤ u ∧ u < 4294967296 := by rw [← hu]; exact M.iw_rng _
 have G4 := Lib.hid (rTimes imm 1 u i0 i1 (by decide) (by decide) (by rw [← hu]; unfold M.iw; omega))
 have sr : 0 ≤ (x + u) % 4294967296 ∧ (x + u) % 4294967296 < 4294967296 := M.wrap_rng _
 have C1 := Lib.hid fun w => fun (ow : m.Ok w) => rfstore m ((x + u) % 4294967296) 4 z w ow hs sr.1 sr.2 (by decide) (by decide) zr.1 zr.2 zs 0 0 hzs hk (M.atv_yes hk)
 have k2 : M.Core c2 := by rw [← h2]; exact hc.adv 4
 have C2 := Lib.hid fun (w : World) (m1 : Mc) (ow : m1.Ok w) (e : m1.c = m.c) => (rPut m1 0 0 4 w ow (by decide) (by decide) (by decide) (by decide) m.c c2 (by rw [e]; rfl) h2 _ rfl).mono fun e W' h => (⟨_, h.1, Lib.hid rfl, h.2⟩ : ∃ m2, e = .returned (.agg (mach m2)) ∧ Hid (m2 = { m1 with c := c2 }) ∧ Dn w W')
 clear hk hzs h2
 clear hx hy hz
 have HD := Lib.hid (Dn.refl W)
 go_enter Tryz.func36, Tryz.ntmps36
 go_wp2_with (first | ((with_reducible refine wpList_box (vs := (mach m)) ?_ ?_ ?_); rfl; rfl; intro b_v2 w' nn; refine Hid.out ?_))
 refine Lib.hid ?_
 have d' := nn.dn
 replace HD := hT HD d'
 have v2 := nn.blk
 clear d' nn
 go_wp2_with (first | ((with_reducible refine wpList_box (vs := (ins 12 rd ra rb imm)) ?_ ?_ ?_); rfl; rfl; intro b_v3 w' nn; refine Hid.out ?_))
 refine Lib.hid ?_
 have d' := nn.dn
 replace v2 := v2.dn d'
 replace HD := hT HD d'
 have v3 := nn.blk
 clear d' nn
 go_wp2_with (first | ((with_reducible refine wpList_alloc zeroMach ?_ ?_); rfl; intro b_v4 w' nn; refine Hid.out ?_))
 refine Lib.hid ?_
 have n_v2_v4 := Lib.hid (nn.ne _ v2.lt)
 have n_v3_v4 := Lib.hid (nn.ne _ v3.lt)
 have HL_v4 : Hid (W.heap.size ≤ b_v4) := Lib.hid (Blk.hi nn HD.out.size)
 have d' := nn.dn
 replace v2 := v2.dn d'
 replace v3 := v3.dn d'
 replace HD := hT HD d'
 have v4 := nn.blk
 clear d' nn
 go_wp2_with (first | ((with_reducible refine wpList_alloc zeroTrap ?_ ?_); rfl; intro b_v5 w' nn; refine Hid.out ?_))
 refine Lib.hid ?_
 have n_v2_v5 := Lib.hid (nn.ne _ v2.lt)
 have n_v3_v5 := Lib.hid (nn.ne _ v3.lt)
 have n_v4_v5 := Lib.hid (nn.ne _ v4.lt)
 have HL_v5 : Hid (W.heap.size ≤ b_v5) := Lib.hid (Blk.hi nn HD.out.size)
 have d' := nn.dn
 replace v2 := v2.dn d'
 replace v3 := v3.dn d'
 replace v4 := v4.dn d'
 replace HD := hT HD d'
 have v5 := nn.blk
 clear d' nn
 have ck0 := v3.ira
 go_wp2_with (first | ((with_reducible refine loadRegs v2 hl ?_ ?_ ?_); rfl; rfl) | (go_at_call 49; (with_reducible refine (G1.out _).mono ?_); rintro e w' ⟨rfl, d'⟩; refine Hid.out ?_))
 refine Lib.hid ?_
 clear ck0
 replace v2 := v2.dn d'
 replace v3 := v3.dn d'
 replace v4 := v4.dn d'
 replace v5 := v5.dn d'
 replace HD := hT HD d'
 clear d'
 have ck0 := v3.irb
 go_wp2_with (first | ((with_reducible refine loadRegs v2 hl ?_ ?_ ?_); rfl; rfl) | (go_at_call 49; (with_reducible refine (G2.out _).mono ?_); rintro e w' ⟨rfl, d'⟩; refine Hid.out ?_))
 refine Lib.hid ?_
 clear ck0
 replace v2 := v2.dn d'
 replace v3 := v3.dn d'
 replace v4 := v4.dn d'
 replace v5 := v5.dn d'
 replace HD := hT HD d'
 clear d'
 have ck0 := v3.ird
 go_wp2_with (first | ((with_reducible refine loadRegs v2 hl ?_ ?_ ?_); rfl; rfl) | (go_at_call 49; (with_reducible refine (G3.out _).mono ?_); rintro e w' ⟨rfl, d'⟩; refine Hid.out ?_))
 refine Lib.hid ?_
 clear ck0
 replace v2 := v2.dn d'
 replace v3 := v3.dn d'
 replace v4 := v4.dn d'
 replace v5 := v5.dn d'
 replace HD := hT HD d'
 clear d'
 have ck0 := v3.iimm
 go_wp2_with (first | (go_at_call 54; (with_reducible refine (G4.out _).mono ?_); rintro e w' ⟨rfl, d'⟩; refine Hid.out ?_))
 refine Lib.hid ?_
 clear ck0
 replace v2 := v2.dn d'
 replace v3 := v3.dn d'
 replace v4 := v4.dn d'
 replace v5 := v5.dn d'
 replace HD := hT HD d'
 clear d'
 go_wp2_with (first | ((with_reducible refine wpList_alloc zeroTrap ?_ ?_); rfl; intro b_v10 w' nn; refine Hid.out ?_))
 refine Lib.hid ?_
 have n_v4_v10 := Lib.hid (nn.ne _ v4.lt)
 have n_v5_v10 := Lib.hid (nn.ne _ v5.lt)
 have d' := nn.dn
 replace v2 := v2.dn d'
 replace v3 := v3.dn d'
 replace v4 := v4.dn d'
 replace v5 := v5.dn d'
 replace HD := hT HD d'
 have v10 := nn.blk
 clear d' nn
 have ck0 := v3.iop
 go_wp2_with (first | ((with_reducible refine load33 v2 hl ?_ ?_ ?_); rfl; rfl) | (go_at_call 57; (with_reducible refine (C1.out _ (hm.dn HD.out)).mono ?_); rintro e w' ⟨m1, rfl, om1, up, d'⟩; refine Hid.out ?_))
 refine Lib.hid ?_
 clear ck0
 replace v2 := v2.dn d'
 replace v3 := v3.dn d'
 replace v4 := v4.dn d'
 replace v5 := v5.dn d'
 replace v10 := v10.dn d'
 replace HD := hT HD d'
 clear d'
 have hl1 := om1.out.len
 have hc1 := Lib.hid up.out.core
 have oo := Lib.hid om1.out
 go_wp2_with (first | ((with_reducible refine wpList_alloc zeroMach ?_ ?_); rfl; intro b_v15 w' nn; refine Hid.out ?_))
 refine Lib.hid ?_
 have n_v2_v15 := Lib.hid (nn.ne _ v2.lt)
 have n_v3_v15 := Lib.hid (nn.ne _ v3.lt)
 have n_v4_v15 := Lib.hid (nn.ne _ v4.lt)
 have n_v5_v15 := Lib.hid (nn.ne _ v5.lt)
 have n_v10_v15 := Lib.hid (nn.ne _ v10.lt)
 have HL_v15 : Hid (W.heap.size ≤ b_v15) := Lib.hid (Blk.hi nn HD.out.size)
 have d' := nn.dn
 replace v2 := v2.dn d'
 replace v3 := v3.dn d'
 replace v4 := v4.dn d'
 replace v5 := v5.dn d'
 replace v10 := v10.dn d'
 replace oo := Lib.hid (oo.out.dn d')
 replace HD := hT HD d'
 have v15 := nn.blk
 clear d' nn
 go_wp2_with (first | ((with_reducible refine wpList_alloc zeroTrap ?_ ?_); rfl; intro b_v16 w' nn; refine Hid.out ?_))
 refine Lib.hid ?_
 have n_v2_v16 := Lib.hid (nn.ne _ v2.lt)
 have n_v3_v16 := Lib.hid (nn.ne _ v3.lt)
 have n_v4_v16 := Lib.hid (nn.ne _ v4.lt)
 have n_v5_v16 := Lib.hid (nn.ne _ v5.lt)
 have n_v10_v16 := Lib.hid (nn.ne _ v10.lt)
 have n_v15_v16 := Lib.hid (nn.ne _ v15.lt)
 have HL_v16 : Hid (W.heap.size ≤ b_v16) := Lib.hid (Blk.hi nn HD.out.size)
 have d' := nn.dn
 replace v2 := v2.dn d'
 replace v3 := v3.dn d'
 replace v4 := v4.dn d'
 replace v5 := v5.dn d'
 replace v10 := v10.dn d'
 replace v15 := v15.dn d'
 replace oo := Lib.hid (oo.out.dn d')
 replace HD := hT HD d'
 have v16 := nn.blk
 clear d' nn
 go_wp2_with (first | ((with_reducible refine store33 m1 hl1 v15 zlen ?_ ?_ ?_ ?_); rfl; rfl; rfl; intro w' r' t'; refine Hid.out ?_))
 refine Lib.hid ?_
 replace oo := Lib.hid (oo.out.trn v15 (NoU8.mach _) t')
 replace v2 := v2.trn t' n_v2_v15.out
 replace v3 := v3.trn t' n_v3_v15.out
 replace v4 := v4.trn t' n_v4_v15.out
 replace v5 := v5.trn t' n_v5_v15.out
 replace v10 := v10.trn t' n_v10_v15.out
 replace v16 := v16.trn t' n_v15_v16.out.symm
 replace HD := Lib.hid (HD.out.trn HL_v15.out t')
 clear t' v15
 have v15 := r'
 clear r'
 go_wp2_with (first | ((with_reducible refine storeTrap (k := 0) (v := 0) v16 ?_ ?_ ?_ ?_); rfl; rfl; rfl; intro w' r' t'; refine Hid.out ?_))
 refine Lib.hid ?_
 replace oo := Lib.hid (oo.out.trn v16 (NoU8.trap _ _) t')
 replace v2 := v2.trn t' n_v2_v16.out
 replace v3 := v3.trn t' n_v3_v16.out
 replace v4 := v4.trn t' n_v4_v16.out
 replace v5 := v5.trn t' n_v5_v16.out
 replace v10 := v10.trn t' n_v10_v16.out
 replace v15 := v15.trn t' n_v15_v16.out
 replace HD := Lib.hid (HD.out.trn HL_v16.out t')
 clear t' v16
 have v16 := r'
 clear r'
 have ck0 := v16.cell (i := 0) (v := .int .i64 0) rfl
 go_wp2_with fail
 clear ck0
 have nx_v2 : b_v2 ∉ [b_v4, b_v5] := (by simp only [List.mem_cons, List.not_mem_nil, or_false, not_or]; exact ⟨n_v2_v4.out, n_v2_v5.out⟩)
 have nx_v3 : b_v3 ∉ [b_v4, b_v5] := (by simp only [List.mem_cons, List.not_mem_nil, or_false, not_or]; exact ⟨n_v3_v4.out, n_v3_v5.out⟩)
 have nx_v10 : b_v10 ∉ [b_v4, b_v5] := (by simp only [List.mem_cons, List.not_mem_nil, or_false, not_or]; exact ⟨n_v4_v10.out.symm, n_v5_v10.out.symm⟩)
 have nx_v15 : b_v15 ∉ [b_v4, b_v5] := (by simp only [List.mem_cons, List.not_mem_nil, or_false, not_or]; exact ⟨n_v4_v15.out.symm, n_v5_v15.out.symm⟩)
 have nx_v16 : b_v16 ∉ [b_v4, b_v5] := (by simp only [List.mem_cons, List.not_mem_nil, or_false, not_or]; exact ⟨n_v4_v16.out.symm, n_v5_v16.out.symm⟩)
 have hbs : ∀ b ∈ [b_v4, b_v5], ∃ t cs, Blk w' b t cs ∧ NoU8 cs := by
   intro b hb
   simp only [List.mem_cons, List.not_mem_nil, or_false] at hb
   rcases hb with rfl | rfl
   · exact ⟨_, _, v4, (NoU8.mach _)⟩
   · exact ⟨_, _, v5, (NoU8.trap _ _)⟩
 have hbl : ∀ b ∈ [b_v4, b_v5], W.heap.size ≤ b := by
   intro b hb
   simp only [List.mem_cons, List.not_mem_nil, or_false] at hb
   rcases hb with rfl | rfl
   · exact HL_v4.out
   · exact HL_v5.out
 refine wp_region_picks [b_v4, b_v5] [0, 2] 3 (by kernel_rfl) (by kernel_rfl) rfl (by kernel_rfl) ?_
 simp only [pickL, List.drop_succ_cons, List.drop_zero, List.take_succ_cons, List.take_zero, List.cons_append, List.nil_append]
 refine ⟨?_, ?_, ?_⟩
 rotate_left 1
 refine ⟨_, calx33 v15 hl1 nx_v15 (by rfl) rfl, ?_⟩
 simp only [Act.put, tA, tS, tZ]
 refine ⟨_, calxTrap v10 nx_v10 (by rfl) rfl, ?_⟩
 simp only [Act.put, tA, tS, tZ]
 exact rfl
 have e0 : Dx [b_v4, b_v5] w' w'.drew := Dn.dx (Dn.drawn _)
 have f_v4 := v4.dn (Dn.drawn w')
 have f_v5 := v5.dn (Dn.drawn w')
 refine wpX_one 1 (by kernel_rfl) ?_
 refine x1_call rfl (by rfl) (fun u => by go_simp) e0 fun x0 dx ex => (C2.out x0 m1 (oo.out.dx ex hbs) hc1.out).mono ?_
 rintro e y0 ⟨m2, rfl, hm2, d'⟩
 refine ⟨d', _, rfl, ?_⟩
 replace e0 := ex.trans (Dn.dx d')
 replace f_v4 := (f_v4.dn dx).dn d'
 replace f_v5 := (f_v5.dn dx).dn d'
 have hl2 : m2.c.length = 29 := by rw [hm2.out]; exact k2.len
 clear dx ex d'
 simp only [Act.put, tA, tS, tZ]
 refine wpX_one 3 (by kernel_rfl) ?_
 refine x1_store 0 (vs := (mach m2)) rfl f_v4 (.inl (by simp)) (info_mach hl2) (by rw [mach_size hl2, mach_size zlen]; omega) (mach_one _) rfl rfl e0 fun u1 y1 du1 t1 e1 g1 => ?_
 rw [lay_all (mach Mc.zero) (mach m2) (by rw [mach_size hl2, mach_size zlen])] at g1
 replace f_v5 := (f_v5.dn du1).trn t1 n_v4_v5.out.symm
 clear f_v4 e0
 have f_v4 := g1
 have e0 := e1
 clear g1 t1 du1 e1
 refine wpX_one 4 (by kernel_rfl) ?_
 refine x1_store 0 (vs := #[.int .i64 0, .int .u32 0]) rfl f_v5 (.inl (by simp)) infoTrap (by simp) (by simp [Value.oneCell']) rfl rfl e0 fun u1 y1 du1 t1 e1 g1 => ?_
 rw [lay_all #[.int .i64 0, .int .u32 0] #[.int .i64 0, .int .u32 0] rfl] at g1
 replace f_v4 := (f_v4.dn du1).trn t1 n_v4_v5.out
 clear f_v5 e0
 have f_v5 := g1
 have e0 := e1
 clear g1 t1 du1 e1
 refine wpX_end (by kernel_rfl) fun w' dx => NoPanic.normal ?_
 have D := e0.trans (Dn.dx dx)
 replace f_v4 := f_v4.dn dx
 replace f_v5 := f_v5.dn dx
 clear e0 dx
 replace v2 := v2.dx D nx_v2
 replace v3 := v3.dx D nx_v3
 replace v10 := v10.dx D nx_v10
 replace v15 := v15.dx D nx_v15
 replace v16 := v16.dx D nx_v16
 replace oo := Lib.hid (oo.out.dx D hbs)
 replace HD := Lib.hid (HD.out.of_dx D hbl)
 clear v4 v5 D hbs hbl nx_v2 nx_v3 nx_v10 nx_v15 nx_v16
 have v4 := f_v4
 clear f_v4
 have v5 := f_v5
 clear f_v5
 replace oo : Hid (m2.Ok w') := Lib.hid (by rw [hm2.out]; exact ⟨k2, oo.out.mem, oo.out.out, oo.out.t0, oo.out.t1⟩)
 replace up : Hid (Mc.Up { m with c := c2 } zs m2) := Lib.hid (by obtain ⟨A, k, h⟩ := up.out; rw [hm2.out, h]; exact ⟨A, k, rfl⟩)
 go_wp2_with fail
 exact retMT rfl rfl rfl v4 hl2 v5 ⟨m2, rfl, oo, up, HD.out⟩ rfl
set_option maxRecDepth 100000 in
set_option maxHeartbeats 2000000 in
theorem rd12no (m : Mc) (rd ra rb imm x y z u : Int) (W : World) (hm : m.Ok W) (i0 : -2147483648 ≤ imm) (i1 : imm < 2147483648) (hx : M.reg m.c ra = x) (hy : M.reg m.c rb = y) (hz : M.reg m.c rd = z) (hu : M.iw imm = u) (hs : m.xs.length ≤ 100000) (k v : Int) (hk : M.acz m.c m.xs.length ((x + u) % 4294967296) 4 = k) (hv : M.atv m.c m.xs.length ((x + u) % 4294967296) 4 = v) (hn : k ≠ 0) :
   Calls Tryz.prog 36 #[.agg (mach m), .agg (ins 12 rd ra rb imm)] W fun e W' => e = .returned (.tuple #[.agg (mach m), .agg #[.int .i64 k, .int .u32 v]]) ∧ Dn W W' := by
 have hl := hm.len
 have hc := hm.core
 have G1 := Lib.hid fun w => (by have h := refGet (m.c.take 16) ra w (take16 hl); rw [M.reg_take m.c hl, hx] at h; exact h : Calls Tryz.prog 49 #[.agg (ints .u32 (m.c.take 16)), .int .i64 ra] w fun e W' => e = .returned (.int .u32 x) ∧ Dn w W')
 have G2 := Lib.hid fun w => (by have h := refGet (m.c.take 16) rb w (take16 hl); rw [M.reg_take m.c hl, hy] at h; exact h : Calls Tryz.prog 49 #[.agg (ints .u32 (m.c.take 16)), .int .i64 rb] w fun e W' => e = .returned (.int .u32 y) ∧ Dn w W')
 have G3 := Lib.hid fun w => (by have h := refGet (m.c.take 16) rd w (take16 hl); rw [M.reg_take m.c hl, hz] at h; exact h : Calls Tryz.prog 49 #[.agg (ints .u32 (m.c.take 16)), .int .i64 rd] w fun e W' => e = .returned (.int .u32 z) ∧ Dn w W')
 have xr : 0 ≤ x ∧ x < 4294967296 := by rw [← hx]; exact M.reg_rng hc _
 have yr : 0 ≤ y ∧ y < 4294967296 := by rw [← hy]; exact M.reg_rng hc _
 have zr : 0 ≤ z ∧ z < 4294967296 := by rw [← hz]; exact M.reg_rng hc _
 have ur : 0 ≤ u ∧ u < 4294967296 := by rw [← hu]; exact M.iw_rng _
 have G4 := Lib.hid (rTimes imm 1 u i0 i1 (by decide) (by decide) (by rw [← hu]; unfold M.iw; omega))
 have sr : 0 ≤ (x + u) % 4294967296 ∧ (x + u) % 4294967296 < 4294967296 := M.wrap_rng _
 obtain ⟨zs, hzs⟩ : ∃ zs, M.asv m.c m.xs ((x + u) % 4294967296) 4 z = zs := ⟨_, rfl⟩
 have C1 := Lib.hid fun w => fun (ow : m.Ok w) => rfstore m ((x + u) % 4294967296) 4 z w ow hs sr.1 sr.2 (by decide) (by decide) zr.1 zr.2 zs k v hzs hk hv
 have hb : (k != 0) = true := by simpa using hn
 have hb2 : (k == 0) = false := by simpa using hn
 clear hk hv hzs hn
 clear hx hy hz
 have HD := Lib.hid (Dn.refl W)
 go_enter Tryz.func36, Tryz.ntmps36
 go_wp2_with (first | ((with_reducible refine wpList_box (vs := (mach m)) ?_ ?_ ?_); rfl; rfl; intro b_v2 w' nn; refine Hid.out ?_))
 refine Lib.hid ?_
 have d' := nn.dn
 replace HD := hT HD d'
 have v2 := nn.blk
 clear d' nn
 go_wp2_with (first | ((with_reducible refine wpList_box (vs := (ins 12 rd ra rb imm)) ?_ ?_ ?_); rfl; rfl; intro b_v3 w' nn; refine Hid.out ?_))
 refine Lib.hid ?_
 have d' := nn.dn
 replace v2 := v2.dn d'
 replace HD := hT HD d'
 have v3 := nn.blk
 clear d' nn
 go_wp2_with (first | ((with_reducible refine wpList_alloc zeroMach ?_ ?_); rfl; intro b_v4 w' nn; refine Hid.out ?_))
 refine Lib.hid ?_
 have n_v2_v4 := Lib.hid (nn.ne _ v2.lt)
 have n_v3_v4 := Lib.hid (nn.ne _ v3.lt)
 have HL_v4 : Hid (W.heap.size ≤ b_v4) := Lib.hid (Blk.hi nn HD.out.size)
 have d' := nn.dn
 replace v2 := v2.dn d'
 replace v3 := v3.dn d'
 replace HD := hT HD d'
 have v4 := nn.blk
 clear d' nn
 go_wp2_with (first | ((with_reducible refine wpList_alloc zeroTrap ?_ ?_); rfl; intro b_v5 w' nn; refine Hid.out ?_))
 refine Lib.hid ?_
 have n_v2_v5 := Lib.hid (nn.ne _ v2.lt)
 have n_v3_v5 := Lib.hid (nn.ne _ v3.lt)
 have n_v4_v5 := Lib.hid (nn.ne _ v4.lt)
 have HL_v5 : Hid (W.heap.size ≤ b_v5) := Lib.hid (Blk.hi nn HD.out.size)
 have d' := nn.dn
 replace v2 := v2.dn d'
 replace v3 := v3.dn d'
 replace v4 := v4.dn d'
 replace HD := hT HD d'
 have v5 := nn.blk
 clear d' nn
 have ck0 := v3.ira
 go_wp2_with (first | ((with_reducible refine loadRegs v2 hl ?_ ?_ ?_); rfl; rfl) | (go_at_call 49; (with_reducible refine (G1.out _).mono ?_); rintro e w' ⟨rfl, d'⟩; refine Hid.out ?_))
 refine Lib.hid ?_
 clear ck0
 replace v2 := v2.dn d'
 replace v3 := v3.dn d'
 replace v4 := v4.dn d'
 replace v5 := v5.dn d'
 replace HD := hT HD d'
 clear d'
 have ck0 := v3.irb
 go_wp2_with (first | ((with_reducible refine loadRegs v2 hl ?_ ?_ ?_); rfl; rfl) | (go_at_call 49; (with_reducible refine (G2.out _).mono ?_); rintro e w' ⟨rfl, d'⟩; refine Hid.out ?_))
 refine Lib.hid ?_
 clear ck0
 replace v2 := v2.dn d'
 replace v3 := v3.dn d'
 replace v4 := v4.dn d'
 replace v5 := v5.dn d'
 replace HD := hT HD d'
 clear d'
 have ck0 := v3.ird
 go_wp2_with (first | ((with_reducible refine loadRegs v2 hl ?_ ?_ ?_); rfl; rfl) | (go_at_call 49; (with_reducible refine (G3.out _).mono ?_); rintro e w' ⟨rfl, d'⟩; refine Hid.out ?_))
 refine Lib.hid ?_
 clear ck0
 replace v2 := v2.dn d'
 replace v3 := v3.dn d'
 replace v4 := v4.dn d'
 replace v5 := v5.dn d'
 replace HD := hT HD d'
 clear d'
 have ck0 := v3.iimm
 go_wp2_with (first | (go_at_call 54; (with_reducible refine (G4.out _).mono ?_); rintro e w' ⟨rfl, d'⟩; refine Hid.out ?_))
 refine Lib.hid ?_
 clear ck0
 replace v2 := v2.dn d'
 replace v3 := v3.dn d'
 replace v4 := v4.dn d'
 replace v5 := v5.dn d'
 replace HD := hT HD d'
 clear d'
 go_wp2_with (first | ((with_reducible refine wpList_alloc zeroTrap ?_ ?_); rfl; intro b_v10 w' nn; refine Hid.out ?_))
 refine Lib.hid ?_
 have n_v4_v10 := Lib.hid (nn.ne _ v4.lt)
 have n_v5_v10 := Lib.hid (nn.ne _ v5.lt)
 have d' := nn.dn
 replace v2 := v2.dn d'
 replace v3 := v3.dn d'
 replace v4 := v4.dn d'
 replace v5 := v5.dn d'
 replace HD := hT HD d'
 have v10 := nn.blk
 clear d' nn
 have ck0 := v3.iop
 go_wp2_with (first | ((with_reducible refine load33 v2 hl ?_ ?_ ?_); rfl; rfl) | (go_at_call 57; (with_reducible refine (C1.out _ (hm.dn HD.out)).mono ?_); rintro e w' ⟨m1, rfl, om1, up, d'⟩; refine Hid.out ?_))
 refine Lib.hid ?_
 clear ck0
 replace v2 := v2.dn d'
 replace v3 := v3.dn d'
 replace v4 := v4.dn d'
 replace v5 := v5.dn d'
 replace v10 := v10.dn d'
 replace HD := hT HD d'
 clear d'
 have hl1 := om1.out.len
 clear up om1
 go_wp2_with (first | ((with_reducible refine wpList_alloc zeroMach ?_ ?_); rfl; intro b_v15 w' nn; refine Hid.out ?_))
 refine Lib.hid ?_
 have n_v2_v15 := Lib.hid (nn.ne _ v2.lt)
 have n_v3_v15 := Lib.hid (nn.ne _ v3.lt)
 have n_v4_v15 := Lib.hid (nn.ne _ v4.lt)
 have n_v5_v15 := Lib.hid (nn.ne _ v5.lt)
 have n_v10_v15 := Lib.hid (nn.ne _ v10.lt)
 have HL_v15 : Hid (W.heap.size ≤ b_v15) := Lib.hid (Blk.hi nn HD.out.size)
 have d' := nn.dn
 replace v2 := v2.dn d'
 replace v3 := v3.dn d'
 replace v4 := v4.dn d'
 replace v5 := v5.dn d'
 replace v10 := v10.dn d'
 replace HD := hT HD d'
 have v15 := nn.blk
 clear d' nn
 go_wp2_with (first | ((with_reducible refine wpList_alloc zeroTrap ?_ ?_); rfl; intro b_v16 w' nn; refine Hid.out ?_))
 refine Lib.hid ?_
 have n_v2_v16 := Lib.hid (nn.ne _ v2.lt)
 have n_v3_v16 := Lib.hid (nn.ne _ v3.lt)
 have n_v4_v16 := Lib.hid (nn.ne _ v4.lt)
 have n_v5_v16 := Lib.hid (nn.ne _ v5.lt)
 have n_v10_v16 := Lib.hid (nn.ne _ v10.lt)
 have n_v15_v16 := Lib.hid (nn.ne _ v15.lt)
 have HL_v16 : Hid (W.heap.size ≤ b_v16) := Lib.hid (Blk.hi nn HD.out.size)
 have d' := nn.dn
 replace v2 := v2.dn d'
 replace v3 := v3.dn d'
 replace v4 := v4.dn d'
 replace v5 := v5.dn d'
 replace v10 := v10.dn d'
 replace v15 := v15.dn d'
 replace HD := hT HD d'
 have v16 := nn.blk
 clear d' nn
 go_wp2_with (first | ((with_reducible refine store33 m1 hl1 v15 zlen ?_ ?_ ?_ ?_); rfl; rfl; rfl; intro w' r' t'; refine Hid.out ?_))
 refine Lib.hid ?_
 replace v2 := v2.trn t' n_v2_v15.out
 replace v3 := v3.trn t' n_v3_v15.out
 replace v4 := v4.trn t' n_v4_v15.out
 replace v5 := v5.trn t' n_v5_v15.out
 replace v10 := v10.trn t' n_v10_v15.out
 replace v16 := v16.trn t' n_v15_v16.out.symm
 replace HD := Lib.hid (HD.out.trn HL_v15.out t')
 clear t' v15
 have v15 := r'
 clear r'
 go_wp2_with (first | ((with_reducible refine storeTrap (k := k) (v := v) v16 ?_ ?_ ?_ ?_); rfl; rfl; rfl; intro w' r' t'; refine Hid.out ?_))
 refine Lib.hid ?_
 replace v2 := v2.trn t' n_v2_v16.out
 replace v3 := v3.trn t' n_v3_v16.out
 replace v4 := v4.trn t' n_v4_v16.out
 replace v5 := v5.trn t' n_v5_v16.out
 replace v10 := v10.trn t' n_v10_v16.out
 replace v15 := v15.trn t' n_v15_v16.out
 replace HD := Lib.hid (HD.out.trn HL_v16.out t')
 clear t' v16
 have v16 := r'
 clear r'
 have ck0 := v16.cell (i := 0) (v := .int .i64 k) rfl
 go_wp2_with fail
 clear ck0
 have nx_v2 : b_v2 ∉ [b_v4, b_v5] := (by simp only [List.mem_cons, List.not_mem_nil, or_false, not_or]; exact ⟨n_v2_v4.out, n_v2_v5.out⟩)
 have nx_v3 : b_v3 ∉ [b_v4, b_v5] := (by simp only [List.mem_cons, List.not_mem_nil, or_false, not_or]; exact ⟨n_v3_v4.out, n_v3_v5.out⟩)
 have nx_v10 : b_v10 ∉ [b_v4, b_v5] := (by simp only [List.mem_cons, List.not_mem_nil, or_false, not_or]; exact ⟨n_v4_v10.out.symm, n_v5_v10.out.symm⟩)
 have nx_v15 : b_v15 ∉ [b_v4, b_v5] := (by simp only [List.mem_cons, List.not_mem_nil, or_false, not_or]; exact ⟨n_v4_v15.out.symm, n_v5_v15.out.symm⟩)
 have nx_v16 : b_v16 ∉ [b_v4, b_v5] := (by simp only [List.mem_cons, List.not_mem_nil, or_false, not_or]; exact ⟨n_v4_v16.out.symm, n_v5_v16.out.symm⟩)
 have hbs : ∀ b ∈ [b_v4, b_v5], ∃ t cs, Blk w' b t cs ∧ NoU8 cs := by
   intro b hb
   simp only [List.mem_cons, List.not_mem_nil, or_false] at hb
   rcases hb with rfl | rfl
   · exact ⟨_, _, v4, (NoU8.mach _)⟩
   · exact ⟨_, _, v5, (NoU8.trap _ _)⟩
 have hbl : ∀ b ∈ [b_v4, b_v5], W.heap.size ≤ b := by
   intro b hb
   simp only [List.mem_cons, List.not_mem_nil, or_false] at hb
   rcases hb with rfl | rfl
   · exact HL_v4.out
   · exact HL_v5.out
 refine wp_region_picks [b_v4, b_v5] [0, 1] 2 (by kernel_rfl) (by kernel_rfl) rfl (by kernel_rfl) ?_
 simp only [pickL, List.drop_succ_cons, List.drop_zero, List.take_succ_cons, List.take_zero, List.cons_append, List.nil_append]
 refine ⟨?_, ?_, ?_⟩
 rotate_left 1
 refine ⟨_, calx33 v2 hl nx_v2 (by rfl) rfl, ?_⟩
 simp only [Act.put, tA, tS, tZ]
 refine ⟨_, calxTrap v16 nx_v16 (by rfl) rfl, ?_⟩
 simp only [Act.put, tA, tS, tZ]
 exact rfl
 have e0 : Dx [b_v4, b_v5] w' w'.drew := Dn.dx (Dn.drawn _)
 have f_v4 := v4.dn (Dn.drawn w')
 have f_v5 := v5.dn (Dn.drawn w')
 refine wpX_one 2 (by kernel_rfl) ?_
 refine x1_store 0 (vs := (mach m)) rfl f_v4 (.inl (by simp)) (info_mach hl) (by rw [mach_size hl, mach_size zlen]; omega) (mach_one _) rfl rfl e0 fun u1 y1 du1 t1 e1 g1 => ?_
 rw [lay_all (mach Mc.zero) (mach m) (by rw [mach_size hl, mach_size zlen])] at g1
 replace f_v5 := (f_v5.dn du1).trn t1 n_v4_v5.out.symm
 clear f_v4 e0
 have f_v4 := g1
 have e0 := e1
 clear g1 t1 du1 e1
 refine wpX_one 3 (by kernel_rfl) ?_
 refine x1_store 0 (vs := #[.int .i64 k, .int .u32 v]) rfl f_v5 (.inl (by simp)) infoTrap (by simp) (by simp [Value.oneCell']) rfl rfl e0 fun u1 y1 du1 t1 e1 g1 => ?_
 rw [lay_all #[.int .i64 0, .int .u32 0] #[.int .i64 k, .int .u32 v] rfl] at g1
 replace f_v4 := (f_v4.dn du1).trn t1 n_v4_v5.out
 clear f_v5 e0
 have f_v5 := g1
 have e0 := e1
 clear g1 t1 du1 e1
 refine wpX_end (by kernel_rfl) fun w' dx => NoPanic.normal ?_
 have D := e0.trans (Dn.dx dx)
 replace f_v4 := f_v4.dn dx
 replace f_v5 := f_v5.dn dx
 clear e0 dx
 replace v2 := v2.dx D nx_v2
 replace v3 := v3.dx D nx_v3
 replace v10 := v10.dx D nx_v10
 replace v15 := v15.dx D nx_v15
 replace v16 := v16.dx D nx_v16
 replace HD := Lib.hid (HD.out.of_dx D hbl)
 clear v4 v5 D hbs hbl nx_v2 nx_v3 nx_v10 nx_v15 nx_v16
 have v4 := f_v4
 clear f_v4
 have v5 := f_v5
 clear f_v5
 go_wp2_with fail
 exact retMT rfl rfl rfl v4 hl v5 ⟨rfl, HD.out⟩ rfl
set_option maxRecDepth 100000 in
set_option maxHeartbeats 2000000 in
theorem rd14ok (m : Mc) (rd ra rb imm x y z u : Int) (W : World) (hm : m.Ok W) (i0 : -2147483648 ≤ imm) (i1 : imm < 2147483648) (hx : M.reg m.c ra = x) (hy : M.reg m.c rb = y) (hz : M.reg m.c rd = z) (hu : M.iw imm = u) (hs : m.xs.length ≤ 100000) (zs : List Int) (hk : M.acz m.c m.xs.length ((x + u) % 4294967296) 1 = 0) (hzs : M.asv m.c m.xs ((x + u) % 4294967296) 1 z = zs) (c2 : List Int) (h2 : M.adv m.c 4 = c2) :
   Calls Tryz.prog 36 #[.agg (mach m), .agg (ins 14 rd ra rb imm)] W fun e W' => ExRet W m ⟨c2, zs, 0, 0⟩ e W' := by
 have hl := hm.len
 have hc := hm.core
 have G1 := Lib.hid fun w => (by have h := refGet (m.c.take 16) ra w (take16 hl); rw [M.reg_take m.c hl, hx] at h; exact h : Calls Tryz.prog 49 #[.agg (ints .u32 (m.c.take 16)), .int .i64 ra] w fun e W' => e = .returned (.int .u32 x) ∧ Dn w W')
 have G2 := Lib.hid fun w => (by have h := refGet (m.c.take 16) rb w (take16 hl); rw [M.reg_take m.c hl, hy] at h; exact h : Calls Tryz.prog 49 #[.agg (ints .u32 (m.c.take 16)), .int .i64 rb] w fun e W' => e = .returned (.int .u32 y) ∧ Dn w W')
 have G3 := Lib.hid fun w => (by have h := refGet (m.c.take 16) rd w (take16 hl); rw [M.reg_take m.c hl, hz] at h; exact h : Calls Tryz.prog 49 #[.agg (ints .u32 (m.c.take 16)), .int .i64 rd] w fun e W' => e = .returned (.int .u32 z) ∧ Dn w W')
 have xr : 0 ≤ x ∧ x < 4294967296 := by rw [← hx]; exact M.reg_rng hc _
 have yr : 0 ≤ y ∧ y < 4294967296 := by rw [← hy]; exact M.reg_rng hc _
 have zr : 0 ≤ z ∧ z < 4294967296 := by rw [← hz]; exact M.reg_rng hc _
 have ur : 0 ≤ u ∧ u < 4294967296 := by rw [← hu]; exact M.iw_rng _
 have G4 := Lib.hid (rTimes imm 1 u i0 i1 (by decide) (by decide) (by rw [← hu]; unfold M.iw; omega))
 have sr : 0 ≤ (x + u) % 4294967296 ∧ (x + u) % 4294967296 < 4294967296 := M.wrap_rng _
 have C1 := Lib.hid fun w => fun (ow : m.Ok w) => rfstore m ((x + u) % 4294967296) 1 z w ow hs sr.1 sr.2 (by decide) (by decide) zr.1 zr.2 zs 0 0 hzs hk (M.atv_yes hk)
 have k2 : M.Core c2 := by rw [← h2]; exact hc.adv 4
 have C2 := Lib.hid fun (w : World) (m1 : Mc) (ow : m1.Ok w) (e : m1.c = m.c) => (rPut m1 0 0 4 w ow (by decide) (by decide) (by decide) (by decide) m.c c2 (by rw [e]; rfl) h2 _ rfl).mono fun e W' h => (⟨_, h.1, Lib.hid rfl, h.2⟩ : ∃ m2, e = .returned (.agg (mach m2)) ∧ Hid (m2 = { m1 with c := c2 }) ∧ Dn w W')
 clear hk hzs h2
 clear hx hy hz
 have HD := Lib.hid (Dn.refl W)
 go_enter Tryz.func36, Tryz.ntmps36
 go_wp2_with (first | ((with_reducible refine wpList_box (vs := (mach m)) ?_ ?_ ?_); rfl; rfl; intro b_v2 w' nn; refine Hid.out ?_))
 refine Lib.hid ?_
 have d' := nn.dn
 replace HD := hT HD d'
 have v2 := nn.blk
 clear d' nn
 go_wp2_with (first | ((with_reducible refine wpList_box (vs := (ins 14 rd ra rb imm)) ?_ ?_ ?_); rfl; rfl; intro b_v3 w' nn; refine Hid.out ?_))
 refine Lib.hid ?_
 have d' := nn.dn
 replace v2 := v2.dn d'
 replace HD := hT HD d'
 have v3 := nn.blk
 clear d' nn
 go_wp2_with (first | ((with_reducible refine wpList_alloc zeroMach ?_ ?_); rfl; intro b_v4 w' nn; refine Hid.out ?_))
 refine Lib.hid ?_
 have n_v2_v4 := Lib.hid (nn.ne _ v2.lt)
 have n_v3_v4 := Lib.hid (nn.ne _ v3.lt)
 have HL_v4 : Hid (W.heap.size ≤ b_v4) := Lib.hid (Blk.hi nn HD.out.size)
 have d' := nn.dn
 replace v2 := v2.dn d'
 replace v3 := v3.dn d'
 replace HD := hT HD d'
 have v4 := nn.blk
 clear d' nn
 go_wp2_with (first | ((with_reducible refine wpList_alloc zeroTrap ?_ ?_); rfl; intro b_v5 w' nn; refine Hid.out ?_))
 refine Lib.hid ?_
 have n_v2_v5 := Lib.hid (nn.ne _ v2.lt)
 have n_v3_v5 := Lib.hid (nn.ne _ v3.lt)
 have n_v4_v5 := Lib.hid (nn.ne _ v4.lt)
 have HL_v5 : Hid (W.heap.size ≤ b_v5) := Lib.hid (Blk.hi nn HD.out.size)
 have d' := nn.dn
 replace v2 := v2.dn d'
 replace v3 := v3.dn d'
 replace v4 := v4.dn d'
 replace HD := hT HD d'
 have v5 := nn.blk
 clear d' nn
 have ck0 := v3.ira
 go_wp2_with (first | ((with_reducible refine loadRegs v2 hl ?_ ?_ ?_); rfl; rfl) | (go_at_call 49; (with_reducible refine (G1.out _).mono ?_); rintro e w' ⟨rfl, d'⟩; refine Hid.out ?_))
 refine Lib.hid ?_
 clear ck0
 replace v2 := v2.dn d'
 replace v3 := v3.dn d'
 replace v4 := v4.dn d'
 replace v5 := v5.dn d'
 replace HD := hT HD d'
 clear d'
 have ck0 := v3.irb
 go_wp2_with (first | ((with_reducible refine loadRegs v2 hl ?_ ?_ ?_); rfl; rfl) | (go_at_call 49; (with_reducible refine (G2.out _).mono ?_); rintro e w' ⟨rfl, d'⟩; refine Hid.out ?_))
 refine Lib.hid ?_
 clear ck0
 replace v2 := v2.dn d'
 replace v3 := v3.dn d'
 replace v4 := v4.dn d'
 replace v5 := v5.dn d'
 replace HD := hT HD d'
 clear d'
 have ck0 := v3.ird
 go_wp2_with (first | ((with_reducible refine loadRegs v2 hl ?_ ?_ ?_); rfl; rfl) | (go_at_call 49; (with_reducible refine (G3.out _).mono ?_); rintro e w' ⟨rfl, d'⟩; refine Hid.out ?_))
 refine Lib.hid ?_
 clear ck0
 replace v2 := v2.dn d'
 replace v3 := v3.dn d'
 replace v4 := v4.dn d'
 replace v5 := v5.dn d'
 replace HD := hT HD d'
 clear d'
 have ck0 := v3.iimm
 go_wp2_with (first | (go_at_call 54; (with_reducible refine (G4.out _).mono ?_); rintro e w' ⟨rfl, d'⟩; refine Hid.out ?_))
 refine Lib.hid ?_
 clear ck0
 replace v2 := v2.dn d'
 replace v3 := v3.dn d'
 replace v4 := v4.dn d'
 replace v5 := v5.dn d'
 replace HD := hT HD d'
 clear d'
 go_wp2_with (first | ((with_reducible refine wpList_alloc zeroTrap ?_ ?_); rfl; intro b_v10 w' nn; refine Hid.out ?_))
 refine Lib.hid ?_
 have n_v4_v10 := Lib.hid (nn.ne _ v4.lt)
 have n_v5_v10 := Lib.hid (nn.ne _ v5.lt)
 have d' := nn.dn
 replace v2 := v2.dn d'
 replace v3 := v3.dn d'
 replace v4 := v4.dn d'
 replace v5 := v5.dn d'
 replace HD := hT HD d'
 have v10 := nn.blk
 clear d' nn
 have ck0 := v3.iop
 go_wp2_with (first | ((with_reducible refine load33 v2 hl ?_ ?_ ?_); rfl; rfl) | (go_at_call 57; (with_reducible refine (C1.out _ (hm.dn HD.out)).mono ?_); rintro e w' ⟨m1, rfl, om1, up, d'⟩; refine Hid.out ?_))
 refine Lib.hid ?_
 clear ck0
 replace v2 := v2.dn d'
 replace v3 := v3.dn d'
 replace v4 := v4.dn d'
 replace v5 := v5.dn d'
 replace v10 := v10.dn d'
 replace HD := hT HD d'
 clear d'
 have hl1 := om1.out.len
 have hc1 := Lib.hid up.out.core
 have oo := Lib.hid om1.out
 go_wp2_with (first | ((with_reducible refine wpList_alloc zeroMach ?_ ?_); rfl; intro b_v15 w' nn; refine Hid.out ?_))
 refine Lib.hid ?_
 have n_v2_v15 := Lib.hid (nn.ne _ v2.lt)
 have n_v3_v15 := Lib.hid (nn.ne _ v3.lt)
 have n_v4_v15 := Lib.hid (nn.ne _ v4.lt)
 have n_v5_v15 := Lib.hid (nn.ne _ v5.lt)
 have n_v10_v15 := Lib.hid (nn.ne _ v10.lt)
 have HL_v15 : Hid (W.heap.size ≤ b_v15) := Lib.hid (Blk.hi nn HD.out.size)
 have d' := nn.dn
 replace v2 := v2.dn d'
 replace v3 := v3.dn d'
 replace v4 := v4.dn d'
 replace v5 := v5.dn d'
 replace v10 := v10.dn d'
 replace oo := Lib.hid (oo.out.dn d')
 replace HD := hT HD d'
 have v15 := nn.blk
 clear d' nn
 go_wp2_with (first | ((with_reducible refine wpList_alloc zeroTrap ?_ ?_); rfl; intro b_v16 w' nn; refine Hid.out ?_))
 refine Lib.hid ?_
 have n_v2_v16 := Lib.hid (nn.ne _ v2.lt)
 have n_v3_v16 := Lib.hid (nn.ne _ v3.lt)
 have n_v4_v16 := Lib.hid (nn.ne _ v4.lt)
 have n_v5_v16 := Lib.hid (nn.ne _ v5.lt)
 have n_v10_v16 := Lib.hid (nn.ne _ v10.lt)
 have n_v15_v16 := Lib.hid (nn.ne _ v15.lt)
 have HL_v16 : Hid (W.heap.size ≤ b_v16) := Lib.hid (Blk.hi nn HD.out.size)
 have d' := nn.dn
 replace v2 := v2.dn d'
 replace v3 := v3.dn d'
 replace v4 := v4.dn d'
 replace v5 := v5.dn d'
 replace v10 := v10.dn d'
 replace v15 := v15.dn d'
 replace oo := Lib.hid (oo.out.dn d')
 replace HD := hT HD d'
 have v16 := nn.blk
 clear d' nn
 go_wp2_with (first | ((with_reducible refine store33 m1 hl1 v15 zlen ?_ ?_ ?_ ?_); rfl; rfl; rfl; intro w' r' t'; refine Hid.out ?_))
 refine Lib.hid ?_
 replace oo := Lib.hid (oo.out.trn v15 (NoU8.mach _) t')
 replace v2 := v2.trn t' n_v2_v15.out
 replace v3 := v3.trn t' n_v3_v15.out
 replace v4 := v4.trn t' n_v4_v15.out
 replace v5 := v5.trn t' n_v5_v15.out
 replace v10 := v10.trn t' n_v10_v15.out
 replace v16 := v16.trn t' n_v15_v16.out.symm
 replace HD := Lib.hid (HD.out.trn HL_v15.out t')
 clear t' v15
 have v15 := r'
 clear r'
 go_wp2_with (first | ((with_reducible refine storeTrap (k := 0) (v := 0) v16 ?_ ?_ ?_ ?_); rfl; rfl; rfl; intro w' r' t'; refine Hid.out ?_))
 refine Lib.hid ?_
 replace oo := Lib.hid (oo.out.trn v16 (NoU8.trap _ _) t')
 replace v2 := v2.trn t' n_v2_v16.out
 replace v3 := v3.trn t' n_v3_v16.out
 replace v4 := v4.trn t' n_v4_v16.out
 replace v5 := v5.trn t' n_v5_v16.out
 replace v10 := v10.trn t' n_v10_v16.out
 replace v15 := v15.trn t' n_v15_v16.out
 replace HD := Lib.hid (HD.out.trn HL_v16.out t')
 clear t' v16
 have v16 := r'
 clear r'
 have ck0 := v16.cell (i := 0) (v := .int .i64 0) rfl
 go_wp2_with fail
 clear ck0
 have nx_v2 : b_v2 ∉ [b_v4, b_v5] := (by simp only [List.mem_cons, List.not_mem_nil, or_false, not_or]; exact ⟨n_v2_v4.out, n_v2_v5.out⟩)
 have nx_v3 : b_v3 ∉ [b_v4, b_v5] := (by simp only [List.mem_cons, List.not_mem_nil, or_false, not_or]; exact ⟨n_v3_v4.out, n_v3_v5.out⟩)
 have nx_v10 : b_v10 ∉ [b_v4, b_v5] := (by simp only [List.mem_cons, List.not_mem_nil, or_false, not_or]; exact ⟨n_v4_v10.out.symm, n_v5_v10.out.symm⟩)
 have nx_v15 : b_v15 ∉ [b_v4, b_v5] := (by simp only [List.mem_cons, List.not_mem_nil, or_false, not_or]; exact ⟨n_v4_v15.out.symm, n_v5_v15.out.symm⟩)
 have nx_v16 : b_v16 ∉ [b_v4, b_v5] := (by simp only [List.mem_cons, List.not_mem_nil, or_false, not_or]; exact ⟨n_v4_v16.out.symm, n_v5_v16.out.symm⟩)
 have hbs : ∀ b ∈ [b_v4, b_v5], ∃ t cs, Blk w' b t cs ∧ NoU8 cs := by
   intro b hb
   simp only [List.mem_cons, List.not_mem_nil, or_false] at hb
   rcases hb with rfl | rfl
   · exact ⟨_, _, v4, (NoU8.mach _)⟩
   · exact ⟨_, _, v5, (NoU8.trap _ _)⟩
 have hbl : ∀ b ∈ [b_v4, b_v5], W.heap.size ≤ b := by
   intro b hb
   simp only [List.mem_cons, List.not_mem_nil, or_false] at hb
   rcases hb with rfl | rfl
   · exact HL_v4.out
   · exact HL_v5.out
 refine wp_region_picks [b_v4, b_v5] [0, 2] 3 (by kernel_rfl) (by kernel_rfl) rfl (by kernel_rfl) ?_
 simp only [pickL, List.drop_succ_cons, List.drop_zero, List.take_succ_cons, List.take_zero, List.cons_append, List.nil_append]
 refine ⟨?_, ?_, ?_⟩
 rotate_left 1
 refine ⟨_, calx33 v15 hl1 nx_v15 (by rfl) rfl, ?_⟩
 simp only [Act.put, tA, tS, tZ]
 refine ⟨_, calxTrap v10 nx_v10 (by rfl) rfl, ?_⟩
 simp only [Act.put, tA, tS, tZ]
 exact rfl
 have e0 : Dx [b_v4, b_v5] w' w'.drew := Dn.dx (Dn.drawn _)
 have f_v4 := v4.dn (Dn.drawn w')
 have f_v5 := v5.dn (Dn.drawn w')
 refine wpX_one 1 (by kernel_rfl) ?_
 refine x1_call rfl (by rfl) (fun u => by go_simp) e0 fun x0 dx ex => (C2.out x0 m1 (oo.out.dx ex hbs) hc1.out).mono ?_
 rintro e y0 ⟨m2, rfl, hm2, d'⟩
 refine ⟨d', _, rfl, ?_⟩
 replace e0 := ex.trans (Dn.dx d')
 replace f_v4 := (f_v4.dn dx).dn d'
 replace f_v5 := (f_v5.dn dx).dn d'
 have hl2 : m2.c.length = 29 := by rw [hm2.out]; exact k2.len
 clear dx ex d'
 simp only [Act.put, tA, tS, tZ]
 refine wpX_one 3 (by kernel_rfl) ?_
 refine x1_store 0 (vs := (mach m2)) rfl f_v4 (.inl (by simp)) (info_mach hl2) (by rw [mach_size hl2, mach_size zlen]; omega) (mach_one _) rfl rfl e0 fun u1 y1 du1 t1 e1 g1 => ?_
 rw [lay_all (mach Mc.zero) (mach m2) (by rw [mach_size hl2, mach_size zlen])] at g1
 replace f_v5 := (f_v5.dn du1).trn t1 n_v4_v5.out.symm
 clear f_v4 e0
 have f_v4 := g1
 have e0 := e1
 clear g1 t1 du1 e1
 refine wpX_one 4 (by kernel_rfl) ?_
 refine x1_store 0 (vs := #[.int .i64 0, .int .u32 0]) rfl f_v5 (.inl (by simp)) infoTrap (by simp) (by simp [Value.oneCell']) rfl rfl e0 fun u1 y1 du1 t1 e1 g1 => ?_
 rw [lay_all #[.int .i64 0, .int .u32 0] #[.int .i64 0, .int .u32 0] rfl] at g1
 replace f_v4 := (f_v4.dn du1).trn t1 n_v4_v5.out
 clear f_v5 e0
 have f_v5 := g1
 have e0 := e1
 clear g1 t1 du1 e1
 refine wpX_end (by kernel_rfl) fun w' dx => NoPanic.normal ?_
 have D := e0.trans (Dn.dx dx)
 replace f_v4 := f_v4.dn dx
 replace f_v5 := f_v5.dn dx
 clear e0 dx
 replace v2 := v2.dx D nx_v2
 replace v3 := v3.dx D nx_v3
 replace v10 := v10.dx D nx_v10
 replace v15 := v15.dx D nx_v15
 replace v16 := v16.dx D nx_v16
 replace oo := Lib.hid (oo.out.dx D hbs)
 replace HD := Lib.hid (HD.out.of_dx D hbl)
 clear v4 v5 D hbs hbl nx_v2 nx_v3 nx_v10 nx_v15 nx_v16
 have v4 := f_v4
 clear f_v4
 have v5 := f_v5
 clear f_v5
 replace oo : Hid (m2.Ok w') := Lib.hid (by rw [hm2.out]; exact ⟨k2, oo.out.mem, oo.out.out, oo.out.t0, oo.out.t1⟩)
 replace up : Hid (Mc.Up { m with c := c2 } zs m2) := Lib.hid (by obtain ⟨A, k, h⟩ := up.out; rw [hm2.out, h]; exact ⟨A, k, rfl⟩)
 go_wp2_with fail
 exact retMT rfl rfl rfl v4 hl2 v5 ⟨m2, rfl, oo, up, HD.out⟩ rfl
set_option maxRecDepth 100000 in
set_option maxHeartbeats 2000000 in
theorem rd14no (m : Mc) (rd ra rb imm x y z u : Int) (W : World) (hm : m.Ok W) (i0 : -2147483648 ≤ imm) (i1 : imm < 2147483648) (hx : M.reg m.c ra = x) (hy : M.reg m.c rb = y) (hz : M.reg m.c rd = z) (hu : M.iw imm = u) (hs : m.xs.length ≤ 100000) (k v : Int) (hk : M.acz m.c m.xs.length ((x + u) % 4294967296) 1 = k) (hv : M.atv m.c m.xs.length ((x + u) % 4294967296) 1 = v) (hn : k ≠ 0) :
   Calls Tryz.prog 36 #[.agg (mach m), .agg (ins 14 rd ra rb imm)] W fun e W' => e = .returned (.tuple #[.agg (mach m), .agg #[.int .i64 k, .int .u32 v]]) ∧ Dn W W' := by
 have hl := hm.len
 have hc := hm.core
 have G1 := Lib.hid fun w => (by have h := refGet (m.c.take 16) ra w (take16 hl); rw [M.reg_take m.c hl, hx] at h; exact h : Calls Tryz.prog 49 #[.agg (ints .u32 (m.c.take 16)), .int .i64 ra] w fun e W' => e = .returned (.int .u32 x) ∧ Dn w W')
 have G2 := Lib.hid fun w => (by have h := refGet (m.c.take 16) rb w (take16 hl); rw [M.reg_take m.c hl, hy] at h; exact h : Calls Tryz.prog 49 #[.agg (ints .u32 (m.c.take 16)), .int .i64 rb] w fun e W' => e = .returned (.int .u32 y) ∧ Dn w W')
 have G3 := Lib.hid fun w => (by have h := refGet (m.c.take 16) rd w (take16 hl); rw [M.reg_take m.c hl, hz] at h; exact h : Calls Tryz.prog 49 #[.agg (ints .u32 (m.c.take 16)), .int .i64 rd] w fun e W' => e = .returned (.int .u32 z) ∧ Dn w W')
 have xr : 0 ≤ x ∧ x < 4294967296 := by rw [← hx]; exact M.reg_rng hc _
 have yr : 0 ≤ y ∧ y < 4294967296 := by rw [← hy]; exact M.reg_rng hc _
 have zr : 0 ≤ z ∧ z < 4294967296 := by rw [← hz]; exact M.reg_rng hc _
 have ur : 0 ≤ u ∧ u < 4294967296 := by rw [← hu]; exact M.iw_rng _
 have G4 := Lib.hid (rTimes imm 1 u i0 i1 (by decide) (by decide) (by rw [← hu]; unfold M.iw; omega))
 have sr : 0 ≤ (x + u) % 4294967296 ∧ (x + u) % 4294967296 < 4294967296 := M.wrap_rng _
 obtain ⟨zs, hzs⟩ : ∃ zs, M.asv m.c m.xs ((x + u) % 4294967296) 1 z = zs := ⟨_, rfl⟩
 have C1 := Lib.hid fun w => fun (ow : m.Ok w) => rfstore m ((x + u) % 4294967296) 1 z w ow hs sr.1 sr.2 (by decide) (by decide) zr.1 zr.2 zs k v hzs hk hv
 have hb : (k != 0) = true := by simpa using hn
 have hb2 : (k == 0) = false := by simpa using hn
 clear hk hv hzs hn
 clear hx hy hz
 have HD := Lib.hid (Dn.refl W)
 go_enter Tryz.func36, Tryz.ntmps36
 go_wp2_with (first | ((with_reducible refine wpList_box (vs := (mach m)) ?_ ?_ ?_); rfl; rfl; intro b_v2 w' nn; refine Hid.out ?_))
 refine Lib.hid ?_
 have d' := nn.dn
 replace HD := hT HD d'
 have v2 := nn.blk
 clear d' nn
 go_wp2_with (first | ((with_reducible refine wpList_box (vs := (ins 14 rd ra rb imm)) ?_ ?_ ?_); rfl; rfl; intro b_v3 w' nn; refine Hid.out ?_))
 refine Lib.hid ?_
 have d' := nn.dn
 replace v2 := v2.dn d'
 replace HD := hT HD d'
 have v3 := nn.blk
 clear d' nn
 go_wp2_with (first | ((with_reducible refine wpList_alloc zeroMach ?_ ?_); rfl; intro b_v4 w' nn; refine Hid.out ?_))
 refine Lib.hid ?_
 have n_v2_v4 := Lib.hid (nn.ne _ v2.lt)
 have n_v3_v4 := Lib.hid (nn.ne _ v3.lt)
 have HL_v4 : Hid (W.heap.size ≤ b_v4) := Lib.hid (Blk.hi nn HD.out.size)
 have d' := nn.dn
 replace v2 := v2.dn d'
 replace v3 := v3.dn d'
 replace HD := hT HD d'
 have v4 := nn.blk
 clear d' nn
 go_wp2_with (first | ((with_reducible refine wpList_alloc zeroTrap ?_ ?_); rfl; intro b_v5 w' nn; refine Hid.out ?_))
 refine Lib.hid ?_
 have n_v2_v5 := Lib.hid (nn.ne _ v2.lt)
 have n_v3_v5 := Lib.hid (nn.ne _ v3.lt)
 have n_v4_v5 := Lib.hid (nn.ne _ v4.lt)
 have HL_v5 : Hid (W.heap.size ≤ b_v5) := Lib.hid (Blk.hi nn HD.out.size)
 have d' := nn.dn
 replace v2 := v2.dn d'
 replace v3 := v3.dn d'
 replace v4 := v4.dn d'
 replace HD := hT HD d'
 have v5 := nn.blk
 clear d' nn
 have ck0 := v3.ira
 go_wp2_with (first | ((with_reducible refine loadRegs v2 hl ?_ ?_ ?_); rfl; rfl) | (go_at_call 49; (with_reducible refine (G1.out _).mono ?_); rintro e w' ⟨rfl, d'⟩; refine Hid.out ?_))
 refine Lib.hid ?_
 clear ck0
 replace v2 := v2.dn d'
 replace v3 := v3.dn d'
 replace v4 := v4.dn d'
 replace v5 := v5.dn d'
 replace HD := hT HD d'
 clear d'
 have ck0 := v3.irb
 go_wp2_with (first | ((with_reducible refine loadRegs v2 hl ?_ ?_ ?_); rfl; rfl) | (go_at_call 49; (with_reducible refine (G2.out _).mono ?_); rintro e w' ⟨rfl, d'⟩; refine Hid.out ?_))
 refine Lib.hid ?_
 clear ck0
 replace v2 := v2.dn d'
 replace v3 := v3.dn d'
 replace v4 := v4.dn d'
 replace v5 := v5.dn d'
 replace HD := hT HD d'
 clear d'
 have ck0 := v3.ird
 go_wp2_with (first | ((with_reducible refine loadRegs v2 hl ?_ ?_ ?_); rfl; rfl) | (go_at_call 49; (with_reducible refine (G3.out _).mono ?_); rintro e w' ⟨rfl, d'⟩; refine Hid.out ?_))
 refine Lib.hid ?_
 clear ck0
 replace v2 := v2.dn d'
 replace v3 := v3.dn d'
 replace v4 := v4.dn d'
 replace v5 := v5.dn d'
 replace HD := hT HD d'
 clear d'
 have ck0 := v3.iimm
 go_wp2_with (first | (go_at_call 54; (with_reducible refine (G4.out _).mono ?_); rintro e w' ⟨rfl, d'⟩; refine Hid.out ?_))
 refine Lib.hid ?_
 clear ck0
 replace v2 := v2.dn d'
 replace v3 := v3.dn d'
 replace v4 := v4.dn d'
 replace v5 := v5.dn d'
 replace HD := hT HD d'
 clear d'
 go_wp2_with (first | ((with_reducible refine wpList_alloc zeroTrap ?_ ?_); rfl; intro b_v10 w' nn; refine Hid.out ?_))
 refine Lib.hid ?_
 have n_v4_v10 := Lib.hid (nn.ne _ v4.lt)
 have n_v5_v10 := Lib.hid (nn.ne _ v5.lt)
 have d' := nn.dn
 replace v2 := v2.dn d'
 replace v3 := v3.dn d'
 replace v4 := v4.dn d'
 replace v5 := v5.dn d'
 replace HD := hT HD d'
 have v10 := nn.blk
 clear d' nn
 have ck0 := v3.iop
 go_wp2_with (first | ((with_reducible refine load33 v2 hl ?_ ?_ ?_); rfl; rfl) | (go_at_call 57; (with_reducible refine (C1.out _ (hm.dn HD.out)).mono ?_); rintro e w' ⟨m1, rfl, om1, up, d'⟩; refine Hid.out ?_))
 refine Lib.hid ?_
 clear ck0
 replace v2 := v2.dn d'
 replace v3 := v3.dn d'
 replace v4 := v4.dn d'
 replace v5 := v5.dn d'
 replace v10 := v10.dn d'
 replace HD := hT HD d'
 clear d'
 have hl1 := om1.out.len
 clear up om1
 go_wp2_with (first | ((with_reducible refine wpList_alloc zeroMach ?_ ?_); rfl; intro b_v15 w' nn; refine Hid.out ?_))
 refine Lib.hid ?_
 have n_v2_v15 := Lib.hid (nn.ne _ v2.lt)
 have n_v3_v15 := Lib.hid (nn.ne _ v3.lt)
 have n_v4_v15 := Lib.hid (nn.ne _ v4.lt)
 have n_v5_v15 := Lib.hid (nn.ne _ v5.lt)
 have n_v10_v15 := Lib.hid (nn.ne _ v10.lt)
 have HL_v15 : Hid (W.heap.size ≤ b_v15) := Lib.hid (Blk.hi nn HD.out.size)
 have d' := nn.dn
 replace v2 := v2.dn d'
 replace v3 := v3.dn d'
 replace v4 := v4.dn d'
 replace v5 := v5.dn d'
 replace v10 := v10.dn d'
 replace HD := hT HD d'
 have v15 := nn.blk
 clear d' nn
 go_wp2_with (first | ((with_reducible refine wpList_alloc zeroTrap ?_ ?_); rfl; intro b_v16 w' nn; refine Hid.out ?_))
 refine Lib.hid ?_
 have n_v2_v16 := Lib.hid (nn.ne _ v2.lt)
 have n_v3_v16 := Lib.hid (nn.ne _ v3.lt)
 have n_v4_v16 := Lib.hid (nn.ne _ v4.lt)
 have n_v5_v16 := Lib.hid (nn.ne _ v5.lt)
 have n_v10_v16 := Lib.hid (nn.ne _ v10.lt)
 have n_v15_v16 := Lib.hid (nn.ne _ v15.lt)
 have HL_v16 : Hid (W.heap.size ≤ b_v16) := Lib.hid (Blk.hi nn HD.out.size)
 have d' := nn.dn
 replace v2 := v2.dn d'
 replace v3 := v3.dn d'
 replace v4 := v4.dn d'
 replace v5 := v5.dn d'
 replace v10 := v10.dn d'
 replace v15 := v15.dn d'
 replace HD := hT HD d'
 have v16 := nn.blk
 clear d' nn
 go_wp2_with (first | ((with_reducible refine store33 m1 hl1 v15 zlen ?_ ?_ ?_ ?_); rfl; rfl; rfl; intro w' r' t'; refine Hid.out ?_))
 refine Lib.hid ?_
 replace v2 := v2.trn t' n_v2_v15.out
 replace v3 := v3.trn t' n_v3_v15.out
 replace v4 := v4.trn t' n_v4_v15.out
 replace v5 := v5.trn t' n_v5_v15.out
 replace v10 := v10.trn t' n_v10_v15.out
 replace v16 := v16.trn t' n_v15_v16.out.symm
 replace HD := Lib.hid (HD.out.trn HL_v15.out t')
 clear t' v15
 have v15 := r'
 clear r'
 go_wp2_with (first | ((with_reducible refine storeTrap (k := k) (v := v) v16 ?_ ?_ ?_ ?_); rfl; rfl; rfl; intro w' r' t'; refine Hid.out ?_))
 refine Lib.hid ?_
 replace v2 := v2.trn t' n_v2_v16.out
 replace v3 := v3.trn t' n_v3_v16.out
 replace v4 := v4.trn t' n_v4_v16.out
 replace v5 := v5.trn t' n_v5_v16.out
 replace v10 := v10.trn t' n_v10_v16.out
 replace v15 := v15.trn t' n_v15_v16.out
 replace HD := Lib.hid (HD.out.trn HL_v16.out t')
 clear t' v16
 have v16 := r'
 clear r'
 have ck0 := v16.cell (i := 0) (v := .int .i64 k) rfl
 go_wp2_with fail
 clear ck0
 have nx_v2 : b_v2 ∉ [b_v4, b_v5] := (by simp only [List.mem_cons, List.not_mem_nil, or_false, not_or]; exact ⟨n_v2_v4.out, n_v2_v5.out⟩)
 have nx_v3 : b_v3 ∉ [b_v4, b_v5] := (by simp only [List.mem_cons, List.not_mem_nil, or_false, not_or]; exact ⟨n_v3_v4.out, n_v3_v5.out⟩)
 have nx_v10 : b_v10 ∉ [b_v4, b_v5] := (by simp only [List.mem_cons, List.not_mem_nil, or_false, not_or]; exact ⟨n_v4_v10.out.symm, n_v5_v10.out.symm⟩)
 have nx_v15 : b_v15 ∉ [b_v4, b_v5] := (by simp only [List.mem_cons, List.not_mem_nil, or_false, not_or]; exact ⟨n_v4_v15.out.symm, n_v5_v15.out.symm⟩)
 have nx_v16 : b_v16 ∉ [b_v4, b_v5] := (by simp only [List.mem_cons, List.not_mem_nil, or_false, not_or]; exact ⟨n_v4_v16.out.symm, n_v5_v16.out.symm⟩)
 have hbs : ∀ b ∈ [b_v4, b_v5], ∃ t cs, Blk w' b t cs ∧ NoU8 cs := by
   intro b hb
   simp only [List.mem_cons, List.not_mem_nil, or_false] at hb
   rcases hb with rfl | rfl
   · exact ⟨_, _, v4, (NoU8.mach _)⟩
   · exact ⟨_, _, v5, (NoU8.trap _ _)⟩
 have hbl : ∀ b ∈ [b_v4, b_v5], W.heap.size ≤ b := by
   intro b hb
   simp only [List.mem_cons, List.not_mem_nil, or_false] at hb
   rcases hb with rfl | rfl
   · exact HL_v4.out
   · exact HL_v5.out
 refine wp_region_picks [b_v4, b_v5] [0, 1] 2 (by kernel_rfl) (by kernel_rfl) rfl (by kernel_rfl) ?_
 simp only [pickL, List.drop_succ_cons, List.drop_zero, List.take_succ_cons, List.take_zero, List.cons_append, List.nil_append]
 refine ⟨?_, ?_, ?_⟩
 rotate_left 1
 refine ⟨_, calx33 v2 hl nx_v2 (by rfl) rfl, ?_⟩
 simp only [Act.put, tA, tS, tZ]
 refine ⟨_, calxTrap v16 nx_v16 (by rfl) rfl, ?_⟩
 simp only [Act.put, tA, tS, tZ]
 exact rfl
 have e0 : Dx [b_v4, b_v5] w' w'.drew := Dn.dx (Dn.drawn _)
 have f_v4 := v4.dn (Dn.drawn w')
 have f_v5 := v5.dn (Dn.drawn w')
 refine wpX_one 2 (by kernel_rfl) ?_
 refine x1_store 0 (vs := (mach m)) rfl f_v4 (.inl (by simp)) (info_mach hl) (by rw [mach_size hl, mach_size zlen]; omega) (mach_one _) rfl rfl e0 fun u1 y1 du1 t1 e1 g1 => ?_
 rw [lay_all (mach Mc.zero) (mach m) (by rw [mach_size hl, mach_size zlen])] at g1
 replace f_v5 := (f_v5.dn du1).trn t1 n_v4_v5.out.symm
 clear f_v4 e0
 have f_v4 := g1
 have e0 := e1
 clear g1 t1 du1 e1
 refine wpX_one 3 (by kernel_rfl) ?_
 refine x1_store 0 (vs := #[.int .i64 k, .int .u32 v]) rfl f_v5 (.inl (by simp)) infoTrap (by simp) (by simp [Value.oneCell']) rfl rfl e0 fun u1 y1 du1 t1 e1 g1 => ?_
 rw [lay_all #[.int .i64 0, .int .u32 0] #[.int .i64 k, .int .u32 v] rfl] at g1
 replace f_v4 := (f_v4.dn du1).trn t1 n_v4_v5.out
 clear f_v5 e0
 have f_v5 := g1
 have e0 := e1
 clear g1 t1 du1 e1
 refine wpX_end (by kernel_rfl) fun w' dx => NoPanic.normal ?_
 have D := e0.trans (Dn.dx dx)
 replace f_v4 := f_v4.dn dx
 replace f_v5 := f_v5.dn dx
 clear e0 dx
 replace v2 := v2.dx D nx_v2
 replace v3 := v3.dx D nx_v3
 replace v10 := v10.dx D nx_v10
 replace v15 := v15.dx D nx_v15
 replace v16 := v16.dx D nx_v16
 replace HD := Lib.hid (HD.out.of_dx D hbl)
 clear v4 v5 D hbs hbl nx_v2 nx_v3 nx_v10 nx_v15 nx_v16
 have v4 := f_v4
 clear f_v4
 have v5 := f_v5
 clear f_v5
 go_wp2_with fail
 exact retMT rfl rfl rfl v4 hl v5 ⟨rfl, HD.out⟩ rfl
end Go.Proofs.YtclpdjpaaagkdaaGreatDoor
