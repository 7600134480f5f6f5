/-
  Contracts over the translated program and the plain facts behind them, of the texts: ExRdA1, ExRdA2. Conditions: those that stand in each theorem.
-/
import Derived.Test.YtjbnflalngjfaaaGreatDoorPmS
import Derived.Test.YtjbnflalngjfaaaGreatDoorPmE
namespace Go.Proofs.YtjbnflalngjfaaaGreatDoor
open Go.ChangeShapes Go.WideShapes Go.ChangeAt Go.RowKit Go.Sort
set_option linter.unusedVariables false

set_option maxRecDepth 100000 in
set_option maxHeartbeats 2000000 in
theorem rd1 (m : Mc) (rd ra rb imm x y z u : Int) (W : World) (hm : m.Ok W) (i0 : -2147483648 ≤ imm) (i1 : imm < 2147483648) (hx : M.reg m.c ra = x) (hy : M.reg m.c rb = y) (hz : M.reg m.c rd = z) (hu : M.iw imm = u) (v : Int) (hv : M.ev 1 x y = v) (m' : Mc) (hm' : m' = { m with c := M.adv (M.setreg m.c rd v) 4 }) :
   Calls Tryz.prog 30 #[.agg (mach m), .agg (ins 1 rd ra rb imm)] W fun e W' => e = .returned (.tuple #[.agg (mach m'), .agg #[.int .i64 0, .int .u32 0]]) ∧ Dn W W' := by
 have hl := hm.len
 have hc := hm.core
 have G1 := Lib.hid fun w => (by have h := refGet (m.c.take 16) ra w (take16 hl); rw [M.reg_take m.c hl, hx] at h; exact h : Calls Tryz.prog 50 #[.agg (ints .u32 (m.c.take 16)), .int .i64 ra] w fun e W' => e = .returned (.int .u32 x) ∧ Dn w W')
 have G2 := Lib.hid fun w => (by have h := refGet (m.c.take 16) rb w (take16 hl); rw [M.reg_take m.c hl, hy] at h; exact h : Calls Tryz.prog 50 #[.agg (ints .u32 (m.c.take 16)), .int .i64 rb] w fun e W' => e = .returned (.int .u32 y) ∧ Dn w W')
 have G3 := Lib.hid fun w => (by have h := refGet (m.c.take 16) rd w (take16 hl); rw [M.reg_take m.c hl, hz] at h; exact h : Calls Tryz.prog 50 #[.agg (ints .u32 (m.c.take 16)), .int .i64 rd] w fun e W' => e = .returned (.int .u32 z) ∧ Dn w W')
 have xr : 0 ≤ x ∧ x < 4294967296 := by rw [← hx]; exact M.reg_rng hc _
 have yr : 0 ≤ y ∧ y < 4294967296 := by rw [← hy]; exact M.reg_rng hc _
 have zr : 0 ≤ z ∧ z < 4294967296 := by rw [← hz]; exact M.reg_rng hc _
 have ur : 0 ≤ u ∧ u < 4294967296 := by rw [← hu]; exact M.iw_rng _
 have G4 := Lib.hid (rTimes imm 1 u i0 i1 (by decide) (by decide) (by rw [← hu]; unfold M.iw; omega))
 have hvu := M.U.ev (op := 1) ⟨xr.1, xr.2⟩ ⟨yr.1, yr.2⟩
 rw [hv] at hvu
 have hvr : 0 ≤ v ∧ v < 4294967296 := ⟨hvu.lo, hvu.hi⟩
 have C1 := Lib.hid fun w => (by have h := refDo 1 x y w ⟨xr.1, xr.2⟩ ⟨yr.1, yr.2⟩; rw [hv] at h; exact h : Calls Tryz.prog 57 #[.int .i64 1, .int .u32 x, .int .u32 y] w fun e W' => e = .returned (.int .u32 v) ∧ Dn w W')
 have hl' : m'.c.length = 29 := by rw [hm']; exact ((hc.setreg rd hvr).adv 4).len
 have C2 := Lib.hid fun w => fun (ow : m.Ok w) => rPut m rd v 4 w ow hvr.1 hvr.2 (by decide) (by decide) _ _ rfl rfl m' hm'
 clear hm'
 clear hv
 clear hx hy hz
 have HD := Lib.hid (Dn.refl W)
 go_enter Tryz.func30, Tryz.ntmps30
 go_wp2_with (first | ((with_reducible refine wpList_box (vs := (mach m)) ?_ ?_ ?_); rfl; rfl; intro b_v2 w' nn; refine Hid.out ?_))
 refine Lib.hid ?_
 have d' := nn.dn
 replace HD := hT HD d'
 have v2 := nn.blk
 clear d' nn
 go_wp2_with (first | ((with_reducible refine wpList_box (vs := (ins 1 rd ra rb imm)) ?_ ?_ ?_); rfl; rfl; intro b_v3 w' nn; refine Hid.out ?_))
 refine Lib.hid ?_
 have d' := nn.dn
 replace v2 := v2.dn d'
 replace HD := hT HD d'
 have v3 := nn.blk
 clear d' nn
 go_wp2_with (first | ((with_reducible refine wpList_alloc zeroMach ?_ ?_); rfl; intro b_v4 w' nn; refine Hid.out ?_))
 refine Lib.hid ?_
 have n_v2_v4 := Lib.hid (nn.ne _ v2.lt)
 have n_v3_v4 := Lib.hid (nn.ne _ v3.lt)
 have HL_v4 : Hid (W.heap.size ≤ b_v4) := Lib.hid (Blk.hi nn HD.out.size)
 have d' := nn.dn
 replace v2 := v2.dn d'
 replace v3 := v3.dn d'
 replace HD := hT HD d'
 have v4 := nn.blk
 clear d' nn
 go_wp2_with (first | ((with_reducible refine wpList_alloc zeroTrap ?_ ?_); rfl; intro b_v5 w' nn; refine Hid.out ?_))
 refine Lib.hid ?_
 have n_v2_v5 := Lib.hid (nn.ne _ v2.lt)
 have n_v3_v5 := Lib.hid (nn.ne _ v3.lt)
 have n_v4_v5 := Lib.hid (nn.ne _ v4.lt)
 have HL_v5 : Hid (W.heap.size ≤ b_v5) := Lib.hid (Blk.hi nn HD.out.size)
 have d' := nn.dn
 replace v2 := v2.dn d'
 replace v3 := v3.dn d'
 replace v4 := v4.dn d'
 replace HD := hT HD d'
 have v5 := nn.blk
 clear d' nn
 have ck0 := v3.ira
 go_wp2_with (first | ((with_reducible refine loadRegs v2 hl ?_ ?_ ?_); rfl; rfl) | (go_at_call 50; (with_reducible refine (G1.out _).mono ?_); rintro e w' ⟨rfl, d'⟩; refine Hid.out ?_))
 refine Lib.hid ?_
 clear ck0
 replace v2 := v2.dn d'
 replace v3 := v3.dn d'
 replace v4 := v4.dn d'
 replace v5 := v5.dn d'
 replace HD := hT HD d'
 clear d'
 have ck0 := v3.irb
 go_wp2_with (first | ((with_reducible refine loadRegs v2 hl ?_ ?_ ?_); rfl; rfl) | (go_at_call 50; (with_reducible refine (G2.out _).mono ?_); rintro e w' ⟨rfl, d'⟩; refine Hid.out ?_))
 refine Lib.hid ?_
 clear ck0
 replace v2 := v2.dn d'
 replace v3 := v3.dn d'
 replace v4 := v4.dn d'
 replace v5 := v5.dn d'
 replace HD := hT HD d'
 clear d'
 have ck0 := v3.ird
 go_wp2_with (first | ((with_reducible refine loadRegs v2 hl ?_ ?_ ?_); rfl; rfl) | (go_at_call 50; (with_reducible refine (G3.out _).mono ?_); rintro e w' ⟨rfl, d'⟩; refine Hid.out ?_))
 refine Lib.hid ?_
 clear ck0
 replace v2 := v2.dn d'
 replace v3 := v3.dn d'
 replace v4 := v4.dn d'
 replace v5 := v5.dn d'
 replace HD := hT HD d'
 clear d'
 have ck0 := v3.iimm
 go_wp2_with (first | (go_at_call 55; (with_reducible refine (G4.out _).mono ?_); rintro e w' ⟨rfl, d'⟩; refine Hid.out ?_))
 refine Lib.hid ?_
 clear ck0
 replace v2 := v2.dn d'
 replace v3 := v3.dn d'
 replace v4 := v4.dn d'
 replace v5 := v5.dn d'
 replace HD := hT HD d'
 clear d'
 go_wp2_with (first | ((with_reducible refine wpList_alloc zeroTrap ?_ ?_); rfl; intro b_v10 w' nn; refine Hid.out ?_))
 refine Lib.hid ?_
 have n_v4_v10 := Lib.hid (nn.ne _ v4.lt)
 have n_v5_v10 := Lib.hid (nn.ne _ v5.lt)
 have d' := nn.dn
 replace v2 := v2.dn d'
 replace v3 := v3.dn d'
 replace v4 := v4.dn d'
 replace v5 := v5.dn d'
 replace HD := hT HD d'
 have v10 := nn.blk
 clear d' nn
 have ck0 := v3.iop
 go_wp2_with fail
 clear ck0
 have nx_v2 : b_v2 ∉ [b_v4, b_v5] := (by simp only [List.mem_cons, List.not_mem_nil, or_false, not_or]; exact ⟨n_v2_v4.out, n_v2_v5.out⟩)
 have nx_v3 : b_v3 ∉ [b_v4, b_v5] := (by simp only [List.mem_cons, List.not_mem_nil, or_false, not_or]; exact ⟨n_v3_v4.out, n_v3_v5.out⟩)
 have nx_v10 : b_v10 ∉ [b_v4, b_v5] := (by simp only [List.mem_cons, List.not_mem_nil, or_false, not_or]; exact ⟨n_v4_v10.out.symm, n_v5_v10.out.symm⟩)
 have hbs : ∀ b ∈ [b_v4, b_v5], ∃ t cs, Blk w' b t cs ∧ NoU8 cs := by
   intro b hb
   simp only [List.mem_cons, List.not_mem_nil, or_false] at hb
   rcases hb with rfl | rfl
   · exact ⟨_, _, v4, (NoU8.mach _)⟩
   · exact ⟨_, _, v5, (NoU8.trap _ _)⟩
 have hbl : ∀ b ∈ [b_v4, b_v5], W.heap.size ≤ b := by
   intro b hb
   simp only [List.mem_cons, List.not_mem_nil, or_false] at hb
   rcases hb with rfl | rfl
   · exact HL_v4.out
   · exact HL_v5.out
 refine wp_region_picks [b_v4, b_v5] [0, 1, 2, 3, 4, 5, 6, 7, 8, 9] 2 (by kernel_rfl) (by kernel_rfl) rfl (by kernel_rfl) ?_
 simp only [pickL, List.drop_succ_cons, List.drop_zero, List.take_succ_cons, List.take_zero, List.cons_append, List.nil_append]
 refine ⟨?_, ?_, ?_⟩
 rotate_left 1
 refine ⟨_, calx33 v2 hl nx_v2 (by rfl) rfl, ?_⟩
 simp only [Act.put, tA, tS, tZ]
 refine ⟨_, calx_pure (by rfl) (fun u => by go_simp; rfl), ?_⟩
 simp only [Act.put, tA, tS, tZ]
 refine ⟨_, calxInt (v := .int .i64 rd) v3 nx_v3 Tryz.underlying3 (by rfl) rfl rfl, ?_⟩
 simp only [Act.put, tA, tS, tZ]
 refine ⟨_, calx_pure (by rfl) (fun u => by go_simp; rfl), ?_⟩
 simp only [Act.put, tA, tS, tZ]
 refine ⟨_, calxInt (v := .int .i64 1) v3 nx_v3 Tryz.underlying3 (by rfl) rfl rfl, ?_⟩
 simp only [Act.put, tA, tS, tZ]
 refine ⟨_, calx_pure (by rfl) (fun u => by go_simp; rfl), ?_⟩
 simp only [Act.put, tA, tS, tZ]
 refine ⟨_, calx_pure (by rfl) (fun u => by go_simp; rfl), ?_⟩
 simp only [Act.put, tA, tS, tZ]
 refine ⟨_, calx_call (fun u du => C1.out u) (by rfl) (fun u => by go_simp), ?_⟩
 simp only [Act.put, tA, tS, tZ]
 refine ⟨_, calx_call (fun u du => C2.out u (hm.dn (HD.out.of_dx du hbl))) (by rfl) (fun u => by go_simp), ?_⟩
 simp only [Act.put, tA, tS, tZ]
 refine ⟨_, calxTrap v10 nx_v10 (by rfl) rfl, ?_⟩
 simp only [Act.put, tA, tS, tZ]
 exact rfl
 have e0 : Dx [b_v4, b_v5] w' w'.drew := Dn.dx (Dn.drawn _)
 have f_v4 := v4.dn (Dn.drawn w')
 have f_v5 := v5.dn (Dn.drawn w')
 refine wpX_one 10 (by kernel_rfl) ?_
 refine x1_store 0 (vs := (mach m')) rfl f_v4 (.inl (by simp)) (info_mach hl') (by rw [mach_size hl', mach_size zlen]; omega) (mach_one _) rfl rfl e0 fun u1 y1 du1 t1 e1 g1 => ?_
 rw [lay_all (mach Mc.zero) (mach m') (by rw [mach_size hl', mach_size zlen])] at g1
 replace f_v5 := (f_v5.dn du1).trn t1 n_v4_v5.out.symm
 clear f_v4 e0
 have f_v4 := g1
 have e0 := e1
 clear g1 t1 du1 e1
 refine wpX_one 11 (by kernel_rfl) ?_
 refine x1_store 0 (vs := #[.int .i64 0, .int .u32 0]) rfl f_v5 (.inl (by simp)) infoTrap (by simp) (by simp [Value.oneCell']) rfl rfl e0 fun u1 y1 du1 t1 e1 g1 => ?_
 rw [lay_all #[.int .i64 0, .int .u32 0] #[.int .i64 0, .int .u32 0] rfl] at g1
 replace f_v4 := (f_v4.dn du1).trn t1 n_v4_v5.out
 clear f_v5 e0
 have f_v5 := g1
 have e0 := e1
 clear g1 t1 du1 e1
 refine wpX_end (by kernel_rfl) fun w' dx => NoPanic.normal ?_
 have D := e0.trans (Dn.dx dx)
 replace f_v4 := f_v4.dn dx
 replace f_v5 := f_v5.dn dx
 clear e0 dx
 replace v2 := v2.dx D nx_v2
 replace v3 := v3.dx D nx_v3
 replace v10 := v10.dx D nx_v10
 replace HD := Lib.hid (HD.out.of_dx D hbl)
 clear v4 v5 D hbs hbl nx_v2 nx_v3 nx_v10
 have v4 := f_v4
 clear f_v4
 have v5 := f_v5
 clear f_v5
 go_wp2_with fail
 exact retMT rfl rfl rfl v4 hl' v5 ⟨rfl, HD.out⟩ rfl
set_option maxRecDepth 100000 in
set_option maxHeartbeats 2000000 in
theorem rd2 (m : Mc) (rd ra rb imm x y z u : Int) (W : World) (hm : m.Ok W) (i0 : -2147483648 ≤ imm) (i1 : imm < 2147483648) (hx : M.reg m.c ra = x) (hy : M.reg m.c rb = y) (hz : M.reg m.c rd = z) (hu : M.iw imm = u) (v : Int) (hv : M.ev 2 x y = v) (m' : Mc) (hm' : m' = { m with c := M.adv (M.setreg m.c rd v) 4 }) :
   Calls Tryz.prog 30 #[.agg (mach m), .agg (ins 2 rd ra rb imm)] W fun e W' => e = .returned (.tuple #[.agg (mach m'), .agg #[.int .i64 0, .int .u32 0]]) ∧ Dn W W' := by
 have hl := hm.len
 have hc := hm.core
 have G1 := Lib.hid fun w => (by have h := refGet (m.c.take 16) ra w (take16 hl); rw [M.reg_take m.c hl, hx] at h; exact h : Calls Tryz.prog 50 #[.agg (ints .u32 (m.c.take 16)), .int .i64 ra] w fun e W' => e = .returned (.int .u32 x) ∧ Dn w W')
 have G2 := Lib.hid fun w => (by have h := refGet (m.c.take 16) rb w (take16 hl); rw [M.reg_take m.c hl, hy] at h; exact h : Calls Tryz.prog 50 #[.agg (ints .u32 (m.c.take 16)), .int .i64 rb] w fun e W' => e = .returned (.int .u32 y) ∧ Dn w W')
 have G3 := Lib.hid fun w => (by have h := refGet (m.c.take 16) rd w (take16 hl); rw [M.reg_take m.c hl, hz] at h; exact h : Calls Tryz.prog 50 #[.agg (ints .u32 (m.c.take 16)), .int .i64 rd] w fun e W' => e = .returned (.int .u32 z) ∧ Dn w W')
 have xr : 0 ≤ x ∧ x < 4294967296 := by rw [← hx]; exact M.reg_rng hc _
 have yr : 0 ≤ y ∧ y < 4294967296 := by rw [← hy]; exact M.reg_rng hc _
 have zr : 0 ≤ z ∧ z < 4294967296 := by rw [← hz]; exact M.reg_rng hc _
 have ur : 0 ≤ u ∧ u < 4294967296 := by rw [← hu]; exact M.iw_rng _
 have G4 := Lib.hid (rTimes imm 1 u i0 i1 (by decide) (by decide) (by rw [← hu]; unfold M.iw; omega))
 have hvu := M.U.ev (op := 2) ⟨xr.1, xr.2⟩ ⟨yr.1, yr.2⟩
 rw [hv] at hvu
 have hvr : 0 ≤ v ∧ v < 4294967296 := ⟨hvu.lo, hvu.hi⟩
 have C1 := Lib.hid fun w => (by have h := refDo 2 x y w ⟨xr.1, xr.2⟩ ⟨yr.1, yr.2⟩; rw [hv] at h; exact h : Calls Tryz.prog 57 #[.int .i64 2, .int .u32 x, .int .u32 y] w fun e W' => e = .returned (.int .u32 v) ∧ Dn w W')
 have hl' : m'.c.length = 29 := by rw [hm']; exact ((hc.setreg rd hvr).adv 4).len
 have C2 := Lib.hid fun w => fun (ow : m.Ok w) => rPut m rd v 4 w ow hvr.1 hvr.2 (by decide) (by decide) _ _ rfl rfl m' hm'
 clear hm'
 clear hv
 clear hx hy hz
 have HD := Lib.hid (Dn.refl W)
 go_enter Tryz.func30, Tryz.ntmps30
 go_wp2_with (first | ((with_reducible refine wpList_box (vs := (mach m)) ?_ ?_ ?_); rfl; rfl; intro b_v2 w' nn; refine Hid.out ?_))
 refine Lib.hid ?_
 have d' := nn.dn
 replace HD := hT HD d'
 have v2 := nn.blk
 clear d' nn
 go_wp2_with (first | ((with_reducible refine wpList_box (vs := (ins 2 rd ra rb imm)) ?_ ?_ ?_); rfl; rfl; intro b_v3 w' nn; refine Hid.out ?_))
 refine Lib.hid ?_
 have d' := nn.dn
 replace v2 := v2.dn d'
 replace HD := hT HD d'
 have v3 := nn.blk
 clear d' nn
 go_wp2_with (first | ((with_reducible refine wpList_alloc zeroMach ?_ ?_); rfl; intro b_v4 w' nn; refine Hid.out ?_))
 refine Lib.hid ?_
 have n_v2_v4 := Lib.hid (nn.ne _ v2.lt)
 have n_v3_v4 := Lib.hid (nn.ne _ v3.lt)
 have HL_v4 : Hid (W.heap.size ≤ b_v4) := Lib.hid (Blk.hi nn HD.out.size)
 have d' := nn.dn
 replace v2 := v2.dn d'
 replace v3 := v3.dn d'
 replace HD := hT HD d'
 have v4 := nn.blk
 clear d' nn
 go_wp2_with (first | ((with_reducible refine wpList_alloc zeroTrap ?_ ?_); rfl; intro b_v5 w' nn; refine Hid.out ?_))
 refine Lib.hid ?_
 have n_v2_v5 := Lib.hid (nn.ne _ v2.lt)
 have n_v3_v5 := Lib.hid (nn.ne _ v3.lt)
 have n_v4_v5 := Lib.hid (nn.ne _ v4.lt)
 have HL_v5 : Hid (W.heap.size ≤ b_v5) := Lib.hid (Blk.hi nn HD.out.size)
 have d' := nn.dn
 replace v2 := v2.dn d'
 replace v3 := v3.dn d'
 replace v4 := v4.dn d'
 replace HD := hT HD d'
 have v5 := nn.blk
 clear d' nn
 have ck0 := v3.ira
 go_wp2_with (first | ((with_reducible refine loadRegs v2 hl ?_ ?_ ?_); rfl; rfl) | (go_at_call 50; (with_reducible refine (G1.out _).mono ?_); rintro e w' ⟨rfl, d'⟩; refine Hid.out ?_))
 refine Lib.hid ?_
 clear ck0
 replace v2 := v2.dn d'
 replace v3 := v3.dn d'
 replace v4 := v4.dn d'
 replace v5 := v5.dn d'
 replace HD := hT HD d'
 clear d'
 have ck0 := v3.irb
 go_wp2_with (first | ((with_reducible refine loadRegs v2 hl ?_ ?_ ?_); rfl; rfl) | (go_at_call 50; (with_reducible refine (G2.out _).mono ?_); rintro e w' ⟨rfl, d'⟩; refine Hid.out ?_))
 refine Lib.hid ?_
 clear ck0
 replace v2 := v2.dn d'
 replace v3 := v3.dn d'
 replace v4 := v4.dn d'
 replace v5 := v5.dn d'
 replace HD := hT HD d'
 clear d'
 have ck0 := v3.ird
 go_wp2_with (first | ((with_reducible refine loadRegs v2 hl ?_ ?_ ?_); rfl; rfl) | (go_at_call 50; (with_reducible refine (G3.out _).mono ?_); rintro e w' ⟨rfl, d'⟩; refine Hid.out ?_))
 refine Lib.hid ?_
 clear ck0
 replace v2 := v2.dn d'
 replace v3 := v3.dn d'
 replace v4 := v4.dn d'
 replace v5 := v5.dn d'
 replace HD := hT HD d'
 clear d'
 have ck0 := v3.iimm
 go_wp2_with (first | (go_at_call 55; (with_reducible refine (G4.out _).mono ?_); rintro e w' ⟨rfl, d'⟩; refine Hid.out ?_))
 refine Lib.hid ?_
 clear ck0
 replace v2 := v2.dn d'
 replace v3 := v3.dn d'
 replace v4 := v4.dn d'
 replace v5 := v5.dn d'
 replace HD := hT HD d'
 clear d'
 go_wp2_with (first | ((with_reducible refine wpList_alloc zeroTrap ?_ ?_); rfl; intro b_v10 w' nn; refine Hid.out ?_))
 refine Lib.hid ?_
 have n_v4_v10 := Lib.hid (nn.ne _ v4.lt)
 have n_v5_v10 := Lib.hid (nn.ne _ v5.lt)
 have d' := nn.dn
 replace v2 := v2.dn d'
 replace v3 := v3.dn d'
 replace v4 := v4.dn d'
 replace v5 := v5.dn d'
 replace HD := hT HD d'
 have v10 := nn.blk
 clear d' nn
 have ck0 := v3.iop
 go_wp2_with fail
 clear ck0
 have nx_v2 : b_v2 ∉ [b_v4, b_v5] := (by simp only [List.mem_cons, List.not_mem_nil, or_false, not_or]; exact ⟨n_v2_v4.out, n_v2_v5.out⟩)
 have nx_v3 : b_v3 ∉ [b_v4, b_v5] := (by simp only [List.mem_cons, List.not_mem_nil, or_false, not_or]; exact ⟨n_v3_v4.out, n_v3_v5.out⟩)
 have nx_v10 : b_v10 ∉ [b_v4, b_v5] := (by simp only [List.mem_cons, List.not_mem_nil, or_false, not_or]; exact ⟨n_v4_v10.out.symm, n_v5_v10.out.symm⟩)
 have hbs : ∀ b ∈ [b_v4, b_v5], ∃ t cs, Blk w' b t cs ∧ NoU8 cs := by
   intro b hb
   simp only [List.mem_cons, List.not_mem_nil, or_false] at hb
   rcases hb with rfl | rfl
   · exact ⟨_, _, v4, (NoU8.mach _)⟩
   · exact ⟨_, _, v5, (NoU8.trap _ _)⟩
 have hbl : ∀ b ∈ [b_v4, b_v5], W.heap.size ≤ b := by
   intro b hb
   simp only [List.mem_cons, List.not_mem_nil, or_false] at hb
   rcases hb with rfl | rfl
   · exact HL_v4.out
   · exact HL_v5.out
 refine wp_region_picks [b_v4, b_v5] [0, 1, 2, 3, 4, 5, 6, 7, 8, 9] 2 (by kernel_rfl) (by kernel_rfl) rfl (by kernel_rfl) ?_
 simp only [pickL, List.drop_succ_cons, List.drop_zero, List.take_succ_cons, List.take_zero, List.cons_append, List.nil_append]
 refine ⟨?_, ?_, ?_⟩
 rotate_left 1
 refine ⟨_, calx33 v2 hl nx_v2 (by rfl) rfl, ?_⟩
 simp only [Act.put, tA, tS, tZ]
 refine ⟨_, calx_pure (by rfl) (fun u => by go_simp; rfl), ?_⟩
 simp only [Act.put, tA, tS, tZ]
 refine ⟨_, calxInt (v := .int .i64 rd) v3 nx_v3 Tryz.underlying3 (by rfl) rfl rfl, ?_⟩
 simp only [Act.put, tA, tS, tZ]
 refine ⟨_, calx_pure (by rfl) (fun u => by go_simp; rfl), ?_⟩
 simp only [Act.put, tA, tS, tZ]
 refine ⟨_, calxInt (v := .int .i64 2) v3 nx_v3 Tryz.underlying3 (by rfl) rfl rfl, ?_⟩
 simp only [Act.put, tA, tS, tZ]
 refine ⟨_, calx_pure (by rfl) (fun u => by go_simp; rfl), ?_⟩
 simp only [Act.put, tA, tS, tZ]
 refine ⟨_, calx_pure (by rfl) (fun u => by go_simp; rfl), ?_⟩
 simp only [Act.put, tA, tS, tZ]
 refine ⟨_, calx_call (fun u du => C1.out u) (by rfl) (fun u => by go_simp), ?_⟩
 simp only [Act.put, tA, tS, tZ]
 refine ⟨_, calx_call (fun u du => C2.out u (hm.dn (HD.out.of_dx du hbl))) (by rfl) (fun u => by go_simp), ?_⟩
 simp only [Act.put, tA, tS, tZ]
 refine ⟨_, calxTrap v10 nx_v10 (by rfl) rfl, ?_⟩
 simp only [Act.put, tA, tS, tZ]
 exact rfl
 have e0 : Dx [b_v4, b_v5] w' w'.drew := Dn.dx (Dn.drawn _)
 have f_v4 := v4.dn (Dn.drawn w')
 have f_v5 := v5.dn (Dn.drawn w')
 refine wpX_one 10 (by kernel_rfl) ?_
 refine x1_store 0 (vs := (mach m')) rfl f_v4 (.inl (by simp)) (info_mach hl') (by rw [mach_size hl', mach_size zlen]; omega) (mach_one _) rfl rfl e0 fun u1 y1 du1 t1 e1 g1 => ?_
 rw [lay_all (mach Mc.zero) (mach m') (by rw [mach_size hl', mach_size zlen])] at g1
 replace f_v5 := (f_v5.dn du1).trn t1 n_v4_v5.out.symm
 clear f_v4 e0
 have f_v4 := g1
 have e0 := e1
 clear g1 t1 du1 e1
 refine wpX_one 11 (by kernel_rfl) ?_
 refine x1_store 0 (vs := #[.int .i64 0, .int .u32 0]) rfl f_v5 (.inl (by simp)) infoTrap (by simp) (by simp [Value.oneCell']) rfl rfl e0 fun u1 y1 du1 t1 e1 g1 => ?_
 rw [lay_all #[.int .i64 0, .int .u32 0] #[.int .i64 0, .int .u32 0] rfl] at g1
 replace f_v4 := (f_v4.dn du1).trn t1 n_v4_v5.out
 clear f_v5 e0
 have f_v5 := g1
 have e0 := e1
 clear g1 t1 du1 e1
 refine wpX_end (by kernel_rfl) fun w' dx => NoPanic.normal ?_
 have D := e0.trans (Dn.dx dx)
 replace f_v4 := f_v4.dn dx
 replace f_v5 := f_v5.dn dx
 clear e0 dx
 replace v2 := v2.dx D nx_v2
 replace v3 := v3.dx D nx_v3
 replace v10 := v10.dx D nx_v10
 replace HD := Lib.hid (HD.out.of_dx D hbl)
 clear v4 v5 D hbs hbl nx_v2 nx_v3 nx_v10
 have v4 := f_v4
 clear f_v4
 have v5 := f_v5
 clear f_v5
 go_wp2_with fail
 exact retMT rfl rfl rfl v4 hl' v5 ⟨rfl, HD.out⟩ rfl
set_option maxRecDepth 100000 in
set_option maxHeartbeats 2000000 in
theorem rd3 (m : Mc) (rd ra rb imm x y z u : Int) (W : World) (hm : m.Ok W) (i0 : -2147483648 ≤ imm) (i1 : imm < 2147483648) (hx : M.reg m.c ra = x) (hy : M.reg m.c rb = y) (hz : M.reg m.c rd = z) (hu : M.iw imm = u) (v : Int) (hv : M.ev 3 x y = v) (m' : Mc) (hm' : m' = { m with c := M.adv (M.setreg m.c rd v) 4 }) :
   Calls Tryz.prog 30 #[.agg (mach m), .agg (ins 3 rd ra rb imm)] W fun e W' => e = .returned (.tuple #[.agg (mach m'), .agg #[.int .i64 0, .int .u32 0]]) ∧ Dn W W' := by
 have hl := hm.len
 have hc := hm.core
 have G1 := Lib.hid fun w => (by have h := refGet (m.c.take 16) ra w (take16 hl); rw [M.reg_take m.c hl, hx] at h; exact h : Calls Tryz.prog 50 #[.agg (ints .u32 (m.c.take 16)), .int .i64 ra] w fun e W' => e = .returned (.int .u32 x) ∧ Dn w W')
 have G2 := Lib.hid fun w => (by have h := refGet (m.c.take 16) rb w (take16 hl); rw [M.reg_take m.c hl, hy] at h; exact h : Calls Tryz.prog 50 #[.agg (ints .u32 (m.c.take 16)), .int .i64 rb] w fun e W' => e = .returned (.int .u32 y) ∧ Dn w W')
 have G3 := Lib.hid fun w => (by have h := refGet (m.c.take 16) rd w (take16 hl); rw [M.reg_take m.c hl, hz] at h; exact h : Calls Tryz.prog 50 #[.agg (ints .u32 (m.c.take 16)), .int .i64 rd] w fun e W' => e = .returned (.int .u32 z) ∧ Dn w W')
 have xr : 0 ≤ x ∧ x < 4294967296 := by rw [← hx]; exact M.reg_rng hc _
 have yr : 0 ≤ y ∧ y < 4294967296 := by rw [← hy]; exact M.reg_rng hc _
 have zr : 0 ≤ z ∧ z < 4294967296 := by rw [← hz]; exact M.reg_rng hc _
 have ur : 0 ≤ u ∧ u < 4294967296 := by rw [← hu]; exact M.iw_rng _
 have G4 := Lib.hid (rTimes imm 1 u i0 i1 (by decide) (by decide) (by rw [← hu]; unfold M.iw; omega))
 have hvu := M.U.ev (op := 3) ⟨xr.1, xr.2⟩ ⟨yr.1, yr.2⟩
 rw [hv] at hvu
 have hvr : 0 ≤ v ∧ v < 4294967296 := ⟨hvu.lo, hvu.hi⟩
 have C1 := Lib.hid fun w => (by have h := refDo 3 x y w ⟨xr.1, xr.2⟩ ⟨yr.1, yr.2⟩; rw [hv] at h; exact h : Calls Tryz.prog 57 #[.int .i64 3, .int .u32 x, .int .u32 y] w fun e W' => e = .returned (.int .u32 v) ∧ Dn w W')
 have hl' : m'.c.length = 29 := by rw [hm']; exact ((hc.setreg rd hvr).adv 4).len
 have C2 := Lib.hid fun w => fun (ow : m.Ok w) => rPut m rd v 4 w ow hvr.1 hvr.2 (by decide) (by decide) _ _ rfl rfl m' hm'
 clear hm'
 clear hv
 clear hx hy hz
 have HD := Lib.hid (Dn.refl W)
 go_enter Tryz.func30, Tryz.ntmps30
 go_wp2_with (first | ((with_reducible refine wpList_box (vs := (mach m)) ?_ ?_ ?_); rfl; rfl; intro b_v2 w' nn; refine Hid.out ?_))
 refine Lib.hid ?_
 have d' := nn.dn
 replace HD := hT HD d'
 have v2 := nn.blk
 clear d' nn
 go_wp2_with (first | ((with_reducible refine wpList_box (vs := (ins 3 rd ra rb imm)) ?_ ?_ ?_); rfl; rfl; intro b_v3 w' nn; refine Hid.out ?_))
 refine Lib.hid ?_
 have d' := nn.dn
 replace v2 := v2.dn d'
 replace HD := hT HD d'
 have v3 := nn.blk
 clear d' nn
 go_wp2_with (first | ((with_reducible refine wpList_alloc zeroMach ?_ ?_); rfl; intro b_v4 w' nn; refine Hid.out ?_))
 refine Lib.hid ?_
 have n_v2_v4 := Lib.hid (nn.ne _ v2.lt)
 have n_v3_v4 := Lib.hid (nn.ne _ v3.lt)
 have HL_v4 : Hid (W.heap.size ≤ b_v4) := Lib.hid (Blk.hi nn HD.out.size)
 have d' := nn.dn
 replace v2 := v2.dn d'
 replace v3 := v3.dn d'
 replace HD := hT HD d'
 have v4 := nn.blk
 clear d' nn
 go_wp2_with (first | ((with_reducible refine wpList_alloc zeroTrap ?_ ?_); rfl; intro b_v5 w' nn; refine Hid.out ?_))
 refine Lib.hid ?_
 have n_v2_v5 := Lib.hid (nn.ne _ v2.lt)
 have n_v3_v5 := Lib.hid (nn.ne _ v3.lt)
 have n_v4_v5 := Lib.hid (nn.ne _ v4.lt)
 have HL_v5 : Hid (W.heap.size ≤ b_v5) := Lib.hid (Blk.hi nn HD.out.size)
 have d' := nn.dn
 replace v2 := v2.dn d'
 replace v3 := v3.dn d'
 replace v4 := v4.dn d'
 replace HD := hT HD d'
 have v5 := nn.blk
 clear d' nn
 have ck0 := v3.ira
 go_wp2_with (first | ((with_reducible refine loadRegs v2 hl ?_ ?_ ?_); rfl; rfl) | (go_at_call 50; (with_reducible refine (G1.out _).mono ?_); rintro e w' ⟨rfl, d'⟩; refine Hid.out ?_))
 refine Lib.hid ?_
 clear ck0
 replace v2 := v2.dn d'
 replace v3 := v3.dn d'
 replace v4 := v4.dn d'
 replace v5 := v5.dn d'
 replace HD := hT HD d'
 clear d'
 have ck0 := v3.irb
 go_wp2_with (first | ((with_reducible refine loadRegs v2 hl ?_ ?_ ?_); rfl; rfl) | (go_at_call 50; (with_reducible refine (G2.out _).mono ?_); rintro e w' ⟨rfl, d'⟩; refine Hid.out ?_))
 refine Lib.hid ?_
 clear ck0
 replace v2 := v2.dn d'
 replace v3 := v3.dn d'
 replace v4 := v4.dn d'
 replace v5 := v5.dn d'
 replace HD := hT HD d'
 clear d'
 have ck0 := v3.ird
 go_wp2_with (first | ((with_reducible refine loadRegs v2 hl ?_ ?_ ?_); rfl; rfl) | (go_at_call 50; (with_reducible refine (G3.out _).mono ?_); rintro e w' ⟨rfl, d'⟩; refine Hid.out ?_))
 refine Lib.hid ?_
 clear ck0
 replace v2 := v2.dn d'
 replace v3 := v3.dn d'
 replace v4 := v4.dn d'
 replace v5 := v5.dn d'
 replace HD := hT HD d'
 clear d'
 have ck0 := v3.iimm
 go_wp2_with (first | (go_at_call 55; (with_reducible refine (G4.out _).mono ?_); rintro e w' ⟨rfl, d'⟩; refine Hid.out ?_))
 refine Lib.hid ?_
 clear ck0
 replace v2 := v2.dn d'
 replace v3 := v3.dn d'
 replace v4 := v4.dn d'
 replace v5 := v5.dn d'
 replace HD := hT HD d'
 clear d'
 go_wp2_with (first | ((with_reducible refine wpList_alloc zeroTrap ?_ ?_); rfl; intro b_v10 w' nn; refine Hid.out ?_))
 refine Lib.hid ?_
 have n_v4_v10 := Lib.hid (nn.ne _ v4.lt)
 have n_v5_v10 := Lib.hid (nn.ne _ v5.lt)
 have d' := nn.dn
 replace v2 := v2.dn d'
 replace v3 := v3.dn d'
 replace v4 := v4.dn d'
 replace v5 := v5.dn d'
 replace HD := hT HD d'
 have v10 := nn.blk
 clear d' nn
 have ck0 := v3.iop
 go_wp2_with fail
 clear ck0
 have nx_v2 : b_v2 ∉ [b_v4, b_v5] := (by simp only [List.mem_cons, List.not_mem_nil, or_false, not_or]; exact ⟨n_v2_v4.out, n_v2_v5.out⟩)
 have nx_v3 : b_v3 ∉ [b_v4, b_v5] := (by simp only [List.mem_cons, List.not_mem_nil, or_false, not_or]; exact ⟨n_v3_v4.out, n_v3_v5.out⟩)
 have nx_v10 : b_v10 ∉ [b_v4, b_v5] := (by simp only [List.mem_cons, List.not_mem_nil, or_false, not_or]; exact ⟨n_v4_v10.out.symm, n_v5_v10.out.symm⟩)
 have hbs : ∀ b ∈ [b_v4, b_v5], ∃ t cs, Blk w' b t cs ∧ NoU8 cs := by
   intro b hb
   simp only [List.mem_cons, List.not_mem_nil, or_false] at hb
   rcases hb with rfl | rfl
   · exact ⟨_, _, v4, (NoU8.mach _)⟩
   · exact ⟨_, _, v5, (NoU8.trap _ _)⟩
 have hbl : ∀ b ∈ [b_v4, b_v5], W.heap.size ≤ b := by
   intro b hb
   simp only [List.mem_cons, List.not_mem_nil, or_false] at hb
   rcases hb with rfl | rfl
   · exact HL_v4.out
   · exact HL_v5.out
 refine wp_region_picks [b_v4, b_v5] [0, 1, 2, 3, 4, 5, 6, 7, 8, 9] 2 (by kernel_rfl) (by kernel_rfl) rfl (by kernel_rfl) ?_
 simp only [pickL, List.drop_succ_cons, List.drop_zero, List.take_succ_cons, List.take_zero, List.cons_append, List.nil_append]
 refine ⟨?_, ?_, ?_⟩
 rotate_left 1
 refine ⟨_, calx33 v2 hl nx_v2 (by rfl) rfl, ?_⟩
 simp only [Act.put, tA, tS, tZ]
 refine ⟨_, calx_pure (by rfl) (fun u => by go_simp; rfl), ?_⟩
 simp only [Act.put, tA, tS, tZ]
 refine ⟨_, calxInt (v := .int .i64 rd) v3 nx_v3 Tryz.underlying3 (by rfl) rfl rfl, ?_⟩
 simp only [Act.put, tA, tS, tZ]
 refine ⟨_, calx_pure (by rfl) (fun u => by go_simp; rfl), ?_⟩
 simp only [Act.put, tA, tS, tZ]
 refine ⟨_, calxInt (v := .int .i64 3) v3 nx_v3 Tryz.underlying3 (by rfl) rfl rfl, ?_⟩
 simp only [Act.put, tA, tS, tZ]
 refine ⟨_, calx_pure (by rfl) (fun u => by go_simp; rfl), ?_⟩
 simp only [Act.put, tA, tS, tZ]
 refine ⟨_, calx_pure (by rfl) (fun u => by go_simp; rfl), ?_⟩
 simp only [Act.put, tA, tS, tZ]
 refine ⟨_, calx_call (fun u du => C1.out u) (by rfl) (fun u => by go_simp), ?_⟩
 simp only [Act.put, tA, tS, tZ]
 refine ⟨_, calx_call (fun u du => C2.out u (hm.dn (HD.out.of_dx du hbl))) (by rfl) (fun u => by go_simp), ?_⟩
 simp only [Act.put, tA, tS, tZ]
 refine ⟨_, calxTrap v10 nx_v10 (by rfl) rfl, ?_⟩
 simp only [Act.put, tA, tS, tZ]
 exact rfl
 have e0 : Dx [b_v4, b_v5] w' w'.drew := Dn.dx (Dn.drawn _)
 have f_v4 := v4.dn (Dn.drawn w')
 have f_v5 := v5.dn (Dn.drawn w')
 refine wpX_one 10 (by kernel_rfl) ?_
 refine x1_store 0 (vs := (mach m')) rfl f_v4 (.inl (by simp)) (info_mach hl') (by rw [mach_size hl', mach_size zlen]; omega) (mach_one _) rfl rfl e0 fun u1 y1 du1 t1 e1 g1 => ?_
 rw [lay_all (mach Mc.zero) (mach m') (by rw [mach_size hl', mach_size zlen])] at g1
 replace f_v5 := (f_v5.dn du1).trn t1 n_v4_v5.out.symm
 clear f_v4 e0
 have f_v4 := g1
 have e0 := e1
 clear g1 t1 du1 e1
 refine wpX_one 11 (by kernel_rfl) ?_
 refine x1_store 0 (vs := #[.int .i64 0, .int .u32 0]) rfl f_v5 (.inl (by simp)) infoTrap (by simp) (by simp [Value.oneCell']) rfl rfl e0 fun u1 y1 du1 t1 e1 g1 => ?_
 rw [lay_all #[.int .i64 0, .int .u32 0] #[.int .i64 0, .int .u32 0] rfl] at g1
 replace f_v4 := (f_v4.dn du1).trn t1 n_v4_v5.out
 clear f_v5 e0
 have f_v5 := g1
 have e0 := e1
 clear g1 t1 du1 e1
 refine wpX_end (by kernel_rfl) fun w' dx => NoPanic.normal ?_
 have D := e0.trans (Dn.dx dx)
 replace f_v4 := f_v4.dn dx
 replace f_v5 := f_v5.dn dx
 clear e0 dx
 replace v2 := v2.dx D nx_v2
 replace v3 := v3.dx D nx_v3
 replace v10 := v10.dx D nx_v10
 replace HD := Lib.hid (HD.out.of_dx D hbl)
 clear v4 v5 D hbs hbl nx_v2 nx_v3 nx_v10
 have v4 := f_v4
 clear f_v4
 have v5 := f_v5
 clear f_v5
 go_wp2_with fail
 exact retMT rfl rfl rfl v4 hl' v5 ⟨rfl, HD.out⟩ rfl
set_option maxRecDepth 100000 in
set_option maxHeartbeats 2000000 in
theorem rd4 (m : Mc) (rd ra rb imm x y z u : Int) (W : World) (hm : m.Ok W) (i0 : -2147483648 ≤ imm) (i1 : imm < 2147483648) (hx : M.reg m.c ra = x) (hy : M.reg m.c rb = y) (hz : M.reg m.c rd = z) (hu : M.iw imm = u) (v : Int) (hv : M.ev 4 x y = v) (m' : Mc) (hm' : m' = { m with c := M.adv (M.setreg m.c rd v) 4 }) :
   Calls Tryz.prog 30 #[.agg (mach m), .agg (ins 4 rd ra rb imm)] W fun e W' => e = .returned (.tuple #[.agg (mach m'), .agg #[.int .i64 0, .int .u32 0]]) ∧ Dn W W' := by
 have hl := hm.len
 have hc := hm.core
 have G1 := Lib.hid fun w => (by have h := refGet (m.c.take 16) ra w (take16 hl); rw [M.reg_take m.c hl, hx] at h; exact h : Calls Tryz.prog 50 #[.agg (ints .u32 (m.c.take 16)), .int .i64 ra] w fun e W' => e = .returned (.int .u32 x) ∧ Dn w W')
 have G2 := Lib.hid fun w => (by have h := refGet (m.c.take 16) rb w (take16 hl); rw [M.reg_take m.c hl, hy] at h; exact h : Calls Tryz.prog 50 #[.agg (ints .u32 (m.c.take 16)), .int .i64 rb] w fun e W' => e = .returned (.int .u32 y) ∧ Dn w W')
 have G3 := Lib.hid fun w => (by have h := refGet (m.c.take 16) rd w (take16 hl); rw [M.reg_take m.c hl, hz] at h; exact h : Calls Tryz.prog 50 #[.agg (ints .u32 (m.c.take 16)), .int .i64 rd] w fun e W' => e = .returned (.int .u32 z) ∧ Dn w W')
 have xr : 0 ≤ x ∧ x < 4294967296 := by rw [← hx]; exact M.reg_rng hc _
 have yr : 0 ≤ y ∧ y < 4294967296 := by rw [← hy]; exact M.reg_rng hc _
 have zr : 0 ≤ z ∧ z < 4294967296 := by rw [← hz]; exact M.reg_rng hc _
 have ur : 0 ≤ u ∧ u < 4294967296 := by rw [← hu]; exact M.iw_rng _
 have G4 := Lib.hid (rTimes imm 1 u i0 i1 (by decide) (by decide) (by rw [← hu]; unfold M.iw; omega))
 have hvu := M.U.ev (op := 4) ⟨xr.1, xr.2⟩ ⟨yr.1, yr.2⟩
 rw [hv] at hvu
 have hvr : 0 ≤ v ∧ v < 4294967296 := ⟨hvu.lo, hvu.hi⟩
 have C1 := Lib.hid fun w => (by have h := refDo 4 x y w ⟨xr.1, xr.2⟩ ⟨yr.1, yr.2⟩; rw [hv] at h; exact h : Calls Tryz.prog 57 #[.int .i64 4, .int .u32 x, .int .u32 y] w fun e W' => e = .returned (.int .u32 v) ∧ Dn w W')
 have hl' : m'.c.length = 29 := by rw [hm']; exact ((hc.setreg rd hvr).adv 4).len
 have C2 := Lib.hid fun w => fun (ow : m.Ok w) => rPut m rd v 4 w ow hvr.1 hvr.2 (by decide) (by decide) _ _ rfl rfl m' hm'
 clear hm'
 clear hv
 clear hx hy hz
 have HD := Lib.hid (Dn.refl W)
 go_enter Tryz.func30, Tryz.ntmps30
 go_wp2_with (first | ((with_reducible refine wpList_box (vs := (mach m)) ?_ ?_ ?_); rfl; rfl; intro b_v2 w' nn; refine Hid.out ?_))
 refine Lib.hid ?_
 have d' := nn.dn
 replace HD := hT HD d'
 have v2 := nn.blk
 clear d' nn
 go_wp2_with (first | ((with_reducible refine wpList_box (vs := (ins 4 rd ra rb imm)) ?_ ?_ ?_); rfl; rfl; intro b_v3 w' nn; refine Hid.out ?_))
 refine Lib.hid ?_
 have d' := nn.dn
 replace v2 := v2.dn d'
 replace HD := hT HD d'
 have v3 := nn.blk
 clear d' nn
 go_wp2_with (first | ((with_reducible refine wpList_alloc zeroMach ?_ ?_); rfl; intro b_v4 w' nn; refine Hid.out ?_))
 refine Lib.hid ?_
 have n_v2_v4 := Lib.hid (nn.ne _ v2.lt)
 have n_v3_v4 := Lib.hid (nn.ne _ v3.lt)
 have HL_v4 : Hid (W.heap.size ≤ b_v4) := Lib.hid (Blk.hi nn HD.out.size)
 have d' := nn.dn
 replace v2 := v2.dn d'
 replace v3 := v3.dn d'
 replace HD := hT HD d'
 have v4 := nn.blk
 clear d' nn
 go_wp2_with (first | ((with_reducible refine wpList_alloc zeroTrap ?_ ?_); rfl; intro b_v5 w' nn; refine Hid.out ?_))
 refine Lib.hid ?_
 have n_v2_v5 := Lib.hid (nn.ne _ v2.lt)
 have n_v3_v5 := Lib.hid (nn.ne _ v3.lt)
 have n_v4_v5 := Lib.hid (nn.ne _ v4.lt)
 have HL_v5 : Hid (W.heap.size ≤ b_v5) := Lib.hid (Blk.hi nn HD.out.size)
 have d' := nn.dn
 replace v2 := v2.dn d'
 replace v3 := v3.dn d'
 replace v4 := v4.dn d'
 replace HD := hT HD d'
 have v5 := nn.blk
 clear d' nn
 have ck0 := v3.ira
 go_wp2_with (first | ((with_reducible refine loadRegs v2 hl ?_ ?_ ?_); rfl; rfl) | (go_at_call 50; (with_reducible refine (G1.out _).mono ?_); rintro e w' ⟨rfl, d'⟩; refine Hid.out ?_))
 refine Lib.hid ?_
 clear ck0
 replace v2 := v2.dn d'
 replace v3 := v3.dn d'
 replace v4 := v4.dn d'
 replace v5 := v5.dn d'
 replace HD := hT HD d'
 clear d'
 have ck0 := v3.irb
 go_wp2_with (first | ((with_reducible refine loadRegs v2 hl ?_ ?_ ?_); rfl; rfl) | (go_at_call 50; (with_reducible refine (G2.out _).mono ?_); rintro e w' ⟨rfl, d'⟩; refine Hid.out ?_))
 refine Lib.hid ?_
 clear ck0
 replace v2 := v2.dn d'
 replace v3 := v3.dn d'
 replace v4 := v4.dn d'
 replace v5 := v5.dn d'
 replace HD := hT HD d'
 clear d'
 have ck0 := v3.ird
 go_wp2_with (first | ((with_reducible refine loadRegs v2 hl ?_ ?_ ?_); rfl; rfl) | (go_at_call 50; (with_reducible refine (G3.out _).mono ?_); rintro e w' ⟨rfl, d'⟩; refine Hid.out ?_))
 refine Lib.hid ?_
 clear ck0
 replace v2 := v2.dn d'
 replace v3 := v3.dn d'
 replace v4 := v4.dn d'
 replace v5 := v5.dn d'
 replace HD := hT HD d'
 clear d'
 have ck0 := v3.iimm
 go_wp2_with (first | (go_at_call 55; (with_reducible refine (G4.out _).mono ?_); rintro e w' ⟨rfl, d'⟩; refine Hid.out ?_))
 refine Lib.hid ?_
 clear ck0
 replace v2 := v2.dn d'
 replace v3 := v3.dn d'
 replace v4 := v4.dn d'
 replace v5 := v5.dn d'
 replace HD := hT HD d'
 clear d'
 go_wp2_with (first | ((with_reducible refine wpList_alloc zeroTrap ?_ ?_); rfl; intro b_v10 w' nn; refine Hid.out ?_))
 refine Lib.hid ?_
 have n_v4_v10 := Lib.hid (nn.ne _ v4.lt)
 have n_v5_v10 := Lib.hid (nn.ne _ v5.lt)
 have d' := nn.dn
 replace v2 := v2.dn d'
 replace v3 := v3.dn d'
 replace v4 := v4.dn d'
 replace v5 := v5.dn d'
 replace HD := hT HD d'
 have v10 := nn.blk
 clear d' nn
 have ck0 := v3.iop
 go_wp2_with fail
 clear ck0
 have nx_v2 : b_v2 ∉ [b_v4, b_v5] := (by simp only [List.mem_cons, List.not_mem_nil, or_false, not_or]; exact ⟨n_v2_v4.out, n_v2_v5.out⟩)
 have nx_v3 : b_v3 ∉ [b_v4, b_v5] := (by simp only [List.mem_cons, List.not_mem_nil, or_false, not_or]; exact ⟨n_v3_v4.out, n_v3_v5.out⟩)
 have nx_v10 : b_v10 ∉ [b_v4, b_v5] := (by simp only [List.mem_cons, List.not_mem_nil, or_false, not_or]; exact ⟨n_v4_v10.out.symm, n_v5_v10.out.symm⟩)
 have hbs : ∀ b ∈ [b_v4, b_v5], ∃ t cs, Blk w' b t cs ∧ NoU8 cs := by
   intro b hb
   simp only [List.mem_cons, List.not_mem_nil, or_false] at hb
   rcases hb with rfl | rfl
   · exact ⟨_, _, v4, (NoU8.mach _)⟩
   · exact ⟨_, _, v5, (NoU8.trap _ _)⟩
 have hbl : ∀ b ∈ [b_v4, b_v5], W.heap.size ≤ b := by
   intro b hb
   simp only [List.mem_cons, List.not_mem_nil, or_false] at hb
   rcases hb with rfl | rfl
   · exact HL_v4.out
   · exact HL_v5.out
 refine wp_region_picks [b_v4, b_v5] [0, 1, 2, 3, 4, 5, 6, 7, 8, 9] 2 (by kernel_rfl) (by kernel_rfl) rfl (by kernel_rfl) ?_
 simp only [pickL, List.drop_succ_cons, List.drop_zero, List.take_succ_cons, List.take_zero, List.cons_append, List.nil_append]
 refine ⟨?_, ?_, ?_⟩
 rotate_left 1
 refine ⟨_, calx33 v2 hl nx_v2 (by rfl) rfl, ?_⟩
 simp only [Act.put, tA, tS, tZ]
 refine ⟨_, calx_pure (by rfl) (fun u => by go_simp; rfl), ?_⟩
 simp only [Act.put, tA, tS, tZ]
 refine ⟨_, calxInt (v := .int .i64 rd) v3 nx_v3 Tryz.underlying3 (by rfl) rfl rfl, ?_⟩
 simp only [Act.put, tA, tS, tZ]
 refine ⟨_, calx_pure (by rfl) (fun u => by go_simp; rfl), ?_⟩
 simp only [Act.put, tA, tS, tZ]
 refine ⟨_, calxInt (v := .int .i64 4) v3 nx_v3 Tryz.underlying3 (by rfl) rfl rfl, ?_⟩
 simp only [Act.put, tA, tS, tZ]
 refine ⟨_, calx_pure (by rfl) (fun u => by go_simp; rfl), ?_⟩
 simp only [Act.put, tA, tS, tZ]
 refine ⟨_, calx_pure (by rfl) (fun u => by go_simp; rfl), ?_⟩
 simp only [Act.put, tA, tS, tZ]
 refine ⟨_, calx_call (fun u du => C1.out u) (by rfl) (fun u => by go_simp), ?_⟩
 simp only [Act.put, tA, tS, tZ]
 refine ⟨_, calx_call (fun u du => C2.out u (hm.dn (HD.out.of_dx du hbl))) (by rfl) (fun u => by go_simp), ?_⟩
 simp only [Act.put, tA, tS, tZ]
 refine ⟨_, calxTrap v10 nx_v10 (by rfl) rfl, ?_⟩
 simp only [Act.put, tA, tS, tZ]
 exact rfl
 have e0 : Dx [b_v4, b_v5] w' w'.drew := Dn.dx (Dn.drawn _)
 have f_v4 := v4.dn (Dn.drawn w')
 have f_v5 := v5.dn (Dn.drawn w')
 refine wpX_one 10 (by kernel_rfl) ?_
 refine x1_store 0 (vs := (mach m')) rfl f_v4 (.inl (by simp)) (info_mach hl') (by rw [mach_size hl', mach_size zlen]; omega) (mach_one _) rfl rfl e0 fun u1 y1 du1 t1 e1 g1 => ?_
 rw [lay_all (mach Mc.zero) (mach m') (by rw [mach_size hl', mach_size zlen])] at g1
 replace f_v5 := (f_v5.dn du1).trn t1 n_v4_v5.out.symm
 clear f_v4 e0
 have f_v4 := g1
 have e0 := e1
 clear g1 t1 du1 e1
 refine wpX_one 11 (by kernel_rfl) ?_
 refine x1_store 0 (vs := #[.int .i64 0, .int .u32 0]) rfl f_v5 (.inl (by simp)) infoTrap (by simp) (by simp [Value.oneCell']) rfl rfl e0 fun u1 y1 du1 t1 e1 g1 => ?_
 rw [lay_all #[.int .i64 0, .int .u32 0] #[.int .i64 0, .int .u32 0] rfl] at g1
 replace f_v4 := (f_v4.dn du1).trn t1 n_v4_v5.out
 clear f_v5 e0
 have f_v5 := g1
 have e0 := e1
 clear g1 t1 du1 e1
 refine wpX_end (by kernel_rfl) fun w' dx => NoPanic.normal ?_
 have D := e0.trans (Dn.dx dx)
 replace f_v4 := f_v4.dn dx
 replace f_v5 := f_v5.dn dx
 clear e0 dx
 replace v2 := v2.dx D nx_v2
 replace v3 := v3.dx D nx_v3
 replace v10 := v10.dx D nx_v10
 replace HD := Lib.hid (HD.out.of_dx D hbl)
 clear v4 v5 D hbs hbl nx_v2 nx_v3 nx_v10
 have v4 := f_v4
 clear f_v4
 have v5 := f_v5
 clear f_v5
 go_wp2_with fail
 exact retMT rfl rfl rfl v4 hl' v5 ⟨rfl, HD.out⟩ rfl

set_option maxRecDepth 100000 in
set_option maxHeartbeats 2000000 in
theorem rd5 (m : Mc) (rd ra rb imm x y z u : Int) (W : World) (hm : m.Ok W) (i0 : -2147483648 ≤ imm) (i1 : imm < 2147483648) (hx : M.reg m.c ra = x) (hy : M.reg m.c rb = y) (hz : M.reg m.c rd = z) (hu : M.iw imm = u) (v : Int) (hv : M.ev 5 x y = v) (m' : Mc) (hm' : m' = { m with c := M.adv (M.setreg m.c rd v) 4 }) :
   Calls Tryz.prog 30 #[.agg (mach m), .agg (ins 5 rd ra rb imm)] W fun e W' => e = .returned (.tuple #[.agg (mach m'), .agg #[.int .i64 0, .int .u32 0]]) ∧ Dn W W' := by
 have hl := hm.len
 have hc := hm.core
 have G1 := Lib.hid fun w => (by have h := refGet (m.c.take 16) ra w (take16 hl); rw [M.reg_take m.c hl, hx] at h; exact h : Calls Tryz.prog 50 #[.agg (ints .u32 (m.c.take 16)), .int .i64 ra] w fun e W' => e = .returned (.int .u32 x) ∧ Dn w W')
 have G2 := Lib.hid fun w => (by have h := refGet (m.c.take 16) rb w (take16 hl); rw [M.reg_take m.c hl, hy] at h; exact h : Calls Tryz.prog 50 #[.agg (ints .u32 (m.c.take 16)), .int .i64 rb] w fun e W' => e = .returned (.int .u32 y) ∧ Dn w W')
 have G3 := Lib.hid fun w => (by have h := refGet (m.c.take 16) rd w (take16 hl); rw [M.reg_take m.c hl, hz] at h; exact h : Calls Tryz.prog 50 #[.agg (ints .u32 (m.c.take 16)), .int .i64 rd] w fun e W' => e = .returned (.int .u32 z) ∧ Dn w W')
 have xr : 0 ≤ x ∧ x < 4294967296 := by rw [← hx]; exact M.reg_rng hc _
 have yr : 0 ≤ y ∧ y < 4294967296 := by rw [← hy]; exact M.reg_rng hc _
 have zr : 0 ≤ z ∧ z < 4294967296 := by rw [← hz]; exact M.reg_rng hc _
 have ur : 0 ≤ u ∧ u < 4294967296 := by rw [← hu]; exact M.iw_rng _
 have G4 := Lib.hid (rTimes imm 1 u i0 i1 (by decide) (by decide) (by rw [← hu]; unfold M.iw; omega))
 have hvu := M.U.ev (op := 5) ⟨xr.1, xr.2⟩ ⟨yr.1, yr.2⟩
 rw [hv] at hvu
 have hvr : 0 ≤ v ∧ v < 4294967296 := ⟨hvu.lo, hvu.hi⟩
 have C1 := Lib.hid fun w => (by have h := refDo 5 x y w ⟨xr.1, xr.2⟩ ⟨yr.1, yr.2⟩; rw [hv] at h; exact h : Calls Tryz.prog 57 #[.int .i64 5, .int .u32 x, .int .u32 y] w fun e W' => e = .returned (.int .u32 v) ∧ Dn w W')
 have hl' : m'.c.length = 29 := by rw [hm']; exact ((hc.setreg rd hvr).adv 4).len
 have C2 := Lib.hid fun w => fun (ow : m.Ok w) => rPut m rd v 4 w ow hvr.1 hvr.2 (by decide) (by decide) _ _ rfl rfl m' hm'
 clear hm'
 clear hv
 clear hx hy hz
 have HD := Lib.hid (Dn.refl W)
 go_enter Tryz.func30, Tryz.ntmps30
 go_wp2_with (first | ((with_reducible refine wpList_box (vs := (mach m)) ?_ ?_ ?_); rfl; rfl; intro b_v2 w' nn; refine Hid.out ?_))
 refine Lib.hid ?_
 have d' := nn.dn
 replace HD := hT HD d'
 have v2 := nn.blk
 clear d' nn
 go_wp2_with (first | ((with_reducible refine wpList_box (vs := (ins 5 rd ra rb imm)) ?_ ?_ ?_); rfl; rfl; intro b_v3 w' nn; refine Hid.out ?_))
 refine Lib.hid ?_
 have d' := nn.dn
 replace v2 := v2.dn d'
 replace HD := hT HD d'
 have v3 := nn.blk
 clear d' nn
 go_wp2_with (first | ((with_reducible refine wpList_alloc zeroMach ?_ ?_); rfl; intro b_v4 w' nn; refine Hid.out ?_))
 refine Lib.hid ?_
 have n_v2_v4 := Lib.hid (nn.ne _ v2.lt)
 have n_v3_v4 := Lib.hid (nn.ne _ v3.lt)
 have HL_v4 : Hid (W.heap.size ≤ b_v4) := Lib.hid (Blk.hi nn HD.out.size)
 have d' := nn.dn
 replace v2 := v2.dn d'
 replace v3 := v3.dn d'
 replace HD := hT HD d'
 have v4 := nn.blk
 clear d' nn
 go_wp2_with (first | ((with_reducible refine wpList_alloc zeroTrap ?_ ?_); rfl; intro b_v5 w' nn; refine Hid.out ?_))
 refine Lib.hid ?_
 have n_v2_v5 := Lib.hid (nn.ne _ v2.lt)
 have n_v3_v5 := Lib.hid (nn.ne _ v3.lt)
 have n_v4_v5 := Lib.hid (nn.ne _ v4.lt)
 have HL_v5 : Hid (W.heap.size ≤ b_v5) := Lib.hid (Blk.hi nn HD.out.size)
 have d' := nn.dn
 replace v2 := v2.dn d'
 replace v3 := v3.dn d'
 replace v4 := v4.dn d'
 replace HD := hT HD d'
 have v5 := nn.blk
 clear d' nn
 have ck0 := v3.ira
 go_wp2_with (first | ((with_reducible refine loadRegs v2 hl ?_ ?_ ?_); rfl; rfl) | (go_at_call 50; (with_reducible refine (G1.out _).mono ?_); rintro e w' ⟨rfl, d'⟩; refine Hid.out ?_))
 refine Lib.hid ?_
 clear ck0
 replace v2 := v2.dn d'
 replace v3 := v3.dn d'
 replace v4 := v4.dn d'
 replace v5 := v5.dn d'
 replace HD := hT HD d'
 clear d'
 have ck0 := v3.irb
 go_wp2_with (first | ((with_reducible refine loadRegs v2 hl ?_ ?_ ?_); rfl; rfl) | (go_at_call 50; (with_reducible refine (G2.out _).mono ?_); rintro e w' ⟨rfl, d'⟩; refine Hid.out ?_))
 refine Lib.hid ?_
 clear ck0
 replace v2 := v2.dn d'
 replace v3 := v3.dn d'
 replace v4 := v4.dn d'
 replace v5 := v5.dn d'
 replace HD := hT HD d'
 clear d'
 have ck0 := v3.ird
 go_wp2_with (first | ((with_reducible refine loadRegs v2 hl ?_ ?_ ?_); rfl; rfl) | (go_at_call 50; (with_reducible refine (G3.out _).mono ?_); rintro e w' ⟨rfl, d'⟩; refine Hid.out ?_))
 refine Lib.hid ?_
 clear ck0
 replace v2 := v2.dn d'
 replace v3 := v3.dn d'
 replace v4 := v4.dn d'
 replace v5 := v5.dn d'
 replace HD := hT HD d'
 clear d'
 have ck0 := v3.iimm
 go_wp2_with (first | (go_at_call 55; (with_reducible refine (G4.out _).mono ?_); rintro e w' ⟨rfl, d'⟩; refine Hid.out ?_))
 refine Lib.hid ?_
 clear ck0
 replace v2 := v2.dn d'
 replace v3 := v3.dn d'
 replace v4 := v4.dn d'
 replace v5 := v5.dn d'
 replace HD := hT HD d'
 clear d'
 go_wp2_with (first | ((with_reducible refine wpList_alloc zeroTrap ?_ ?_); rfl; intro b_v10 w' nn; refine Hid.out ?_))
 refine Lib.hid ?_
 have n_v4_v10 := Lib.hid (nn.ne _ v4.lt)
 have n_v5_v10 := Lib.hid (nn.ne _ v5.lt)
 have d' := nn.dn
 replace v2 := v2.dn d'
 replace v3 := v3.dn d'
 replace v4 := v4.dn d'
 replace v5 := v5.dn d'
 replace HD := hT HD d'
 have v10 := nn.blk
 clear d' nn
 have ck0 := v3.iop
 go_wp2_with fail
 clear ck0
 have nx_v2 : b_v2 ∉ [b_v4, b_v5] := (by simp only [List.mem_cons, List.not_mem_nil, or_false, not_or]; exact ⟨n_v2_v4.out, n_v2_v5.out⟩)
 have nx_v3 : b_v3 ∉ [b_v4, b_v5] := (by simp only [List.mem_cons, List.not_mem_nil, or_false, not_or]; exact ⟨n_v3_v4.out, n_v3_v5.out⟩)
 have nx_v10 : b_v10 ∉ [b_v4, b_v5] := (by simp only [List.mem_cons, List.not_mem_nil, or_false, not_or]; exact ⟨n_v4_v10.out.symm, n_v5_v10.out.symm⟩)
 have hbs : ∀ b ∈ [b_v4, b_v5], ∃ t cs, Blk w' b t cs ∧ NoU8 cs := by
   intro b hb
   simp only [List.mem_cons, List.not_mem_nil, or_false] at hb
   rcases hb with rfl | rfl
   · exact ⟨_, _, v4, (NoU8.mach _)⟩
   · exact ⟨_, _, v5, (NoU8.trap _ _)⟩
 have hbl : ∀ b ∈ [b_v4, b_v5], W.heap.size ≤ b := by
   intro b hb
   simp only [List.mem_cons, List.not_mem_nil, or_false] at hb
   rcases hb with rfl | rfl
   · exact HL_v4.out
   · exact HL_v5.out
 refine wp_region_picks [b_v4, b_v5] [0, 1, 2, 3, 4, 5, 6, 7, 8, 9] 2 (by kernel_rfl) (by kernel_rfl) rfl (by kernel_rfl) ?_
 simp only [pickL, List.drop_succ_cons, List.drop_zero, List.take_succ_cons, List.take_zero, List.cons_append, List.nil_append]
 refine ⟨?_, ?_, ?_⟩
 rotate_left 1
 refine ⟨_, calx33 v2 hl nx_v2 (by rfl) rfl, ?_⟩
 simp only [Act.put, tA, tS, tZ]
 refine ⟨_, calx_pure (by rfl) (fun u => by go_simp; rfl), ?_⟩
 simp only [Act.put, tA, tS, tZ]
 refine ⟨_, calxInt (v := .int .i64 rd) v3 nx_v3 Tryz.underlying3 (by rfl) rfl rfl, ?_⟩
 simp only [Act.put, tA, tS, tZ]
 refine ⟨_, calx_pure (by rfl) (fun u => by go_simp; rfl), ?_⟩
 simp only [Act.put, tA, tS, tZ]
 refine ⟨_, calxInt (v := .int .i64 5) v3 nx_v3 Tryz.underlying3 (by rfl) rfl rfl, ?_⟩
 simp only [Act.put, tA, tS, tZ]
 refine ⟨_, calx_pure (by rfl) (fun u => by go_simp; rfl), ?_⟩
 simp only [Act.put, tA, tS, tZ]
 refine ⟨_, calx_pure (by rfl) (fun u => by go_simp; rfl), ?_⟩
 simp only [Act.put, tA, tS, tZ]
 refine ⟨_, calx_call (fun u du => C1.out u) (by rfl) (fun u => by go_simp), ?_⟩
 simp only [Act.put, tA, tS, tZ]
 refine ⟨_, calx_call (fun u du => C2.out u (hm.dn (HD.out.of_dx du hbl))) (by rfl) (fun u => by go_simp), ?_⟩
 simp only [Act.put, tA, tS, tZ]
 refine ⟨_, calxTrap v10 nx_v10 (by rfl) rfl, ?_⟩
 simp only [Act.put, tA, tS, tZ]
 exact rfl
 have e0 : Dx [b_v4, b_v5] w' w'.drew := Dn.dx (Dn.drawn _)
 have f_v4 := v4.dn (Dn.drawn w')
 have f_v5 := v5.dn (Dn.drawn w')
 refine wpX_one 10 (by kernel_rfl) ?_
 refine x1_store 0 (vs := (mach m')) rfl f_v4 (.inl (by simp)) (info_mach hl') (by rw [mach_size hl', mach_size zlen]; omega) (mach_one _) rfl rfl e0 fun u1 y1 du1 t1 e1 g1 => ?_
 rw [lay_all (mach Mc.zero) (mach m') (by rw [mach_size hl', mach_size zlen])] at g1
 replace f_v5 := (f_v5.dn du1).trn t1 n_v4_v5.out.symm
 clear f_v4 e0
 have f_v4 := g1
 have e0 := e1
 clear g1 t1 du1 e1
 refine wpX_one 11 (by kernel_rfl) ?_
 refine x1_store 0 (vs := #[.int .i64 0, .int .u32 0]) rfl f_v5 (.inl (by simp)) infoTrap (by simp) (by simp [Value.oneCell']) rfl rfl e0 fun u1 y1 du1 t1 e1 g1 => ?_
 rw [lay_all #[.int .i64 0, .int .u32 0] #[.int .i64 0, .int .u32 0] rfl] at g1
 replace f_v4 := (f_v4.dn du1).trn t1 n_v4_v5.out
 clear f_v5 e0
 have f_v5 := g1
 have e0 := e1
 clear g1 t1 du1 e1
 refine wpX_end (by kernel_rfl) fun w' dx => NoPanic.normal ?_
 have D := e0.trans (Dn.dx dx)
 replace f_v4 := f_v4.dn dx
 replace f_v5 := f_v5.dn dx
 clear e0 dx
 replace v2 := v2.dx D nx_v2
 replace v3 := v3.dx D nx_v3
 replace v10 := v10.dx D nx_v10
 replace HD := Lib.hid (HD.out.of_dx D hbl)
 clear v4 v5 D hbs hbl nx_v2 nx_v3 nx_v10
 have v4 := f_v4
 clear f_v4
 have v5 := f_v5
 clear f_v5
 go_wp2_with fail
 exact retMT rfl rfl rfl v4 hl' v5 ⟨rfl, HD.out⟩ rfl
set_option maxRecDepth 100000 in
set_option maxHeartbeats 2000000 in
theorem rd6 (m : Mc) (rd ra rb imm x y z u : Int) (W : World) (hm : m.Ok W) (i0 : -2147483648 ≤ imm) (i1 : imm < 2147483648) (hx : M.reg m.c ra = x) (hy : M.reg m.c rb = y) (hz : M.reg m.c rd = z) (hu : M.iw imm = u) (v : Int) (hv : M.ev 6 x y = v) (m' : Mc) (hm' : m' = { m with c := M.adv (M.setreg m.c rd v) 4 }) :
   Calls Tryz.prog 30 #[.agg (mach m), .agg (ins 6 rd ra rb imm)] W fun e W' => e = .returned (.tuple #[.agg (mach m'), .agg #[.int .i64 0, .int .u32 0]]) ∧ Dn W W' := by
 have hl := hm.len
 have hc := hm.core
 have G1 := Lib.hid fun w => (by have h := refGet (m.c.take 16) ra w (take16 hl); rw [M.reg_take m.c hl, hx] at h; exact h : Calls Tryz.prog 50 #[.agg (ints .u32 (m.c.take 16)), .int .i64 ra] w fun e W' => e = .returned (.int .u32 x) ∧ Dn w W')
 have G2 := Lib.hid fun w => (by have h := refGet (m.c.take 16) rb w (take16 hl); rw [M.reg_take m.c hl, hy] at h; exact h : Calls Tryz.prog 50 #[.agg (ints .u32 (m.c.take 16)), .int .i64 rb] w fun e W' => e = .returned (.int .u32 y) ∧ Dn w W')
 have G3 := Lib.hid fun w => (by have h := refGet (m.c.take 16) rd w (take16 hl); rw [M.reg_take m.c hl, hz] at h; exact h : Calls Tryz.prog 50 #[.agg (ints .u32 (m.c.take 16)), .int .i64 rd] w fun e W' => e = .returned (.int .u32 z) ∧ Dn w W')
 have xr : 0 ≤ x ∧ x < 4294967296 := by rw [← hx]; exact M.reg_rng hc _
 have yr : 0 ≤ y ∧ y < 4294967296 := by rw [← hy]; exact M.reg_rng hc _
 have zr : 0 ≤ z ∧ z < 4294967296 := by rw [← hz]; exact M.reg_rng hc _
 have ur : 0 ≤ u ∧ u < 4294967296 := by rw [← hu]; exact M.iw_rng _
 have G4 := Lib.hid (rTimes imm 1 u i0 i1 (by decide) (by decide) (by rw [← hu]; unfold M.iw; omega))
 have hvu := M.U.ev (op := 6) ⟨xr.1, xr.2⟩ ⟨yr.1, yr.2⟩
 rw [hv] at hvu
 have hvr : 0 ≤ v ∧ v < 4294967296 := ⟨hvu.lo, hvu.hi⟩
 have C1 := Lib.hid fun w => (by have h := refDo 6 x y w ⟨xr.1, xr.2⟩ ⟨yr.1, yr.2⟩; rw [hv] at h; exact h : Calls Tryz.prog 57 #[.int .i64 6, .int .u32 x, .int .u32 y] w fun e W' => e = .returned (.int .u32 v) ∧ Dn w W')
 have hl' : m'.c.length = 29 := by rw [hm']; exact ((hc.setreg rd hvr).adv 4).len
 have C2 := Lib.hid fun w => fun (ow : m.Ok w) => rPut m rd v 4 w ow hvr.1 hvr.2 (by decide) (by decide) _ _ rfl rfl m' hm'
 clear hm'
 clear hv
 clear hx hy hz
 have HD := Lib.hid (Dn.refl W)
 go_enter Tryz.func30, Tryz.ntmps30
 go_wp2_with (first | ((with_reducible refine wpList_box (vs := (mach m)) ?_ ?_ ?_); rfl; rfl; intro b_v2 w' nn; refine Hid.out ?_))
 refine Lib.hid ?_
 have d' := nn.dn
 replace HD := hT HD d'
 have v2 := nn.blk
 clear d' nn
 go_wp2_with (first | ((with_reducible refine wpList_box (vs := (ins 6 rd ra rb imm)) ?_ ?_ ?_); rfl; rfl; intro b_v3 w' nn; refine Hid.out ?_))
 refine Lib.hid ?_
 have d' := nn.dn
 replace v2 := v2.dn d'
 replace HD := hT HD d'
 have v3 := nn.blk
 clear d' nn
 go_wp2_with (first | ((with_reducible refine wpList_alloc zeroMach ?_ ?_); rfl; intro b_v4 w' nn; refine Hid.out ?_))
 refine Lib.hid ?_
 have n_v2_v4 := Lib.hid (nn.ne _ v2.lt)
 have n_v3_v4 := Lib.hid (nn.ne _ v3.lt)
 have HL_v4 : Hid (W.heap.size ≤ b_v4) := Lib.hid (Blk.hi nn HD.out.size)
 have d' := nn.dn
 replace v2 := v2.dn d'
 replace v3 := v3.dn d'
 replace HD := hT HD d'
 have v4 := nn.blk
 clear d' nn
 go_wp2_with (first | ((with_reducible refine wpList_alloc zeroTrap ?_ ?_); rfl; intro b_v5 w' nn; refine Hid.out ?_))
 refine Lib.hid ?_
 have n_v2_v5 := Lib.hid (nn.ne _ v2.lt)
 have n_v3_v5 := Lib.hid (nn.ne _ v3.lt)
 have n_v4_v5 := Lib.hid (nn.ne _ v4.lt)
 have HL_v5 : Hid (W.heap.size ≤ b_v5) := Lib.hid (Blk.hi nn HD.out.size)
 have d' := nn.dn
 replace v2 := v2.dn d'
 replace v3 := v3.dn d'
 replace v4 := v4.dn d'
 replace HD := hT HD d'
 have v5 := nn.blk
 clear d' nn
 have ck0 := v3.ira
 go_wp2_with (first | ((with_reducible refine loadRegs v2 hl ?_ ?_ ?_); rfl; rfl) | (go_at_call 50; (with_reducible refine (G1.out _).mono ?_); rintro e w' ⟨rfl, d'⟩; refine Hid.out ?_))
 refine Lib.hid ?_
 clear ck0
 replace v2 := v2.dn d'
 replace v3 := v3.dn d'
 replace v4 := v4.dn d'
 replace v5 := v5.dn d'
 replace HD := hT HD d'
 clear d'
 have ck0 := v3.irb
 go_wp2_with (first | ((with_reducible refine loadRegs v2 hl ?_ ?_ ?_); rfl; rfl) | (go_at_call 50; (with_reducible refine (G2.out _).mono ?_); rintro e w' ⟨rfl, d'⟩; refine Hid.out ?_))
 refine Lib.hid ?_
 clear ck0
 replace v2 := v2.dn d'
 replace v3 := v3.dn d'
 replace v4 := v4.dn d'
 replace v5 := v5.dn d'
 replace HD := hT HD d'
 clear d'
 have ck0 := v3.ird
 go_wp2_with (first | ((with_reducible refine loadRegs v2 hl ?_ ?_ ?_); rfl; rfl) | (go_at_call 50; (with_reducible refine (G3.out _).mono ?_); rintro e w' ⟨rfl, d'⟩; refine Hid.out ?_))
 refine Lib.hid ?_
 clear ck0
 replace v2 := v2.dn d'
 replace v3 := v3.dn d'
 replace v4 := v4.dn d'
 replace v5 := v5.dn d'
 replace HD := hT HD d'
 clear d'
 have ck0 := v3.iimm
 go_wp2_with (first | (go_at_call 55; (with_reducible refine (G4.out _).mono ?_); rintro e w' ⟨rfl, d'⟩; refine Hid.out ?_))
 refine Lib.hid ?_
 clear ck0
 replace v2 := v2.dn d'
 replace v3 := v3.dn d'
 replace v4 := v4.dn d'
 replace v5 := v5.dn d'
 replace HD := hT HD d'
 clear d'
 go_wp2_with (first | ((with_reducible refine wpList_alloc zeroTrap ?_ ?_); rfl; intro b_v10 w' nn; refine Hid.out ?_))
 refine Lib.hid ?_
 have n_v4_v10 := Lib.hid (nn.ne _ v4.lt)
 have n_v5_v10 := Lib.hid (nn.ne _ v5.lt)
 have d' := nn.dn
 replace v2 := v2.dn d'
 replace v3 := v3.dn d'
 replace v4 := v4.dn d'
 replace v5 := v5.dn d'
 replace HD := hT HD d'
 have v10 := nn.blk
 clear d' nn
 have ck0 := v3.iop
 go_wp2_with fail
 clear ck0
 have nx_v2 : b_v2 ∉ [b_v4, b_v5] := (by simp only [List.mem_cons, List.not_mem_nil, or_false, not_or]; exact ⟨n_v2_v4.out, n_v2_v5.out⟩)
 have nx_v3 : b_v3 ∉ [b_v4, b_v5] := (by simp only [List.mem_cons, List.not_mem_nil, or_false, not_or]; exact ⟨n_v3_v4.out, n_v3_v5.out⟩)
 have nx_v10 : b_v10 ∉ [b_v4, b_v5] := (by simp only [List.mem_cons, List.not_mem_nil, or_false, not_or]; exact ⟨n_v4_v10.out.symm, n_v5_v10.out.symm⟩)
 have hbs : ∀ b ∈ [b_v4, b_v5], ∃ t cs, Blk w' b t cs ∧ NoU8 cs := by
   intro b hb
   simp only [List.mem_cons, List.not_mem_nil, or_false] at hb
   rcases hb with rfl | rfl
   · exact ⟨_, _, v4, (NoU8.mach _)⟩
   · exact ⟨_, _, v5, (NoU8.trap _ _)⟩
 have hbl : ∀ b ∈ [b_v4, b_v5], W.heap.size ≤ b := by
   intro b hb
   simp only [List.mem_cons, List.not_mem_nil, or_false] at hb
   rcases hb with rfl | rfl
   · exact HL_v4.out
   · exact HL_v5.out
 refine wp_region_picks [b_v4, b_v5] [0, 1, 2, 3, 4, 5, 6, 7, 8, 9] 2 (by kernel_rfl) (by kernel_rfl) rfl (by kernel_rfl) ?_
 simp only [pickL, List.drop_succ_cons, List.drop_zero, List.take_succ_cons, List.take_zero, List.cons_append, List.nil_append]
 refine ⟨?_, ?_, ?_⟩
 rotate_left 1
 refine ⟨_, calx33 v2 hl nx_v2 (by rfl) rfl, ?_⟩
 simp only [Act.put, tA, tS, tZ]
 refine ⟨_, calx_pure (by rfl) (fun u => by go_simp; rfl), ?_⟩
 simp only [Act.put, tA, tS, tZ]
 refine ⟨_, calxInt (v := .int .i64 rd) v3 nx_v3 Tryz.underlying3 (by rfl) rfl rfl, ?_⟩
 simp only [Act.put, tA, tS, tZ]
 refine ⟨_, calx_pure (by rfl) (fun u => by go_simp; rfl), ?_⟩
 simp only [Act.put, tA, tS, tZ]
 refine ⟨_, calxInt (v := .int .i64 6) v3 nx_v3 Tryz.underlying3 (by rfl) rfl rfl, ?_⟩
 simp only [Act.put, tA, tS, tZ]
 refine ⟨_, calx_pure (by rfl) (fun u => by go_simp; rfl), ?_⟩
 simp only [Act.put, tA, tS, tZ]
 refine ⟨_, calx_pure (by rfl) (fun u => by go_simp; rfl), ?_⟩
 simp only [Act.put, tA, tS, tZ]
 refine ⟨_, calx_call (fun u du => C1.out u) (by rfl) (fun u => by go_simp), ?_⟩
 simp only [Act.put, tA, tS, tZ]
 refine ⟨_, calx_call (fun u du => C2.out u (hm.dn (HD.out.of_dx du hbl))) (by rfl) (fun u => by go_simp), ?_⟩
 simp only [Act.put, tA, tS, tZ]
 refine ⟨_, calxTrap v10 nx_v10 (by rfl) rfl, ?_⟩
 simp only [Act.put, tA, tS, tZ]
 exact rfl
 have e0 : Dx [b_v4, b_v5] w' w'.drew := Dn.dx (Dn.drawn _)
 have f_v4 := v4.dn (Dn.drawn w')
 have f_v5 := v5.dn (Dn.drawn w')
 refine wpX_one 10 (by kernel_rfl) ?_
 refine x1_store 0 (vs := (mach m')) rfl f_v4 (.inl (by simp)) (info_mach hl') (by rw [mach_size hl', mach_size zlen]; omega) (mach_one _) rfl rfl e0 fun u1 y1 du1 t1 e1 g1 => ?_
 rw [lay_all (mach Mc.zero) (mach m') (by rw [mach_size hl', mach_size zlen])] at g1
 replace f_v5 := (f_v5.dn du1).trn t1 n_v4_v5.out.symm
 clear f_v4 e0
 have f_v4 := g1
 have e0 := e1
 clear g1 t1 du1 e1
 refine wpX_one 11 (by kernel_rfl) ?_
 refine x1_store 0 (vs := #[.int .i64 0, .int .u32 0]) rfl f_v5 (.inl (by simp)) infoTrap (by simp) (by simp [Value.oneCell']) rfl rfl e0 fun u1 y1 du1 t1 e1 g1 => ?_
 rw [lay_all #[.int .i64 0, .int .u32 0] #[.int .i64 0, .int .u32 0] rfl] at g1
 replace f_v4 := (f_v4.dn du1).trn t1 n_v4_v5.out
 clear f_v5 e0
 have f_v5 := g1
 have e0 := e1
 clear g1 t1 du1 e1
 refine wpX_end (by kernel_rfl) fun w' dx => NoPanic.normal ?_
 have D := e0.trans (Dn.dx dx)
 replace f_v4 := f_v4.dn dx
 replace f_v5 := f_v5.dn dx
 clear e0 dx
 replace v2 := v2.dx D nx_v2
 replace v3 := v3.dx D nx_v3
 replace v10 := v10.dx D nx_v10
 replace HD := Lib.hid (HD.out.of_dx D hbl)
 clear v4 v5 D hbs hbl nx_v2 nx_v3 nx_v10
 have v4 := f_v4
 clear f_v4
 have v5 := f_v5
 clear f_v5
 go_wp2_with fail
 exact retMT rfl rfl rfl v4 hl' v5 ⟨rfl, HD.out⟩ rfl
set_option maxRecDepth 100000 in
set_option maxHeartbeats 2000000 in
theorem rd7 (m : Mc) (rd ra rb imm x y z u : Int) (W : World) (hm : m.Ok W) (i0 : -2147483648 ≤ imm) (i1 : imm < 2147483648) (hx : M.reg m.c ra = x) (hy : M.reg m.c rb = y) (hz : M.reg m.c rd = z) (hu : M.iw imm = u) (v : Int) (hv : M.ev 7 x y = v) (m' : Mc) (hm' : m' = { m with c := M.adv (M.setreg m.c rd v) 4 }) :
   Calls Tryz.prog 30 #[.agg (mach m), .agg (ins 7 rd ra rb imm)] W fun e W' => e = .returned (.tuple #[.agg (mach m'), .agg #[.int .i64 0, .int .u32 0]]) ∧ Dn W W' := by
 have hl := hm.len
 have hc := hm.core
 have G1 := Lib.hid fun w => (by have h := refGet (m.c.take 16) ra w (take16 hl); rw [M.reg_take m.c hl, hx] at h; exact h : Calls Tryz.prog 50 #[.agg (ints .u32 (m.c.take 16)), .int .i64 ra] w fun e W' => e = .returned (.int .u32 x) ∧ Dn w W')
 have G2 := Lib.hid fun w => (by have h := refGet (m.c.take 16) rb w (take16 hl); rw [M.reg_take m.c hl, hy] at h; exact h : Calls Tryz.prog 50 #[.agg (ints .u32 (m.c.take 16)), .int .i64 rb] w fun e W' => e = .returned (.int .u32 y) ∧ Dn w W')
 have G3 := Lib.hid fun w => (by have h := refGet (m.c.take 16) rd w (take16 hl); rw [M.reg_take m.c hl, hz] at h; exact h : Calls Tryz.prog 50 #[.agg (ints .u32 (m.c.take 16)), .int .i64 rd] w fun e W' => e = .returned (.int .u32 z) ∧ Dn w W')
 have xr : 0 ≤ x ∧ x < 4294967296 := by rw [← hx]; exact M.reg_rng hc _
 have yr : 0 ≤ y ∧ y < 4294967296 := by rw [← hy]; exact M.reg_rng hc _
 have zr : 0 ≤ z ∧ z < 4294967296 := by rw [← hz]; exact M.reg_rng hc _
 have ur : 0 ≤ u ∧ u < 4294967296 := by rw [← hu]; exact M.iw_rng _
 have G4 := Lib.hid (rTimes imm 1 u i0 i1 (by decide) (by decide) (by rw [← hu]; unfold M.iw; omega))
 have hvu := M.U.ev (op := 7) ⟨xr.1, xr.2⟩ ⟨yr.1, yr.2⟩
 rw [hv] at hvu
 have hvr : 0 ≤ v ∧ v < 4294967296 := ⟨hvu.lo, hvu.hi⟩
 have C1 := Lib.hid fun w => (by have h := refDo 7 x y w ⟨xr.1, xr.2⟩ ⟨yr.1, yr.2⟩; rw [hv] at h; exact h : Calls Tryz.prog 57 #[.int .i64 7, .int .u32 x, .int .u32 y] w fun e W' => e = .returned (.int .u32 v) ∧ Dn w W')
 have hl' : m'.c.length = 29 := by rw [hm']; exact ((hc.setreg rd hvr).adv 4).len
 have C2 := Lib.hid fun w => fun (ow : m.Ok w) => rPut m rd v 4 w ow hvr.1 hvr.2 (by decide) (by decide) _ _ rfl rfl m' hm'
 clear hm'
 clear hv
 clear hx hy hz
 have HD := Lib.hid (Dn.refl W)
 go_enter Tryz.func30, Tryz.ntmps30
 go_wp2_with (first | ((with_reducible refine wpList_box (vs := (mach m)) ?_ ?_ ?_); rfl; rfl; intro b_v2 w' nn; refine Hid.out ?_))
 refine Lib.hid ?_
 have d' := nn.dn
 replace HD := hT HD d'
 have v2 := nn.blk
 clear d' nn
 go_wp2_with (first | ((with_reducible refine wpList_box (vs := (ins 7 rd ra rb imm)) ?_ ?_ ?_); rfl; rfl; intro b_v3 w' nn; refine Hid.out ?_))
 refine Lib.hid ?_
 have d' := nn.dn
 replace v2 := v2.dn d'
 replace HD := hT HD d'
 have v3 := nn.blk
 clear d' nn
 go_wp2_with (first | ((with_reducible refine wpList_alloc zeroMach ?_ ?_); rfl; intro b_v4 w' nn; refine Hid.out ?_))
 refine Lib.hid ?_
 have n_v2_v4 := Lib.hid (nn.ne _ v2.lt)
 have n_v3_v4 := Lib.hid (nn.ne _ v3.lt)
 have HL_v4 : Hid (W.heap.size ≤ b_v4) := Lib.hid (Blk.hi nn HD.out.size)
 have d' := nn.dn
 replace v2 := v2.dn d'
 replace v3 := v3.dn d'
 replace HD := hT HD d'
 have v4 := nn.blk
 clear d' nn
 go_wp2_with (first | ((with_reducible refine wpList_alloc zeroTrap ?_ ?_); rfl; intro b_v5 w' nn; refine Hid.out ?_))
 refine Lib.hid ?_
 have n_v2_v5 := Lib.hid (nn.ne _ v2.lt)
 have n_v3_v5 := Lib.hid (nn.ne _ v3.lt)
 have n_v4_v5 := Lib.hid (nn.ne _ v4.lt)
 have HL_v5 : Hid (W.heap.size ≤ b_v5) := Lib.hid (Blk.hi nn HD.out.size)
 have d' := nn.dn
 replace v2 := v2.dn d'
 replace v3 := v3.dn d'
 replace v4 := v4.dn d'
 replace HD := hT HD d'
 have v5 := nn.blk
 clear d' nn
 have ck0 := v3.ira
 go_wp2_with (first | ((with_reducible refine loadRegs v2 hl ?_ ?_ ?_); rfl; rfl) | (go_at_call 50; (with_reducible refine (G1.out _).mono ?_); rintro e w' ⟨rfl, d'⟩; refine Hid.out ?_))
 refine Lib.hid ?_
 clear ck0
 replace v2 := v2.dn d'
 replace v3 := v3.dn d'
 replace v4 := v4.dn d'
 replace v5 := v5.dn d'
 replace HD := hT HD d'
 clear d'
 have ck0 := v3.irb
 go_wp2_with (first | ((with_reducible refine loadRegs v2 hl ?_ ?_ ?_); rfl; rfl) | (go_at_call 50; (with_reducible refine (G2.out _).mono ?_); rintro e w' ⟨rfl, d'⟩; refine Hid.out ?_))
 refine Lib.hid ?_
 clear ck0
 replace v2 := v2.dn d'
 replace v3 := v3.dn d'
 replace v4 := v4.dn d'
 replace v5 := v5.dn d'
 replace HD := hT HD d'
 clear d'
 have ck0 := v3.ird
 go_wp2_with (first | ((with_reducible refine loadRegs v2 hl ?_ ?_ ?_); rfl; rfl) | (go_at_call 50; (with_reducible refine (G3.out _).mono ?_); rintro e w' ⟨rfl, d'⟩; refine Hid.out ?_))
 refine Lib.hid ?_
 clear ck0
 replace v2 := v2.dn d'
 replace v3 := v3.dn d'
 replace v4 := v4.dn d'
 replace v5 := v5.dn d'
 replace HD := hT HD d'
 clear d'
 have ck0 := v3.iimm
 go_wp2_with (first | (go_at_call 55; (with_reducible refine (G4.out _).mono ?_); rintro e w' ⟨rfl, d'⟩; refine Hid.out ?_))
 refine Lib.hid ?_
 clear ck0
 replace v2 := v2.dn d'
 replace v3 := v3.dn d'
 replace v4 := v4.dn d'
 replace v5 := v5.dn d'
 replace HD := hT HD d'
 clear d'
 go_wp2_with (first | ((with_reducible refine wpList_alloc zeroTrap ?_ ?_); rfl; intro b_v10 w' nn; refine Hid.out ?_))
 refine Lib.hid ?_
 have n_v4_v10 := Lib.hid (nn.ne _ v4.lt)
 have n_v5_v10 := Lib.hid (nn.ne _ v5.lt)
 have d' := nn.dn
 replace v2 := v2.dn d'
 replace v3 := v3.dn d'
 replace v4 := v4.dn d'
 replace v5 := v5.dn d'
 replace HD := hT HD d'
 have v10 := nn.blk
 clear d' nn
 have ck0 := v3.iop
 go_wp2_with fail
 clear ck0
 have nx_v2 : b_v2 ∉ [b_v4, b_v5] := (by simp only [List.mem_cons, List.not_mem_nil, or_false, not_or]; exact ⟨n_v2_v4.out, n_v2_v5.out⟩)
 have nx_v3 : b_v3 ∉ [b_v4, b_v5] := (by simp only [List.mem_cons, List.not_mem_nil, or_false, not_or]; exact ⟨n_v3_v4.out, n_v3_v5.out⟩)
 have nx_v10 : b_v10 ∉ [b_v4, b_v5] := (by simp only [List.mem_cons, List.not_mem_nil, or_false, not_or]; exact ⟨n_v4_v10.out.symm, n_v5_v10.out.symm⟩)
 have hbs : ∀ b ∈ [b_v4, b_v5], ∃ t cs, Blk w' b t cs ∧ NoU8 cs := by
   intro b hb
   simp only [List.mem_cons, List.not_mem_nil, or_false] at hb
   rcases hb with rfl | rfl
   · exact ⟨_, _, v4, (NoU8.mach _)⟩
   · exact ⟨_, _, v5, (NoU8.trap _ _)⟩
 have hbl : ∀ b ∈ [b_v4, b_v5], W.heap.size ≤ b := by
   intro b hb
   simp only [List.mem_cons, List.not_mem_nil, or_false] at hb
   rcases hb with rfl | rfl
   · exact HL_v4.out
   · exact HL_v5.out
 refine wp_region_picks [b_v4, b_v5] [0, 1, 2, 3, 4, 5, 6, 7, 8, 9] 2 (by kernel_rfl) (by kernel_rfl) rfl (by kernel_rfl) ?_
 simp only [pickL, List.drop_succ_cons, List.drop_zero, List.take_succ_cons, List.take_zero, List.cons_append, List.nil_append]
 refine ⟨?_, ?_, ?_⟩
 rotate_left 1
 refine ⟨_, calx33 v2 hl nx_v2 (by rfl) rfl, ?_⟩
 simp only [Act.put, tA, tS, tZ]
 refine ⟨_, calx_pure (by rfl) (fun u => by go_simp; rfl), ?_⟩
 simp only [Act.put, tA, tS, tZ]
 refine ⟨_, calxInt (v := .int .i64 rd) v3 nx_v3 Tryz.underlying3 (by rfl) rfl rfl, ?_⟩
 simp only [Act.put, tA, tS, tZ]
 refine ⟨_, calx_pure (by rfl) (fun u => by go_simp; rfl), ?_⟩
 simp only [Act.put, tA, tS, tZ]
 refine ⟨_, calxInt (v := .int .i64 7) v3 nx_v3 Tryz.underlying3 (by rfl) rfl rfl, ?_⟩
 simp only [Act.put, tA, tS, tZ]
 refine ⟨_, calx_pure (by rfl) (fun u => by go_simp; rfl), ?_⟩
 simp only [Act.put, tA, tS, tZ]
 refine ⟨_, calx_pure (by rfl) (fun u => by go_simp; rfl), ?_⟩
 simp only [Act.put, tA, tS, tZ]
 refine ⟨_, calx_call (fun u du => C1.out u) (by rfl) (fun u => by go_simp), ?_⟩
 simp only [Act.put, tA, tS, tZ]
 refine ⟨_, calx_call (fun u du => C2.out u (hm.dn (HD.out.of_dx du hbl))) (by rfl) (fun u => by go_simp), ?_⟩
 simp only [Act.put, tA, tS, tZ]
 refine ⟨_, calxTrap v10 nx_v10 (by rfl) rfl, ?_⟩
 simp only [Act.put, tA, tS, tZ]
 exact rfl
 have e0 : Dx [b_v4, b_v5] w' w'.drew := Dn.dx (Dn.drawn _)
 have f_v4 := v4.dn (Dn.drawn w')
 have f_v5 := v5.dn (Dn.drawn w')
 refine wpX_one 10 (by kernel_rfl) ?_
 refine x1_store 0 (vs := (mach m')) rfl f_v4 (.inl (by simp)) (info_mach hl') (by rw [mach_size hl', mach_size zlen]; omega) (mach_one _) rfl rfl e0 fun u1 y1 du1 t1 e1 g1 => ?_
 rw [lay_all (mach Mc.zero) (mach m') (by rw [mach_size hl', mach_size zlen])] at g1
 replace f_v5 := (f_v5.dn du1).trn t1 n_v4_v5.out.symm
 clear f_v4 e0
 have f_v4 := g1
 have e0 := e1
 clear g1 t1 du1 e1
 refine wpX_one 11 (by kernel_rfl) ?_
 refine x1_store 0 (vs := #[.int .i64 0, .int .u32 0]) rfl f_v5 (.inl (by simp)) infoTrap (by simp) (by simp [Value.oneCell']) rfl rfl e0 fun u1 y1 du1 t1 e1 g1 => ?_
 rw [lay_all #[.int .i64 0, .int .u32 0] #[.int .i64 0, .int .u32 0] rfl] at g1
 replace f_v4 := (f_v4.dn du1).trn t1 n_v4_v5.out
 clear f_v5 e0
 have f_v5 := g1
 have e0 := e1
 clear g1 t1 du1 e1
 refine wpX_end (by kernel_rfl) fun w' dx => NoPanic.normal ?_
 have D := e0.trans (Dn.dx dx)
 replace f_v4 := f_v4.dn dx
 replace f_v5 := f_v5.dn dx
 clear e0 dx
 replace v2 := v2.dx D nx_v2
 replace v3 := v3.dx D nx_v3
 replace v10 := v10.dx D nx_v10
 replace HD := Lib.hid (HD.out.of_dx D hbl)
 clear v4 v5 D hbs hbl nx_v2 nx_v3 nx_v10
 have v4 := f_v4
 clear f_v4
 have v5 := f_v5
 clear f_v5
 go_wp2_with fail
 exact retMT rfl rfl rfl v4 hl' v5 ⟨rfl, HD.out⟩ rfl
set_option maxRecDepth 100000 in
set_option maxHeartbeats 2000000 in
theorem rd8 (m : Mc) (rd ra rb imm x y z u : Int) (W : World) (hm : m.Ok W) (i0 : -2147483648 ≤ imm) (i1 : imm < 2147483648) (hx : M.reg m.c ra = x) (hy : M.reg m.c rb = y) (hz : M.reg m.c rd = z) (hu : M.iw imm = u) (v : Int) (hv : M.ev 8 x y = v) (m' : Mc) (hm' : m' = { m with c := M.adv (M.setreg m.c rd v) 4 }) :
   Calls Tryz.prog 30 #[.agg (mach m), .agg (ins 8 rd ra rb imm)] W fun e W' => e = .returned (.tuple #[.agg (mach m'), .agg #[.int .i64 0, .int .u32 0]]) ∧ Dn W W' := by
 have hl := hm.len
 have hc := hm.core
 have G1 := Lib.hid fun w => (by have h := refGet (m.c.take 16) ra w (take16 hl); rw [M.reg_take m.c hl, hx] at h; exact h : Calls Tryz.prog 50 #[.agg (ints .u32 (m.c.take 16)), .int .i64 ra] w fun e W' => e = .returned (.int .u32 x) ∧ Dn w W')
 have G2 := Lib.hid fun w => (by have h := refGet (m.c.take 16) rb w (take16 hl); rw [M.reg_take m.c hl, hy] at h; exact h : Calls Tryz.prog 50 #[.agg (ints .u32 (m.c.take 16)), .int .i64 rb] w fun e W' => e = .returned (.int .u32 y) ∧ Dn w W')
 have G3 := Lib.hid fun w => (by have h := refGet (m.c.take 16) rd w (take16 hl); rw [M.reg_take m.c hl, hz] at h; exact h : Calls Tryz.prog 50 #[.agg (ints .u32 (m.c.take 16)), .int .i64 rd] w fun e W' => e = .returned (.int .u32 z) ∧ Dn w W')
 have xr : 0 ≤ x ∧ x < 4294967296 := by rw [← hx]; exact M.reg_rng hc _
 have yr : 0 ≤ y ∧ y < 4294967296 := by rw [← hy]; exact M.reg_rng hc _
 have zr : 0 ≤ z ∧ z < 4294967296 := by rw [← hz]; exact M.reg_rng hc _
 have ur : 0 ≤ u ∧ u < 4294967296 := by rw [← hu]; exact M.iw_rng _
 have G4 := Lib.hid (rTimes imm 1 u i0 i1 (by decide) (by decide) (by rw [← hu]; unfold M.iw; omega))
 have hvu := M.U.ev (op := 8) ⟨xr.1, xr.2⟩ ⟨yr.1, yr.2⟩
 rw [hv] at hvu
 have hvr : 0 ≤ v ∧ v < 4294967296 := ⟨hvu.lo, hvu.hi⟩
 have C1 := Lib.hid fun w => (by have h := refDo 8 x y w ⟨xr.1, xr.2⟩ ⟨yr.1, yr.2⟩; rw [hv] at h; exact h : Calls Tryz.prog 57 #[.int .i64 8, .int .u32 x, .int .u32 y] w fun e W' => e = .returned (.int .u32 v) ∧ Dn w W')
 have hl' : m'.c.length = 29 := by rw [hm']; exact ((hc.setreg rd hvr).adv 4).len
 have C2 := Lib.hid fun w => fun (ow : m.Ok w) => rPut m rd v 4 w ow hvr.1 hvr.2 (by decide) (by decide) _ _ rfl rfl m' hm'
 clear hm'
 clear hv
 clear hx hy hz
 have HD := Lib.hid (Dn.refl W)
 go_enter Tryz.func30, Tryz.ntmps30
 go_wp2_with (first | ((with_reducible refine wpList_box (vs := (mach m)) ?_ ?_ ?_); rfl; rfl; intro b_v2 w' nn; refine Hid.out ?_))
 refine Lib.hid ?_
 have d' := nn.dn
 replace HD := hT HD d'
 have v2 := nn.blk
 clear d' nn
 go_wp2_with (first | ((with_reducible refine wpList_box (vs := (ins 8 rd ra rb imm)) ?_ ?_ ?_); rfl; rfl; intro b_v3 w' nn; refine Hid.out ?_))
 refine Lib.hid ?_
 have d' := nn.dn
 replace v2 := v2.dn d'
 replace HD := hT HD d'
 have v3 := nn.blk
 clear d' nn
 go_wp2_with (first | ((with_reducible refine wpList_alloc zeroMach ?_ ?_); rfl; intro b_v4 w' nn; refine Hid.out ?_))
 refine Lib.hid ?_
 have n_v2_v4 := Lib.hid (nn.ne _ v2.lt)
 have n_v3_v4 := Lib.hid (nn.ne _ v3.lt)
 have HL_v4 : Hid (W.heap.size ≤ b_v4) := Lib.hid (Blk.hi nn HD.out.size)
 have d' := nn.dn
 replace v2 := v2.dn d'
 replace v3 := v3.dn d'
 replace HD := hT HD d'
 have v4 := nn.blk
 clear d' nn
 go_wp2_with (first | ((with_reducible refine wpList_alloc zeroTrap ?_ ?_); rfl; intro b_v5 w' nn; refine Hid.out ?_))
 refine Lib.hid ?_
 have n_v2_v5 := Lib.hid (nn.ne _ v2.lt)
 have n_v3_v5 := Lib.hid (nn.ne _ v3.lt)
 have n_v4_v5 := Lib.hid (nn.ne _ v4.lt)
 have HL_v5 : Hid (W.heap.size ≤ b_v5) := Lib.hid (Blk.hi nn HD.out.size)
 have d' := nn.dn
 replace v2 := v2.dn d'
 replace v3 := v3.dn d'
 replace v4 := v4.dn d'
 replace HD := hT HD d'
 have v5 := nn.blk
 clear d' nn
 have ck0 := v3.ira
 go_wp2_with (first | ((with_reducible refine loadRegs v2 hl ?_ ?_ ?_); rfl; rfl) | (go_at_call 50; (with_reducible refine (G1.out _).mono ?_); rintro e w' ⟨rfl, d'⟩; refine Hid.out ?_))
 refine Lib.hid ?_
 clear ck0
 replace v2 := v2.dn d'
 replace v3 := v3.dn d'
 replace v4 := v4.dn d'
 replace v5 := v5.dn d'
 replace HD := hT HD d'
 clear d'
 have ck0 := v3.irb
 go_wp2_with (first | ((with_reducible refine loadRegs v2 hl ?_ ?_ ?_); rfl; rfl) | (go_at_call 50; (with_reducible refine (G2.out _).mono ?_); rintro e w' ⟨rfl, d'⟩; refine Hid.out ?_))
 refine Lib.hid ?_
 clear ck0
 replace v2 := v2.dn d'
 replace v3 := v3.dn d'
 replace v4 := v4.dn d'
 replace v5 := v5.dn d'
 replace HD := hT HD d'
 clear d'
 have ck0 := v3.ird
 go_wp2_with (first | ((with_reducible refine loadRegs v2 hl ?_ ?_ ?_); rfl; rfl) | (go_at_call 50; (with_reducible refine (G3.out _).mono ?_); rintro e w' ⟨rfl, d'⟩; refine Hid.out ?_))
 refine Lib.hid ?_
 clear ck0
 replace v2 := v2.dn d'
 replace v3 := v3.dn d'
 replace v4 := v4.dn d'
 replace v5 := v5.dn d'
 replace HD := hT HD d'
 clear d'
 have ck0 := v3.iimm
 go_wp2_with (first | (go_at_call 55; (with_reducible refine (G4.out _).mono ?_); rintro e w' ⟨rfl, d'⟩; refine Hid.out ?_))
 refine Lib.hid ?_
 clear ck0
 replace v2 := v2.dn d'
 replace v3 := v3.dn d'
 replace v4 := v4.dn d'
 replace v5 := v5.dn d'
 replace HD := hT HD d'
 clear d'
 go_wp2_with (first | ((with_reducible refine wpList_alloc zeroTrap ?_ ?_); rfl; intro b_v10 w' nn; refine Hid.out ?_))
 refine Lib.hid ?_
 have n_v4_v10 := Lib.hid (nn.ne _ v4.lt)
 have n_v5_v10 := Lib.hid (nn.ne _ v5.lt)
 have d' := nn.dn
 replace v2 := v2.dn d'
 replace v3 := v3.dn d'
 replace v4 := v4.dn d'
 replace v5 := v5.dn d'
 replace HD := hT HD d'
 have v10 := nn.blk
 clear d' nn
 have ck0 := v3.iop
 go_wp2_with fail
 clear ck0
 have nx_v2 : b_v2 ∉ [b_v4, b_v5] := (by simp only [List.mem_cons, List.not_mem_nil, or_false, not_or]; exact ⟨n_v2_v4.out, n_v2_v5.out⟩)
 have nx_v3 : b_v3 ∉ [b_v4, b_v5] := (by simp only [List.mem_cons, List.not_mem_nil, or_false, not_or]; exact ⟨n_v3_v4.out, n_v3_v5.out⟩)
 have nx_v10 : b_v10 ∉ [b_v4, b_v5] := (by simp only [List.mem_cons, List.not_mem_nil, or_false, not_or]; exact ⟨n_v4_v10.out.symm, n_v5_v10.out.symm⟩)
 have hbs : ∀ b ∈ [b_v4, b_v5], ∃ t cs, Blk w' b t cs ∧ NoU8 cs := by
   intro b hb
   simp only [List.mem_cons, List.not_mem_nil, or_false] at hb
   rcases hb with rfl | rfl
   · exact ⟨_, _, v4, (NoU8.mach _)⟩
   · exact ⟨_, _, v5, (NoU8.trap _ _)⟩
 have hbl : ∀ b ∈ [b_v4, b_v5], W.heap.size ≤ b := by
   intro b hb
   simp only [List.mem_cons, List.not_mem_nil, or_false] at hb
   rcases hb with rfl | rfl
   · exact HL_v4.out
   · exact HL_v5.out
 refine wp_region_picks [b_v4, b_v5] [0, 1, 2, 3, 4, 5, 6, 7, 8, 9] 2 (by kernel_rfl) (by kernel_rfl) rfl (by kernel_rfl) ?_
 simp only [pickL, List.drop_succ_cons, List.drop_zero, List.take_succ_cons, List.take_zero, List.cons_append, List.nil_append]
 refine ⟨?_, ?_, ?_⟩
 rotate_left 1
 refine ⟨_, calx33 v2 hl nx_v2 (by rfl) rfl, ?_⟩
 simp only [Act.put, tA, tS, tZ]
 refine ⟨_, calx_pure (by rfl) (fun u => by go_simp; rfl), ?_⟩
 simp only [Act.put, tA, tS, tZ]
 refine ⟨_, calxInt (v := .int .i64 rd) v3 nx_v3 Tryz.underlying3 (by rfl) rfl rfl, ?_⟩
 simp only [Act.put, tA, tS, tZ]
 refine ⟨_, calx_pure (by rfl) (fun u => by go_simp; rfl), ?_⟩
 simp only [Act.put, tA, tS, tZ]
 refine ⟨_, calxInt (v := .int .i64 8) v3 nx_v3 Tryz.underlying3 (by rfl) rfl rfl, ?_⟩
 simp only [Act.put, tA, tS, tZ]
 refine ⟨_, calx_pure (by rfl) (fun u => by go_simp; rfl), ?_⟩
 simp only [Act.put, tA, tS, tZ]
 refine ⟨_, calx_pure (by rfl) (fun u => by go_simp; rfl), ?_⟩
 simp only [Act.put, tA, tS, tZ]
 refine ⟨_, calx_call (fun u du => C1.out u) (by rfl) (fun u => by go_simp), ?_⟩
 simp only [Act.put, tA, tS, tZ]
 refine ⟨_, calx_call (fun u du => C2.out u (hm.dn (HD.out.of_dx du hbl))) (by rfl) (fun u => by go_simp), ?_⟩
 simp only [Act.put, tA, tS, tZ]
 refine ⟨_, calxTrap v10 nx_v10 (by rfl) rfl, ?_⟩
 simp only [Act.put, tA, tS, tZ]
 exact rfl
 have e0 : Dx [b_v4, b_v5] w' w'.drew := Dn.dx (Dn.drawn _)
 have f_v4 := v4.dn (Dn.drawn w')
 have f_v5 := v5.dn (Dn.drawn w')
 refine wpX_one 10 (by kernel_rfl) ?_
 refine x1_store 0 (vs := (mach m')) rfl f_v4 (.inl (by simp)) (info_mach hl') (by rw [mach_size hl', mach_size zlen]; omega) (mach_one _) rfl rfl e0 fun u1 y1 du1 t1 e1 g1 => ?_
 rw [lay_all (mach Mc.zero) (mach m') (by rw [mach_size hl', mach_size zlen])] at g1
 replace f_v5 := (f_v5.dn du1).trn t1 n_v4_v5.out.symm
 clear f_v4 e0
 have f_v4 := g1
 have e0 := e1
 clear g1 t1 du1 e1
 refine wpX_one 11 (by kernel_rfl) ?_
 refine x1_store 0 (vs := #[.int .i64 0, .int .u32 0]) rfl f_v5 (.inl (by simp)) infoTrap (by simp) (by simp [Value.oneCell']) rfl rfl e0 fun u1 y1 du1 t1 e1 g1 => ?_
 rw [lay_all #[.int .i64 0, .int .u32 0] #[.int .i64 0, .int .u32 0] rfl] at g1
 replace f_v4 := (f_v4.dn du1).trn t1 n_v4_v5.out
 clear f_v5 e0
 have f_v5 := g1
 have e0 := e1
 clear g1 t1 du1 e1
 refine wpX_end (by kernel_rfl) fun w' dx => NoPanic.normal ?_
 have D := e0.trans (Dn.dx dx)
 replace f_v4 := f_v4.dn dx
 replace f_v5 := f_v5.dn dx
 clear e0 dx
 replace v2 := v2.dx D nx_v2
 replace v3 := v3.dx D nx_v3
 replace v10 := v10.dx D nx_v10
 replace HD := Lib.hid (HD.out.of_dx D hbl)
 clear v4 v5 D hbs hbl nx_v2 nx_v3 nx_v10
 have v4 := f_v4
 clear f_v4
 have v5 := f_v5
 clear f_v5
 go_wp2_with fail
 exact retMT rfl rfl rfl v4 hl' v5 ⟨rfl, HD.out⟩ rfl
end Go.Proofs.YtjbnflalngjfaaaGreatDoor
