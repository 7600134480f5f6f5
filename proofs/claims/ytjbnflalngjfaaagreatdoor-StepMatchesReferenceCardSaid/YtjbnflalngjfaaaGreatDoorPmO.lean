/-
  Contracts over the translated program and the plain facts behind them, of the texts: ExRdE, ExRefDo. Conditions: those that stand in each theorem.
-/
import Derived.Test.YtjbnflalngjfaaaGreatDoorPmS
import Derived.Test.YtjbnflalngjfaaaGreatDoorPmK
import Derived.Test.YtjbnflalngjfaaaGreatDoorPmL
import Derived.Test.YtjbnflalngjfaaaGreatDoorPmM
import Derived.Test.YtjbnflalngjfaaaGreatDoorPmN
import Derived.Test.YtjbnflalngjfaaaGreatDoorPmV
namespace Go.Proofs.YtjbnflalngjfaaaGreatDoor
open Go.ChangeShapes Go.WideShapes Go.ChangeAt Go.RowKit Go.Sort
set_option linter.unusedVariables false

set_option maxRecDepth 100000 in
set_option maxHeartbeats 2000000 in
theorem rd18 (m : Mc) (rd ra rb imm x y z u : Int) (W : World) (hm : m.Ok W) (i0 : -2147483648 ≤ imm) (i1 : imm < 2147483648) (hx : M.reg m.c ra = x) (hy : M.reg m.c rb = y) (hz : M.reg m.c rd = z) (hu : M.iw imm = u) (m' : Mc) (hm' : m' = { m with c := M.adv (M.setreg m.c rd (M.nxt m.c)) (M.far imm) }) :
   Calls Tryz.prog 30 #[.agg (mach m), .agg (ins 18 rd ra rb imm)] W fun e W' => e = .returned (.tuple #[.agg (mach m'), .agg #[.int .i64 0, .int .u32 0]]) ∧ Dn W W' := by
 have hl := hm.len
 have hc := hm.core
 have G1 := Lib.hid fun w => (by have h := refGet (m.c.take 16) ra w (take16 hl); rw [M.reg_take m.c hl, hx] at h; exact h : Calls Tryz.prog 50 #[.agg (ints .u32 (m.c.take 16)), .int .i64 ra] w fun e W' => e = .returned (.int .u32 x) ∧ Dn w W')
 have G2 := Lib.hid fun w => (by have h := refGet (m.c.take 16) rb w (take16 hl); rw [M.reg_take m.c hl, hy] at h; exact h : Calls Tryz.prog 50 #[.agg (ints .u32 (m.c.take 16)), .int .i64 rb] w fun e W' => e = .returned (.int .u32 y) ∧ Dn w W')
 have G3 := Lib.hid fun w => (by have h := refGet (m.c.take 16) rd w (take16 hl); rw [M.reg_take m.c hl, hz] at h; exact h : Calls Tryz.prog 50 #[.agg (ints .u32 (m.c.take 16)), .int .i64 rd] w fun e W' => e = .returned (.int .u32 z) ∧ Dn w W')
 have xr : 0 ≤ x ∧ x < 4294967296 := by rw [← hx]; exact M.reg_rng hc _
 have yr : 0 ≤ y ∧ y < 4294967296 := by rw [← hy]; exact M.reg_rng hc _
 have zr : 0 ≤ z ∧ z < 4294967296 := by rw [← hz]; exact M.reg_rng hc _
 have ur : 0 ≤ u ∧ u < 4294967296 := by rw [← hu]; exact M.iw_rng _
 have G4 := Lib.hid (rTimes imm 1 u i0 i1 (by decide) (by decide) (by rw [← hu]; unfold M.iw; omega))
 have p0 := (M.core_pc hc).1
 have p1 := (M.core_pc hc).2
 have hpc : m.c.getD 16 0 = M.pc m.c := rfl
 have hnx : (M.pc m.c + 4) % 4294967296 = M.nxt m.c := rfl
 have nr := M.nxt_rng m.c
 have fr := M.far_rng imm
 have C3 := Lib.hid (rTimes imm 4 (M.far imm) i0 i1 (by decide) (by decide) (by unfold M.far M.iw; omega))
 have hl' : m'.c.length = 29 := by rw [hm']; exact ((hc.setreg rd nr).adv (M.far imm)).len
 have C2 := Lib.hid fun w => fun (ow : m.Ok w) => rPut m rd (M.nxt m.c) (M.far imm) w ow nr.1 nr.2 fr.1 fr.2 _ _ rfl rfl m' hm'
 clear hm'
 rw [← hnx] at C2 nr
 clear hnx
 generalize M.far imm = f at C2 C3 fr
 generalize M.pc m.c = p at hpc p0 p1 C2 nr
 have hwr : IntKind.u32.wrap (p + 4) = (p + 4) % 4294967296 := rfl
 clear hx hy hz
 have HD := Lib.hid (Dn.refl W)
 go_enter Tryz.func30, Tryz.ntmps30
 go_wp2_with (first | ((with_reducible refine wpList_box (vs := (mach m)) ?_ ?_ ?_); rfl; rfl; intro b_v2 w' nn; refine Hid.out ?_))
 refine Lib.hid ?_
 have d' := nn.dn
 replace HD := hT HD d'
 have v2 := nn.blk
 clear d' nn
 go_wp2_with (first | ((with_reducible refine wpList_box (vs := (ins 18 rd ra rb imm)) ?_ ?_ ?_); rfl; rfl; intro b_v3 w' nn; refine Hid.out ?_))
 refine Lib.hid ?_
 have d' := nn.dn
 replace v2 := v2.dn d'
 replace HD := hT HD d'
 have v3 := nn.blk
 clear d' nn
 go_wp2_with (first | ((with_reducible refine wpList_alloc zeroMach ?_ ?_); rfl; intro b_v4 w' nn; refine Hid.out ?_))
 refine Lib.hid ?_
 have n_v2_v4 := Lib.hid (nn.ne _ v2.lt)
 have n_v3_v4 := Lib.hid (nn.ne _ v3.lt)
 have HL_v4 : Hid (W.heap.size ≤ b_v4) := Lib.hid (Blk.hi nn HD.out.size)
 have d' := nn.dn
 replace v2 := v2.dn d'
 replace v3 := v3.dn d'
 replace HD := hT HD d'
 have v4 := nn.blk
 clear d' nn
 go_wp2_with (first | ((with_reducible refine wpList_alloc zeroTrap ?_ ?_); rfl; intro b_v5 w' nn; refine Hid.out ?_))
 refine Lib.hid ?_
 have n_v2_v5 := Lib.hid (nn.ne _ v2.lt)
 have n_v3_v5 := Lib.hid (nn.ne _ v3.lt)
 have n_v4_v5 := Lib.hid (nn.ne _ v4.lt)
 have HL_v5 : Hid (W.heap.size ≤ b_v5) := Lib.hid (Blk.hi nn HD.out.size)
 have d' := nn.dn
 replace v2 := v2.dn d'
 replace v3 := v3.dn d'
 replace v4 := v4.dn d'
 replace HD := hT HD d'
 have v5 := nn.blk
 clear d' nn
 have ck0 := v3.ira
 go_wp2_with (first | ((with_reducible refine loadRegs v2 hl ?_ ?_ ?_); rfl; rfl) | (go_at_call 50; (with_reducible refine (G1.out _).mono ?_); rintro e w' ⟨rfl, d'⟩; refine Hid.out ?_))
 refine Lib.hid ?_
 clear ck0
 replace v2 := v2.dn d'
 replace v3 := v3.dn d'
 replace v4 := v4.dn d'
 replace v5 := v5.dn d'
 replace HD := hT HD d'
 clear d'
 have ck0 := v3.irb
 go_wp2_with (first | ((with_reducible refine loadRegs v2 hl ?_ ?_ ?_); rfl; rfl) | (go_at_call 50; (with_reducible refine (G2.out _).mono ?_); rintro e w' ⟨rfl, d'⟩; refine Hid.out ?_))
 refine Lib.hid ?_
 clear ck0
 replace v2 := v2.dn d'
 replace v3 := v3.dn d'
 replace v4 := v4.dn d'
 replace v5 := v5.dn d'
 replace HD := hT HD d'
 clear d'
 have ck0 := v3.ird
 go_wp2_with (first | ((with_reducible refine loadRegs v2 hl ?_ ?_ ?_); rfl; rfl) | (go_at_call 50; (with_reducible refine (G3.out _).mono ?_); rintro e w' ⟨rfl, d'⟩; refine Hid.out ?_))
 refine Lib.hid ?_
 clear ck0
 replace v2 := v2.dn d'
 replace v3 := v3.dn d'
 replace v4 := v4.dn d'
 replace v5 := v5.dn d'
 replace HD := hT HD d'
 clear d'
 have ck0 := v3.iimm
 go_wp2_with (first | (go_at_call 55; (with_reducible refine (G4.out _).mono ?_); rintro e w' ⟨rfl, d'⟩; refine Hid.out ?_))
 refine Lib.hid ?_
 clear ck0
 replace v2 := v2.dn d'
 replace v3 := v3.dn d'
 replace v4 := v4.dn d'
 replace v5 := v5.dn d'
 replace HD := hT HD d'
 clear d'
 go_wp2_with (first | ((with_reducible refine wpList_alloc zeroTrap ?_ ?_); rfl; intro b_v10 w' nn; refine Hid.out ?_))
 refine Lib.hid ?_
 have n_v4_v10 := Lib.hid (nn.ne _ v4.lt)
 have n_v5_v10 := Lib.hid (nn.ne _ v5.lt)
 have d' := nn.dn
 replace v2 := v2.dn d'
 replace v3 := v3.dn d'
 replace v4 := v4.dn d'
 replace v5 := v5.dn d'
 replace HD := hT HD d'
 have v10 := nn.blk
 clear d' nn
 have ck0 := v3.iop
 go_wp2_with fail
 clear ck0
 have nx_v2 : b_v2 ∉ [b_v4, b_v5] := (by simp only [List.mem_cons, List.not_mem_nil, or_false, not_or]; exact ⟨n_v2_v4.out, n_v2_v5.out⟩)
 have nx_v3 : b_v3 ∉ [b_v4, b_v5] := (by simp only [List.mem_cons, List.not_mem_nil, or_false, not_or]; exact ⟨n_v3_v4.out, n_v3_v5.out⟩)
 have nx_v10 : b_v10 ∉ [b_v4, b_v5] := (by simp only [List.mem_cons, List.not_mem_nil, or_false, not_or]; exact ⟨n_v4_v10.out.symm, n_v5_v10.out.symm⟩)
 have hbs : ∀ b ∈ [b_v4, b_v5], ∃ t cs, Blk w' b t cs ∧ NoU8 cs := by
   intro b hb
   simp only [List.mem_cons, List.not_mem_nil, or_false] at hb
   rcases hb with rfl | rfl
   · exact ⟨_, _, v4, (NoU8.mach _)⟩
   · exact ⟨_, _, v5, (NoU8.trap _ _)⟩
 have hbl : ∀ b ∈ [b_v4, b_v5], W.heap.size ≤ b := by
   intro b hb
   simp only [List.mem_cons, List.not_mem_nil, or_false] at hb
   rcases hb with rfl | rfl
   · exact HL_v4.out
   · exact HL_v5.out
 refine wp_region_picks [b_v4, b_v5] [0, 1, 2, 3, 4, 5, 6, 7, 8, 9, 10, 11] 2 (by kernel_rfl) (by kernel_rfl) rfl (by kernel_rfl) ?_
 simp only [pickL, List.drop_succ_cons, List.drop_zero, List.take_succ_cons, List.take_zero, List.cons_append, List.nil_append]
 refine ⟨?_, ?_, ?_⟩
 rotate_left 1
 refine ⟨_, calx33 v2 hl nx_v2 (by rfl) rfl, ?_⟩
 simp only [Act.put, tA, tS, tZ]
 refine ⟨_, calx_pure (by rfl) (fun u => by go_simp; rfl), ?_⟩
 simp only [Act.put, tA, tS, tZ]
 refine ⟨_, calxInt (v := .int .i64 rd) v3 nx_v3 Tryz.underlying3 (by rfl) rfl rfl, ?_⟩
 simp only [Act.put, tA, tS, tZ]
 refine ⟨_, calx_pure (by rfl) (fun u => by go_simp; rfl), ?_⟩
 simp only [Act.put, tA, tS, tZ]
 refine ⟨_, calx_pure (by rfl) (fun u => by go_simp; rfl), ?_⟩
 simp only [Act.put, tA, tS, tZ]
 refine ⟨_, calxInt v2 nx_v2 Tryz.underlying22 (by rfl) rfl (by have h0 := (mach_word hl (i := 16) (by decide)); rw [hpc] at h0; exact h0), ?_⟩
 simp only [Act.put, tA, tS, tZ]
 refine ⟨_, calx_pure (by rfl) (fun u => by go_simp; rfl), ?_⟩
 simp only [Act.put, tA, tS, tZ]
 refine ⟨_, calx_pure (by rfl) (fun u => by go_simp; rfl), ?_⟩
 simp only [Act.put, tA, tS, tZ]
 refine ⟨_, calxInt (v := .int .i32 imm) v3 nx_v3 Tryz.underlying21 (by rfl) rfl rfl, ?_⟩
 simp only [Act.put, tA, tS, tZ]
 refine ⟨_, calx_call (fun u du => C3.out u) (by rfl) (fun u => by go_simp), ?_⟩
 simp only [Act.put, tA, tS, tZ]
 refine ⟨_, calx_call (fun u du => C2.out u (hm.dn (HD.out.of_dx du hbl))) (by rfl) (fun u => by go_simp), ?_⟩
 simp only [Act.put, tA, tS, tZ]
 refine ⟨_, calxTrap v10 nx_v10 (by rfl) rfl, ?_⟩
 simp only [Act.put, tA, tS, tZ]
 exact rfl
 have e0 : Dx [b_v4, b_v5] w' w'.drew := Dn.dx (Dn.drawn _)
 have f_v4 := v4.dn (Dn.drawn w')
 have f_v5 := v5.dn (Dn.drawn w')
 refine wpX_one 12 (by kernel_rfl) ?_
 refine x1_store 0 (vs := (mach m')) rfl f_v4 (.inl (by simp)) (info_mach hl') (by rw [mach_size hl', mach_size zlen]; omega) (mach_one _) rfl rfl e0 fun u1 y1 du1 t1 e1 g1 => ?_
 rw [lay_all (mach Mc.zero) (mach m') (by rw [mach_size hl', mach_size zlen])] at g1
 replace f_v5 := (f_v5.dn du1).trn t1 n_v4_v5.out.symm
 clear f_v4 e0
 have f_v4 := g1
 have e0 := e1
 clear g1 t1 du1 e1
 refine wpX_one 13 (by kernel_rfl) ?_
 refine x1_store 0 (vs := #[.int .i64 0, .int .u32 0]) rfl f_v5 (.inl (by simp)) infoTrap (by simp) (by simp [Value.oneCell']) rfl rfl e0 fun u1 y1 du1 t1 e1 g1 => ?_
 rw [lay_all #[.int .i64 0, .int .u32 0] #[.int .i64 0, .int .u32 0] rfl] at g1
 replace f_v4 := (f_v4.dn du1).trn t1 n_v4_v5.out
 clear f_v5 e0
 have f_v5 := g1
 have e0 := e1
 clear g1 t1 du1 e1
 refine wpX_end (by kernel_rfl) fun w' dx => NoPanic.normal ?_
 have D := e0.trans (Dn.dx dx)
 replace f_v4 := f_v4.dn dx
 replace f_v5 := f_v5.dn dx
 clear e0 dx
 replace v2 := v2.dx D nx_v2
 replace v3 := v3.dx D nx_v3
 replace v10 := v10.dx D nx_v10
 replace HD := Lib.hid (HD.out.of_dx D hbl)
 clear v4 v5 D hbs hbl nx_v2 nx_v3 nx_v10
 have v4 := f_v4
 clear f_v4
 have v5 := f_v5
 clear f_v5
 go_wp2_with fail
 exact retMT rfl rfl rfl v4 hl' v5 ⟨rfl, HD.out⟩ rfl
set_option maxRecDepth 100000 in
set_option maxHeartbeats 2000000 in
theorem rd19 (m : Mc) (rd ra rb imm x y z u : Int) (W : World) (hm : m.Ok W) (i0 : -2147483648 ≤ imm) (i1 : imm < 2147483648) (hx : M.reg m.c ra = x) (hy : M.reg m.c rb = y) (hz : M.reg m.c rd = z) (hu : M.iw imm = u) (m' : Mc) (hm' : m' = { m with c := (M.setreg m.c rd (M.nxt m.c)).set 16 ((x + u) % 4294967296) }) :
   Calls Tryz.prog 30 #[.agg (mach m), .agg (ins 19 rd ra rb imm)] W fun e W' => e = .returned (.tuple #[.agg (mach m'), .agg #[.int .i64 0, .int .u32 0]]) ∧ Dn W W' := by
 have hl := hm.len
 have hc := hm.core
 have G1 := Lib.hid fun w => (by have h := refGet (m.c.take 16) ra w (take16 hl); rw [M.reg_take m.c hl, hx] at h; exact h : Calls Tryz.prog 50 #[.agg (ints .u32 (m.c.take 16)), .int .i64 ra] w fun e W' => e = .returned (.int .u32 x) ∧ Dn w W')
 have G2 := Lib.hid fun w => (by have h := refGet (m.c.take 16) rb w (take16 hl); rw [M.reg_take m.c hl, hy] at h; exact h : Calls Tryz.prog 50 #[.agg (ints .u32 (m.c.take 16)), .int .i64 rb] w fun e W' => e = .returned (.int .u32 y) ∧ Dn w W')
 have G3 := Lib.hid fun w => (by have h := refGet (m.c.take 16) rd w (take16 hl); rw [M.reg_take m.c hl, hz] at h; exact h : Calls Tryz.prog 50 #[.agg (ints .u32 (m.c.take 16)), .int .i64 rd] w fun e W' => e = .returned (.int .u32 z) ∧ Dn w W')
 have xr : 0 ≤ x ∧ x < 4294967296 := by rw [← hx]; exact M.reg_rng hc _
 have yr : 0 ≤ y ∧ y < 4294967296 := by rw [← hy]; exact M.reg_rng hc _
 have zr : 0 ≤ z ∧ z < 4294967296 := by rw [← hz]; exact M.reg_rng hc _
 have ur : 0 ≤ u ∧ u < 4294967296 := by rw [← hu]; exact M.iw_rng _
 have G4 := Lib.hid (rTimes imm 1 u i0 i1 (by decide) (by decide) (by rw [← hu]; unfold M.iw; omega))
 have p0 := (M.core_pc hc).1
 have p1 := (M.core_pc hc).2
 have hpc : m.c.getD 16 0 = M.pc m.c := rfl
 have hnx : (M.pc m.c + 4) % 4294967296 = M.nxt m.c := rfl
 have nr := M.nxt_rng m.c
 have hl' : m'.c.length = 29 := by rw [hm']; exact ((hc.setreg rd nr).set _ _ (M.wrap_rng _).1 (M.wrap_rng _).2).len
 obtain ⟨c1, e1⟩ : ∃ c1, M.setreg m.c rd (M.nxt m.c) = c1 := ⟨_, rfl⟩
 have k1 : M.Core c1 := by rw [← e1]; exact hc.setreg rd nr
 obtain ⟨m1, hm1⟩ : ∃ m1 : Mc, m1 = { m with c := c1 } := ⟨_, rfl⟩
 have hl1 : m1.c.length = 29 := by rw [hm1]; exact k1.len
 have ea : M.adv c1 0 = c1 := M.adv_zero k1
 have C2 := Lib.hid fun w => fun (ow : m.Ok w) => rPut m rd (M.nxt m.c) 0 w ow nr.1 nr.2 (by decide) (by decide) c1 c1 e1 ea m1 hm1
 have HX : Hid (({ m1 with c := m1.c.set 16 ((x + u) % 4294967296) } : Mc) = m') := Lib.hid (by rw [hm', hm1, e1])
 clear e1 ea hm1 hm'
 rw [← hnx] at C2 nr
 clear hnx
 generalize M.pc m.c = p at hpc p0 p1 C2 nr
 clear hx hy hz
 have HD := Lib.hid (Dn.refl W)
 go_enter Tryz.func30, Tryz.ntmps30
 go_wp2_with (first | ((with_reducible refine wpList_box (vs := (mach m)) ?_ ?_ ?_); rfl; rfl; intro b_v2 w' nn; refine Hid.out ?_))
 refine Lib.hid ?_
 have d' := nn.dn
 replace HD := hT HD d'
 have v2 := nn.blk
 clear d' nn
 go_wp2_with (first | ((with_reducible refine wpList_box (vs := (ins 19 rd ra rb imm)) ?_ ?_ ?_); rfl; rfl; intro b_v3 w' nn; refine Hid.out ?_))
 refine Lib.hid ?_
 have d' := nn.dn
 replace v2 := v2.dn d'
 replace HD := hT HD d'
 have v3 := nn.blk
 clear d' nn
 go_wp2_with (first | ((with_reducible refine wpList_alloc zeroMach ?_ ?_); rfl; intro b_v4 w' nn; refine Hid.out ?_))
 refine Lib.hid ?_
 have n_v2_v4 := Lib.hid (nn.ne _ v2.lt)
 have n_v3_v4 := Lib.hid (nn.ne _ v3.lt)
 have HL_v4 : Hid (W.heap.size ≤ b_v4) := Lib.hid (Blk.hi nn HD.out.size)
 have d' := nn.dn
 replace v2 := v2.dn d'
 replace v3 := v3.dn d'
 replace HD := hT HD d'
 have v4 := nn.blk
 clear d' nn
 go_wp2_with (first | ((with_reducible refine wpList_alloc zeroTrap ?_ ?_); rfl; intro b_v5 w' nn; refine Hid.out ?_))
 refine Lib.hid ?_
 have n_v2_v5 := Lib.hid (nn.ne _ v2.lt)
 have n_v3_v5 := Lib.hid (nn.ne _ v3.lt)
 have n_v4_v5 := Lib.hid (nn.ne _ v4.lt)
 have HL_v5 : Hid (W.heap.size ≤ b_v5) := Lib.hid (Blk.hi nn HD.out.size)
 have d' := nn.dn
 replace v2 := v2.dn d'
 replace v3 := v3.dn d'
 replace v4 := v4.dn d'
 replace HD := hT HD d'
 have v5 := nn.blk
 clear d' nn
 have ck0 := v3.ira
 go_wp2_with (first | ((with_reducible refine loadRegs v2 hl ?_ ?_ ?_); rfl; rfl) | (go_at_call 50; (with_reducible refine (G1.out _).mono ?_); rintro e w' ⟨rfl, d'⟩; refine Hid.out ?_))
 refine Lib.hid ?_
 clear ck0
 replace v2 := v2.dn d'
 replace v3 := v3.dn d'
 replace v4 := v4.dn d'
 replace v5 := v5.dn d'
 replace HD := hT HD d'
 clear d'
 have ck0 := v3.irb
 go_wp2_with (first | ((with_reducible refine loadRegs v2 hl ?_ ?_ ?_); rfl; rfl) | (go_at_call 50; (with_reducible refine (G2.out _).mono ?_); rintro e w' ⟨rfl, d'⟩; refine Hid.out ?_))
 refine Lib.hid ?_
 clear ck0
 replace v2 := v2.dn d'
 replace v3 := v3.dn d'
 replace v4 := v4.dn d'
 replace v5 := v5.dn d'
 replace HD := hT HD d'
 clear d'
 have ck0 := v3.ird
 go_wp2_with (first | ((with_reducible refine loadRegs v2 hl ?_ ?_ ?_); rfl; rfl) | (go_at_call 50; (with_reducible refine (G3.out _).mono ?_); rintro e w' ⟨rfl, d'⟩; refine Hid.out ?_))
 refine Lib.hid ?_
 clear ck0
 replace v2 := v2.dn d'
 replace v3 := v3.dn d'
 replace v4 := v4.dn d'
 replace v5 := v5.dn d'
 replace HD := hT HD d'
 clear d'
 have ck0 := v3.iimm
 go_wp2_with (first | (go_at_call 55; (with_reducible refine (G4.out _).mono ?_); rintro e w' ⟨rfl, d'⟩; refine Hid.out ?_))
 refine Lib.hid ?_
 clear ck0
 replace v2 := v2.dn d'
 replace v3 := v3.dn d'
 replace v4 := v4.dn d'
 replace v5 := v5.dn d'
 replace HD := hT HD d'
 clear d'
 go_wp2_with (first | ((with_reducible refine wpList_alloc zeroTrap ?_ ?_); rfl; intro b_v10 w' nn; refine Hid.out ?_))
 refine Lib.hid ?_
 have n_v4_v10 := Lib.hid (nn.ne _ v4.lt)
 have n_v5_v10 := Lib.hid (nn.ne _ v5.lt)
 have d' := nn.dn
 replace v2 := v2.dn d'
 replace v3 := v3.dn d'
 replace v4 := v4.dn d'
 replace v5 := v5.dn d'
 replace HD := hT HD d'
 have v10 := nn.blk
 clear d' nn
 have ck0 := v3.iop
 have ck1 := v3.ird
 have ck2 := v2.word hl 16 rfl
 rw [hpc] at ck2
 go_wp2_with (first | ((with_reducible refine load33 v2 hl ?_ ?_ ?_); rfl; rfl) | (go_at_call 56; (with_reducible refine (C2.out _ (hm.dn HD.out)).mono ?_); rintro e w' ⟨rfl, d'⟩; refine Hid.out ?_))
 refine Lib.hid ?_
 clear ck0 ck1 ck2
 replace v2 := v2.dn d'
 replace v3 := v3.dn d'
 replace v4 := v4.dn d'
 replace v5 := v5.dn d'
 replace v10 := v10.dn d'
 replace HD := hT HD d'
 clear d'
 go_wp2_with (first | ((with_reducible refine wpList_alloc zeroMach ?_ ?_); rfl; intro b_v17 w' nn; refine Hid.out ?_))
 refine Lib.hid ?_
 have n_v2_v17 := Lib.hid (nn.ne _ v2.lt)
 have n_v3_v17 := Lib.hid (nn.ne _ v3.lt)
 have n_v4_v17 := Lib.hid (nn.ne _ v4.lt)
 have n_v5_v17 := Lib.hid (nn.ne _ v5.lt)
 have n_v10_v17 := Lib.hid (nn.ne _ v10.lt)
 have HL_v17 : Hid (W.heap.size ≤ b_v17) := Lib.hid (Blk.hi nn HD.out.size)
 have d' := nn.dn
 replace v2 := v2.dn d'
 replace v3 := v3.dn d'
 replace v4 := v4.dn d'
 replace v5 := v5.dn d'
 replace v10 := v10.dn d'
 replace HD := hT HD d'
 have v17 := nn.blk
 clear d' nn
 go_wp2_with (first | ((with_reducible refine store33 m1 hl1 v17 zlen ?_ ?_ ?_ ?_); rfl; rfl; rfl; intro w' r' t'; refine Hid.out ?_))
 refine Lib.hid ?_
 replace v2 := v2.trn t' n_v2_v17.out
 replace v3 := v3.trn t' n_v3_v17.out
 replace v4 := v4.trn t' n_v4_v17.out
 replace v5 := v5.trn t' n_v5_v17.out
 replace v10 := v10.trn t' n_v10_v17.out
 replace HD := Lib.hid (HD.out.trn HL_v17.out t')
 clear t' v17
 have v17 := r'
 clear r'
 go_wp2_with (first | ((with_reducible refine storeWord (i := 16) (u := (x + u) % 4294967296) v17 hl1 ?_ ?_ ?_ ?_ ?_); rfl; rfl; rfl; rfl; intro w' r' t'; refine Hid.out ?_))
 refine Lib.hid ?_
 replace v2 := v2.trn t' n_v2_v17.out
 replace v3 := v3.trn t' n_v3_v17.out
 replace v4 := v4.trn t' n_v4_v17.out
 replace v5 := v5.trn t' n_v5_v17.out
 replace v10 := v10.trn t' n_v10_v17.out
 rw [HX.out] at r'
 replace HD := Lib.hid (HD.out.trn HL_v17.out t')
 clear t' v17
 have v17 := r'
 clear r'
 go_wp2_with fail
 have nx_v2 : b_v2 ∉ [b_v4, b_v5] := (by simp only [List.mem_cons, List.not_mem_nil, or_false, not_or]; exact ⟨n_v2_v4.out, n_v2_v5.out⟩)
 have nx_v3 : b_v3 ∉ [b_v4, b_v5] := (by simp only [List.mem_cons, List.not_mem_nil, or_false, not_or]; exact ⟨n_v3_v4.out, n_v3_v5.out⟩)
 have nx_v10 : b_v10 ∉ [b_v4, b_v5] := (by simp only [List.mem_cons, List.not_mem_nil, or_false, not_or]; exact ⟨n_v4_v10.out.symm, n_v5_v10.out.symm⟩)
 have nx_v17 : b_v17 ∉ [b_v4, b_v5] := (by simp only [List.mem_cons, List.not_mem_nil, or_false, not_or]; exact ⟨n_v4_v17.out.symm, n_v5_v17.out.symm⟩)
 have hbs : ∀ b ∈ [b_v4, b_v5], ∃ t cs, Blk w' b t cs ∧ NoU8 cs := by
   intro b hb
   simp only [List.mem_cons, List.not_mem_nil, or_false] at hb
   rcases hb with rfl | rfl
   · exact ⟨_, _, v4, (NoU8.mach _)⟩
   · exact ⟨_, _, v5, (NoU8.trap _ _)⟩
 have hbl : ∀ b ∈ [b_v4, b_v5], W.heap.size ≤ b := by
   intro b hb
   simp only [List.mem_cons, List.not_mem_nil, or_false] at hb
   rcases hb with rfl | rfl
   · exact HL_v4.out
   · exact HL_v5.out
 refine wp_region_picks [b_v4, b_v5] [0, 1] 2 (by kernel_rfl) (by kernel_rfl) rfl (by kernel_rfl) ?_
 simp only [pickL, List.drop_succ_cons, List.drop_zero, List.take_succ_cons, List.take_zero, List.cons_append, List.nil_append]
 refine ⟨?_, ?_, ?_⟩
 rotate_left 1
 refine ⟨_, calx33 v17 hl' nx_v17 (by rfl) rfl, ?_⟩
 simp only [Act.put, tA, tS, tZ]
 refine ⟨_, calxTrap v10 nx_v10 (by rfl) rfl, ?_⟩
 simp only [Act.put, tA, tS, tZ]
 exact rfl
 have e0 : Dx [b_v4, b_v5] w' w'.drew := Dn.dx (Dn.drawn _)
 have f_v4 := v4.dn (Dn.drawn w')
 have f_v5 := v5.dn (Dn.drawn w')
 refine wpX_one 2 (by kernel_rfl) ?_
 refine x1_store 0 (vs := (mach m')) rfl f_v4 (.inl (by simp)) (info_mach hl') (by rw [mach_size hl', mach_size zlen]; omega) (mach_one _) rfl rfl e0 fun u1 y1 du1 t1 e1 g1 => ?_
 rw [lay_all (mach Mc.zero) (mach m') (by rw [mach_size hl', mach_size zlen])] at g1
 replace f_v5 := (f_v5.dn du1).trn t1 n_v4_v5.out.symm
 clear f_v4 e0
 have f_v4 := g1
 have e0 := e1
 clear g1 t1 du1 e1
 refine wpX_one 3 (by kernel_rfl) ?_
 refine x1_store 0 (vs := #[.int .i64 0, .int .u32 0]) rfl f_v5 (.inl (by simp)) infoTrap (by simp) (by simp [Value.oneCell']) rfl rfl e0 fun u1 y1 du1 t1 e1 g1 => ?_
 rw [lay_all #[.int .i64 0, .int .u32 0] #[.int .i64 0, .int .u32 0] rfl] at g1
 replace f_v4 := (f_v4.dn du1).trn t1 n_v4_v5.out
 clear f_v5 e0
 have f_v5 := g1
 have e0 := e1
 clear g1 t1 du1 e1
 refine wpX_end (by kernel_rfl) fun w' dx => NoPanic.normal ?_
 have D := e0.trans (Dn.dx dx)
 replace f_v4 := f_v4.dn dx
 replace f_v5 := f_v5.dn dx
 clear e0 dx
 replace v2 := v2.dx D nx_v2
 replace v3 := v3.dx D nx_v3
 replace v10 := v10.dx D nx_v10
 replace v17 := v17.dx D nx_v17
 replace HD := Lib.hid (HD.out.of_dx D hbl)
 clear v4 v5 D hbs hbl nx_v2 nx_v3 nx_v10 nx_v17
 have v4 := f_v4
 clear f_v4
 have v5 := f_v5
 clear f_v5
 go_wp2_with fail
 exact retMT rfl rfl rfl v4 hl' v5 ⟨rfl, HD.out⟩ rfl
set_option maxRecDepth 100000 in
set_option maxHeartbeats 2000000 in
theorem rd20 (m : Mc) (rd ra rb imm x y z u : Int) (W : World) (hm : m.Ok W) (i0 : -2147483648 ≤ imm) (i1 : imm < 2147483648) (hx : M.reg m.c ra = x) (hy : M.reg m.c rb = y) (hz : M.reg m.c rd = z) (hu : M.iw imm = u) :
   Calls Tryz.prog 30 #[.agg (mach m), .agg (ins 20 rd ra rb imm)] W fun e W' => e = .returned (.tuple #[.agg (mach m), .agg #[.int .i64 5, .int .u32 0]]) ∧ Dn W W' := by
 have hl := hm.len
 have hc := hm.core
 have G1 := Lib.hid fun w => (by have h := refGet (m.c.take 16) ra w (take16 hl); rw [M.reg_take m.c hl, hx] at h; exact h : Calls Tryz.prog 50 #[.agg (ints .u32 (m.c.take 16)), .int .i64 ra] w fun e W' => e = .returned (.int .u32 x) ∧ Dn w W')
 have G2 := Lib.hid fun w => (by have h := refGet (m.c.take 16) rb w (take16 hl); rw [M.reg_take m.c hl, hy] at h; exact h : Calls Tryz.prog 50 #[.agg (ints .u32 (m.c.take 16)), .int .i64 rb] w fun e W' => e = .returned (.int .u32 y) ∧ Dn w W')
 have G3 := Lib.hid fun w => (by have h := refGet (m.c.take 16) rd w (take16 hl); rw [M.reg_take m.c hl, hz] at h; exact h : Calls Tryz.prog 50 #[.agg (ints .u32 (m.c.take 16)), .int .i64 rd] w fun e W' => e = .returned (.int .u32 z) ∧ Dn w W')
 have xr : 0 ≤ x ∧ x < 4294967296 := by rw [← hx]; exact M.reg_rng hc _
 have yr : 0 ≤ y ∧ y < 4294967296 := by rw [← hy]; exact M.reg_rng hc _
 have zr : 0 ≤ z ∧ z < 4294967296 := by rw [← hz]; exact M.reg_rng hc _
 have ur : 0 ≤ u ∧ u < 4294967296 := by rw [← hu]; exact M.iw_rng _
 have G4 := Lib.hid (rTimes imm 1 u i0 i1 (by decide) (by decide) (by rw [← hu]; unfold M.iw; omega))
 clear hx hy hz
 have HD := Lib.hid (Dn.refl W)
 go_enter Tryz.func30, Tryz.ntmps30
 go_wp2_with (first | ((with_reducible refine wpList_box (vs := (mach m)) ?_ ?_ ?_); rfl; rfl; intro b_v2 w' nn; refine Hid.out ?_))
 refine Lib.hid ?_
 have d' := nn.dn
 replace HD := hT HD d'
 have v2 := nn.blk
 clear d' nn
 go_wp2_with (first | ((with_reducible refine wpList_box (vs := (ins 20 rd ra rb imm)) ?_ ?_ ?_); rfl; rfl; intro b_v3 w' nn; refine Hid.out ?_))
 refine Lib.hid ?_
 have d' := nn.dn
 replace v2 := v2.dn d'
 replace HD := hT HD d'
 have v3 := nn.blk
 clear d' nn
 go_wp2_with (first | ((with_reducible refine wpList_alloc zeroMach ?_ ?_); rfl; intro b_v4 w' nn; refine Hid.out ?_))
 refine Lib.hid ?_
 have n_v2_v4 := Lib.hid (nn.ne _ v2.lt)
 have n_v3_v4 := Lib.hid (nn.ne _ v3.lt)
 have HL_v4 : Hid (W.heap.size ≤ b_v4) := Lib.hid (Blk.hi nn HD.out.size)
 have d' := nn.dn
 replace v2 := v2.dn d'
 replace v3 := v3.dn d'
 replace HD := hT HD d'
 have v4 := nn.blk
 clear d' nn
 go_wp2_with (first | ((with_reducible refine wpList_alloc zeroTrap ?_ ?_); rfl; intro b_v5 w' nn; refine Hid.out ?_))
 refine Lib.hid ?_
 have n_v2_v5 := Lib.hid (nn.ne _ v2.lt)
 have n_v3_v5 := Lib.hid (nn.ne _ v3.lt)
 have n_v4_v5 := Lib.hid (nn.ne _ v4.lt)
 have HL_v5 : Hid (W.heap.size ≤ b_v5) := Lib.hid (Blk.hi nn HD.out.size)
 have d' := nn.dn
 replace v2 := v2.dn d'
 replace v3 := v3.dn d'
 replace v4 := v4.dn d'
 replace HD := hT HD d'
 have v5 := nn.blk
 clear d' nn
 have ck0 := v3.ira
 go_wp2_with (first | ((with_reducible refine loadRegs v2 hl ?_ ?_ ?_); rfl; rfl) | (go_at_call 50; (with_reducible refine (G1.out _).mono ?_); rintro e w' ⟨rfl, d'⟩; refine Hid.out ?_))
 refine Lib.hid ?_
 clear ck0
 replace v2 := v2.dn d'
 replace v3 := v3.dn d'
 replace v4 := v4.dn d'
 replace v5 := v5.dn d'
 replace HD := hT HD d'
 clear d'
 have ck0 := v3.irb
 go_wp2_with (first | ((with_reducible refine loadRegs v2 hl ?_ ?_ ?_); rfl; rfl) | (go_at_call 50; (with_reducible refine (G2.out _).mono ?_); rintro e w' ⟨rfl, d'⟩; refine Hid.out ?_))
 refine Lib.hid ?_
 clear ck0
 replace v2 := v2.dn d'
 replace v3 := v3.dn d'
 replace v4 := v4.dn d'
 replace v5 := v5.dn d'
 replace HD := hT HD d'
 clear d'
 have ck0 := v3.ird
 go_wp2_with (first | ((with_reducible refine loadRegs v2 hl ?_ ?_ ?_); rfl; rfl) | (go_at_call 50; (with_reducible refine (G3.out _).mono ?_); rintro e w' ⟨rfl, d'⟩; refine Hid.out ?_))
 refine Lib.hid ?_
 clear ck0
 replace v2 := v2.dn d'
 replace v3 := v3.dn d'
 replace v4 := v4.dn d'
 replace v5 := v5.dn d'
 replace HD := hT HD d'
 clear d'
 have ck0 := v3.iimm
 go_wp2_with (first | (go_at_call 55; (with_reducible refine (G4.out _).mono ?_); rintro e w' ⟨rfl, d'⟩; refine Hid.out ?_))
 refine Lib.hid ?_
 clear ck0
 replace v2 := v2.dn d'
 replace v3 := v3.dn d'
 replace v4 := v4.dn d'
 replace v5 := v5.dn d'
 replace HD := hT HD d'
 clear d'
 go_wp2_with (first | ((with_reducible refine wpList_alloc zeroTrap ?_ ?_); rfl; intro b_v10 w' nn; refine Hid.out ?_))
 refine Lib.hid ?_
 have n_v4_v10 := Lib.hid (nn.ne _ v4.lt)
 have n_v5_v10 := Lib.hid (nn.ne _ v5.lt)
 have d' := nn.dn
 replace v2 := v2.dn d'
 replace v3 := v3.dn d'
 replace v4 := v4.dn d'
 replace v5 := v5.dn d'
 replace HD := hT HD d'
 have v10 := nn.blk
 clear d' nn
 have ck0 := v3.iop
 go_wp2_with (first | ((with_reducible refine load33 v2 hl ?_ ?_ ?_); rfl; rfl) | ((with_reducible refine store33 m hl v4 zlen ?_ ?_ ?_ ?_); rfl; rfl; rfl; intro w' r' t'; refine Hid.out ?_))
 refine Lib.hid ?_
 clear ck0
 replace v2 := v2.trn t' n_v2_v4.out
 replace v3 := v3.trn t' n_v3_v4.out
 replace v5 := v5.trn t' n_v4_v5.out.symm
 replace v10 := v10.trn t' n_v4_v10.out.symm
 replace HD := Lib.hid (HD.out.trn HL_v4.out t')
 clear t' v4
 have v4 := r'
 clear r'
 go_wp2_with (first | ((with_reducible refine storeTrap (k := 5) (v := 0) v5 ?_ ?_ ?_ ?_); rfl; rfl; rfl; intro w' r' t'; refine Hid.out ?_))
 refine Lib.hid ?_
 replace v2 := v2.trn t' n_v2_v5.out
 replace v3 := v3.trn t' n_v3_v5.out
 replace v4 := v4.trn t' n_v4_v5.out
 replace v10 := v10.trn t' n_v5_v10.out.symm
 replace HD := Lib.hid (HD.out.trn HL_v5.out t')
 clear t' v5
 have v5 := r'
 clear r'
 go_wp2_with fail
 exact retMT rfl rfl rfl v4 hl v5 ⟨rfl, HD.out⟩ rfl

set_option maxRecDepth 100000 in
set_option maxHeartbeats 2000000 in
theorem refDo11 (m : Mc) (op rd ra rb imm : Int) (W : World) (hm : m.Ok W) (hs : m.xs.length ≤ 100000) (i0 : -2147483648 ≤ imm) (i1 : imm < 2147483648) (hv : Is.M.ok op rd ra rb imm = true) (hp : Is.M.priv op = false) :
   Calls Tryz.prog 30 #[.agg (mach m), .agg (ins op rd ra rb imm)] W fun e W' => ExRet W m (M.ex m.c m.xs op rd ra rb imm) e W' := by
 have hc := hm.core
 have hop : 1 ≤ op ∧ op ≤ 20 := Is.M.plain_op hv hp
 obtain ⟨o1, o2⟩ := hop
 have hall : op = 1 ∨ op = 2 ∨ op = 3 ∨ op = 4 ∨ op = 5 ∨ op = 6 ∨ op = 7 ∨ op = 8 ∨ op = 9 ∨ op = 10 ∨ op = 11 ∨ op = 12 ∨ op = 13 ∨ op = 14 ∨ op = 15 ∨ op = 16 ∨ op = 17 ∨ op = 18 ∨ op = 19 ∨ op = 20 := by omega
 clear o1 o2
 rcases hall with rfl | rfl | rfl | rfl | rfl | rfl | rfl | rfl | rfl | rfl | rfl | rfl | rfl | rfl | rfl | rfl | rfl | rfl | rfl | rfl
 · have hu := M.U.ev (op := 1) (M.U_reg hc ra) (M.U_reg hc rb)
   rw [M.ex_alu _ _ _ _ _ _ _ (by decide)]
   exact (rd1 m rd ra rb imm _ _ _ _ W hm i0 i1 rfl rfl rfl rfl _ rfl _ rfl).mono fun e w' h => ExRet.of hm ((hc.setreg rd ⟨hu.lo, hu.hi⟩).adv 4) rfl h
 · have hu := M.U.ev (op := 2) (M.U_reg hc ra) (M.U_reg hc rb)
   rw [M.ex_alu _ _ _ _ _ _ _ (by decide)]
   exact (rd2 m rd ra rb imm _ _ _ _ W hm i0 i1 rfl rfl rfl rfl _ rfl _ rfl).mono fun e w' h => ExRet.of hm ((hc.setreg rd ⟨hu.lo, hu.hi⟩).adv 4) rfl h
 · have hu := M.U.ev (op := 3) (M.U_reg hc ra) (M.U_reg hc rb)
   rw [M.ex_alu _ _ _ _ _ _ _ (by decide)]
   exact (rd3 m rd ra rb imm _ _ _ _ W hm i0 i1 rfl rfl rfl rfl _ rfl _ rfl).mono fun e w' h => ExRet.of hm ((hc.setreg rd ⟨hu.lo, hu.hi⟩).adv 4) rfl h
 · have hu := M.U.ev (op := 4) (M.U_reg hc ra) (M.U_reg hc rb)
   rw [M.ex_alu _ _ _ _ _ _ _ (by decide)]
   exact (rd4 m rd ra rb imm _ _ _ _ W hm i0 i1 rfl rfl rfl rfl _ rfl _ rfl).mono fun e w' h => ExRet.of hm ((hc.setreg rd ⟨hu.lo, hu.hi⟩).adv 4) rfl h
 · have hu := M.U.ev (op := 5) (M.U_reg hc ra) (M.U_reg hc rb)
   rw [M.ex_alu _ _ _ _ _ _ _ (by decide)]
   exact (rd5 m rd ra rb imm _ _ _ _ W hm i0 i1 rfl rfl rfl rfl _ rfl _ rfl).mono fun e w' h => ExRet.of hm ((hc.setreg rd ⟨hu.lo, hu.hi⟩).adv 4) rfl h
 · have hu := M.U.ev (op := 6) (M.U_reg hc ra) (M.U_reg hc rb)
   rw [M.ex_alu _ _ _ _ _ _ _ (by decide)]
   exact (rd6 m rd ra rb imm _ _ _ _ W hm i0 i1 rfl rfl rfl rfl _ rfl _ rfl).mono fun e w' h => ExRet.of hm ((hc.setreg rd ⟨hu.lo, hu.hi⟩).adv 4) rfl h
 · have hu := M.U.ev (op := 7) (M.U_reg hc ra) (M.U_reg hc rb)
   rw [M.ex_alu _ _ _ _ _ _ _ (by decide)]
   exact (rd7 m rd ra rb imm _ _ _ _ W hm i0 i1 rfl rfl rfl rfl _ rfl _ rfl).mono fun e w' h => ExRet.of hm ((hc.setreg rd ⟨hu.lo, hu.hi⟩).adv 4) rfl h
 · have hu := M.U.ev (op := 8) (M.U_reg hc ra) (M.U_reg hc rb)
   rw [M.ex_alu _ _ _ _ _ _ _ (by decide)]
   exact (rd8 m rd ra rb imm _ _ _ _ W hm i0 i1 rfl rfl rfl rfl _ rfl _ rfl).mono fun e w' h => ExRet.of hm ((hc.setreg rd ⟨hu.lo, hu.hi⟩).adv 4) rfl h
 · rw [M.ex_addi]
   exact (rd9 m rd ra rb imm _ _ _ _ W hm i0 i1 rfl rfl rfl rfl _ rfl).mono fun e w' h => ExRet.of hm ((hc.setreg rd (M.ea_rng _ _ _)).adv 4) rfl h
 · rw [M.ex_lui]
   exact (rd10 m rd ra rb imm _ _ _ _ W hm i0 i1 rfl rfl rfl rfl _ rfl _ rfl).mono fun e w' h => ExRet.of hm ((hc.setreg rd (M.wrap_rng _)).adv 4) rfl h
 · rw [M.ex_lw]
   have hu := alv_rng hm (M.ea m.c ra imm) 4 (by decide) (by decide)
   by_cases hk : M.acz m.c m.xs.length (M.ea m.c ra imm) 4 = 0
   · rw [M.exL_ok _ _ _ hk]
     exact (rd11ok m rd ra rb imm _ _ _ _ W hm i0 i1 rfl rfl rfl rfl hs _ hk rfl hu _ rfl).mono fun e w' h => ExRet.of hm ((hc.setreg rd hu).adv 4) rfl h
   · rw [M.exL_no _ _ _ hk]
     exact (rd11no m rd ra rb imm _ _ _ _ W hm i0 i1 rfl rfl rfl rfl hs _ _ rfl (M.atv_no hk) hk).mono fun e w' h => ExRet.of hm hc rfl h
 · rw [M.ex_sw]
   by_cases hk : M.acz m.c m.xs.length (M.ea m.c ra imm) 4 = 0
   · rw [M.exS_ok _ _ _ hk]
     exact rd12ok m rd ra rb imm _ _ _ _ W hm i0 i1 rfl rfl rfl rfl hs _ hk rfl _ rfl
   · rw [M.exS_no _ _ _ hk]
     exact (rd12no m rd ra rb imm _ _ _ _ W hm i0 i1 rfl rfl rfl rfl hs _ _ rfl (M.atv_no hk) hk).mono fun e w' h => ExRet.of hm hc rfl h
 · rw [M.ex_lb]
   have hu := alv_rng hm (M.ea m.c ra imm) 1 (by decide) (by decide)
   by_cases hk : M.acz m.c m.xs.length (M.ea m.c ra imm) 1 = 0
   · rw [M.exL_ok _ _ _ hk]
     exact (rd13ok m rd ra rb imm _ _ _ _ W hm i0 i1 rfl rfl rfl rfl hs _ hk rfl hu _ rfl).mono fun e w' h => ExRet.of hm ((hc.setreg rd hu).adv 4) rfl h
   · rw [M.exL_no _ _ _ hk]
     exact (rd13no m rd ra rb imm _ _ _ _ W hm i0 i1 rfl rfl rfl rfl hs _ _ rfl (M.atv_no hk) hk).mono fun e w' h => ExRet.of hm hc rfl h
 · rw [M.ex_sb]
   by_cases hk : M.acz m.c m.xs.length (M.ea m.c ra imm) 1 = 0
   · rw [M.exS_ok _ _ _ hk]
     exact rd14ok m rd ra rb imm _ _ _ _ W hm i0 i1 rfl rfl rfl rfl hs _ hk rfl _ rfl
   · rw [M.exS_no _ _ _ hk]
     exact (rd14no m rd ra rb imm _ _ _ _ W hm i0 i1 rfl rfl rfl rfl hs _ _ rfl (M.atv_no hk) hk).mono fun e w' h => ExRet.of hm hc rfl h
 · rw [M.ex_br _ _ _ _ _ _ _ (by decide)]
   cases hk : M.tk 15 (M.reg m.c rd) (M.reg m.c ra)
   · rw [if_neg (by decide)]
     exact (rd15no m rd ra rb imm _ _ _ _ W hm i0 i1 rfl rfl rfl rfl hk _ rfl).mono fun e w' h => ExRet.of hm (hc.adv _) rfl h
   · rw [if_pos rfl]
     exact (rd15yes m rd ra rb imm _ _ _ _ W hm i0 i1 rfl rfl rfl rfl hk _ rfl).mono fun e w' h => ExRet.of hm (hc.adv _) rfl h
 · rw [M.ex_br _ _ _ _ _ _ _ (by decide)]
   cases hk : M.tk 16 (M.reg m.c rd) (M.reg m.c ra)
   · rw [if_neg (by decide)]
     exact (rd16no m rd ra rb imm _ _ _ _ W hm i0 i1 rfl rfl rfl rfl hk _ rfl).mono fun e w' h => ExRet.of hm (hc.adv _) rfl h
   · rw [if_pos rfl]
     exact (rd16yes m rd ra rb imm _ _ _ _ W hm i0 i1 rfl rfl rfl rfl hk _ rfl).mono fun e w' h => ExRet.of hm (hc.adv _) rfl h
 · rw [M.ex_br _ _ _ _ _ _ _ (by decide)]
   cases hk : M.tk 17 (M.reg m.c rd) (M.reg m.c ra)
   · rw [if_neg (by decide)]
     exact (rd17no m rd ra rb imm _ _ _ _ W hm i0 i1 rfl rfl rfl rfl hk _ rfl).mono fun e w' h => ExRet.of hm (hc.adv _) rfl h
   · rw [if_pos rfl]
     exact (rd17yes m rd ra rb imm _ _ _ _ W hm i0 i1 rfl rfl rfl rfl hk _ rfl).mono fun e w' h => ExRet.of hm (hc.adv _) rfl h
 · rw [M.ex_jal]
   exact (rd18 m rd ra rb imm _ _ _ _ W hm i0 i1 rfl rfl rfl rfl _ rfl).mono fun e w' h => ExRet.of hm ((hc.setreg rd (M.nxt_rng _)).adv _) rfl h
 · rw [M.ex_jalr]
   exact (rd19 m rd ra rb imm _ _ _ _ W hm i0 i1 rfl rfl rfl rfl _ rfl).mono fun e w' h => ExRet.of hm ((hc.setreg rd (M.nxt_rng _)).set _ _ (M.ea_rng _ _ _).1 (M.ea_rng _ _ _).2) rfl h
 · rw [M.ex_ecall]
   exact (rd20 m rd ra rb imm _ _ _ _ W hm i0 i1 rfl rfl rfl rfl).mono fun e w' h => ExRet.of hm hc rfl h
end Go.Proofs.YtjbnflalngjfaaaGreatDoor
