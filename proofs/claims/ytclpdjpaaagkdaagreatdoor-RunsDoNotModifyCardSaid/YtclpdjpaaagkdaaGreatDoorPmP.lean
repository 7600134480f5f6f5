/-
  Contracts over the translated program and the plain facts behind them, of the texts: PvRefs. Conditions: those that stand in each theorem.
-/
import Derived.Test.YtclpdjpaaagkdaaGreatDoorPmU
import Derived.Test.YtclpdjpaaagkdaaGreatDoorPmT
import Derived.Test.YtclpdjpaaagkdaaGreatDoorPmS
import Derived.Test.YtclpdjpaaagkdaaGreatDoorPmB
import Derived.Test.YtclpdjpaaagkdaaGreatDoorPmA
import Derived.Test.YtclpdjpaaagkdaaGreatDoorPmX
namespace Go.Proofs.YtclpdjpaaagkdaaGreatDoor
open Go.ChangeShapes Go.WideShapes Go.ChangeAt Go.RowKit Go.Sort
set_option linter.unusedVariables false

set_option maxRecDepth 100000 in
set_option maxHeartbeats 2000000 in
theorem rpv21 (m : Mc) (rd ra rb imm : Int) (W : World) (hm : m.Ok W) (x : Int) (hx : M.reg m.c ra = x) (i0 : -2147483648 ≤ imm) (i1 : imm < 2147483648) (v : Int) (hv : Cs.M.rd (m.c.drop 17) m.t imm = v) (v0 : 0 ≤ v) (v1 : v < 4294967296) (c1 : List Int) (h1 : M.setreg m.c rd v = c1) (c2 : List Int) (h2 : M.adv c1 4 = c2) (m' : Mc) (hm' : m' = { m with c := c2 }) :
   Calls Tryz.prog 35 #[.agg (mach m), .agg (ins 21 rd ra rb imm)] W fun e W' => e = .returned (.agg (mach m')) ∧ Dn W W' := by
 have hl := hm.len
 have hc := hm.core
 have xr : 0 ≤ x ∧ x < 4294967296 := by rw [← hx]; exact M.reg_rng hc _
 have C0 := Lib.hid fun w => (by have h := refGet (m.c.take 16) ra w (take16 hl); rw [M.reg_take m.c hl, hx] at h; exact h : Calls Tryz.prog 49 #[.agg (ints .u32 (m.c.take 16)), .int .i64 ra] w fun e W' => e = .returned (.int .u32 x) ∧ Dn w W')
 have t0 := hm.t0
 have t1 := hm.t1
 have hwi : IntKind.i64.wrap imm = imm := by rw [IntKind.wrap_i64]; omega
 have k1 : M.Core c1 := by rw [← h1]; exact hc.setreg rd ⟨v0, v1⟩
 have p0 := (k1.rng 16).1
 have p1 := (k1.rng 16).2
 obtain ⟨p, hp⟩ : ∃ p, c1.getD 16 0 = p := ⟨_, rfl⟩
 rw [hp] at p0 p1
 have h2' : c1.set 16 ((p + 4) % 4294967296) = c2 := by rw [← h2, ← hp]; rfl
 obtain ⟨m1, hm1e⟩ : ∃ m1 : Mc, m1 = { m with c := c1 } := ⟨_, rfl⟩
 have l1 : m1.c.length = 29 := by rw [hm1e]; exact k1.len
 have hl' : m'.c.length = 29 := by rw [hm', ← h2]; exact (k1.adv 4).len
 have hp1 : m1.c.getD 16 0 = p := by rw [hm1e]; exact hp
 have HX : Hid (({ m1 with c := m1.c.set 16 ((p + 4) % 4294967296) } : Mc) = m') := Lib.hid (by rw [hm', hm1e, ← h2'])
 replace hm1e := Lib.hid hm1e
 have C1 := Lib.hid fun w => (by have h := Cs.refRead (m.c.drop 17) m.t imm w (drop17 hl) t0 t1; rw [hv] at h; exact h : Calls Tryz.prog 52 #[.agg (ints .u32 (m.c.drop 17)), .int .u64 m.t, .int .i64 imm] w fun e W' => e = .returned (.int .u32 v) ∧ Dn w W')
 have he : (M.setreg (m.c.take 16) rd v).length = 16 := by rw [M.setreg_len, List.length_take, hl]; rfl
 have HE : Hid (M.setreg (m.c.take 16) rd v ++ m.c.drop 16 = c1) := Lib.hid (by rw [M.setreg_take m.c hl]; exact h1)
 have C2 := Lib.hid fun w => refPut (m.c.take 16) rd v w (take16 hl)
 generalize M.setreg (m.c.take 16) rd v = e at he HE C2
 clear h1 hv h2 h2' hm' hp
 clear hx
 have HD := Lib.hid (Dn.refl W)
 go_enter Tryz.func35, Tryz.ntmps35
 go_wp2_with (first | ((with_reducible refine wpList_box (vs := (mach m)) ?_ ?_ ?_); rfl; rfl; intro b_v2 w' nn; refine Hid.out ?_))
 refine Lib.hid ?_
 have HL_v2 : Hid (W.heap.size ≤ b_v2) := Lib.hid (Blk.hi nn HD.out.size)
 have d' := nn.dn
 replace HD := hT HD d'
 have v2 := nn.blk
 clear d' nn
 go_wp2_with (first | ((with_reducible refine wpList_box (vs := (ins 21 rd ra rb imm)) ?_ ?_ ?_); rfl; rfl; intro b_v3 w' nn; refine Hid.out ?_))
 refine Lib.hid ?_
 have n_v2_v3 := Lib.hid (nn.ne _ v2.lt)
 have d' := nn.dn
 replace v2 := v2.dn d'
 replace HD := hT HD d'
 have v3 := nn.blk
 clear d' nn
 go_wp2_with (first | ((with_reducible refine wpList_alloc zeroMach ?_ ?_); rfl; intro b_v4 w' nn; refine Hid.out ?_))
 refine Lib.hid ?_
 have n_v2_v4 := Lib.hid (nn.ne _ v2.lt)
 have n_v3_v4 := Lib.hid (nn.ne _ v3.lt)
 have HL_v4 : Hid (W.heap.size ≤ b_v4) := Lib.hid (Blk.hi nn HD.out.size)
 have d' := nn.dn
 replace v2 := v2.dn d'
 replace v3 := v3.dn d'
 replace HD := hT HD d'
 have v4 := nn.blk
 clear d' nn
 have ck0 := v3.ira
 go_wp2_with (first | ((with_reducible refine loadRegs v2 hl ?_ ?_ ?_); rfl; rfl) | (go_at_call 49; (with_reducible refine (C0.out _).mono ?_); rintro e w' ⟨rfl, d'⟩; refine Hid.out ?_))
 refine Lib.hid ?_
 clear ck0
 replace v2 := v2.dn d'
 replace v3 := v3.dn d'
 replace v4 := v4.dn d'
 replace HD := hT HD d'
 clear d'
 have ck0 := v3.iop
 go_wp2_with fail
 clear ck0
 have nx_v2 : b_v2 ∉ ([] : List Nat) := (by simp)
 have nx_v3 : b_v3 ∉ ([] : List Nat) := (by simp)
 have nx_v4 : b_v4 ∉ ([] : List Nat) := (by simp)
 have hbs : ∀ b ∈ ([] : List Nat), ∃ t cs, Blk w' b t cs ∧ NoU8 cs := fun b hb => absurd hb (by simp)
 have hbl : ∀ b ∈ ([] : List Nat), W.heap.size ≤ b := fun b hb => absurd hb (by simp)
 refine wp_region_picksZ [] 17 [0, 1, 2, 3, 4, 5, 6, 7, 8, 9, 10, 11, 12, 13, 14, 15, 16] 1 (by kernel_rfl) (by kernel_rfl) rfl (by kernel_rfl) (by kernel_rfl) ?_
 simp only [pickL, List.drop_succ_cons, List.drop_zero, List.take_succ_cons, List.take_zero, List.cons_append, List.nil_append]
 refine ⟨?_, ?_, ?_⟩
 rotate_left 1
 refine ⟨_, calx_pure (by rfl) (fun u => by go_simp; rfl), ?_⟩
 simp only [Act.put, tA, tS, tZ]
 refine ⟨_, calx_pure (by rfl) (fun u => by go_simp; rfl), ?_⟩
 simp only [Act.put, tA, tS, tZ]
 refine ⟨_, calxRegs v2 hl nx_v2 (by rfl) rfl, ?_⟩
 simp only [Act.put, tA, tS, tZ]
 refine ⟨_, calx_pure (by rfl) (fun u => by go_simp; rfl), ?_⟩
 simp only [Act.put, tA, tS, tZ]
 refine ⟨_, calxInt (v := .int .i64 rd) v3 nx_v3 Tryz.underlying3 (by rfl) rfl rfl, ?_⟩
 simp only [Act.put, tA, tS, tZ]
 refine ⟨_, calx_pure (by rfl) (fun u => by go_simp; rfl), ?_⟩
 simp only [Act.put, tA, tS, tZ]
 refine ⟨_, calx_pure (by rfl) (fun u => by go_simp; rfl), ?_⟩
 simp only [Act.put, tA, tS, tZ]
 refine ⟨_, calxCsr v2 hl nx_v2 (by rfl) rfl, ?_⟩
 simp only [Act.put, tA, tS, tZ]
 refine ⟨_, calx_pure (by rfl) (fun u => by go_simp; rfl), ?_⟩
 simp only [Act.put, tA, tS, tZ]
 refine ⟨_, calxInt (v := .int .u64 m.t) v2 nx_v2 Tryz.underlying28 (by rfl) rfl (mach_tail hl (i := 1) (by decide)), ?_⟩
 simp only [Act.put, tA, tS, tZ]
 refine ⟨_, calx_pure (by rfl) (fun u => by go_simp; rfl), ?_⟩
 simp only [Act.put, tA, tS, tZ]
 refine ⟨_, calxInt (v := .int .i32 imm) v3 nx_v3 Tryz.underlying21 (by rfl) rfl rfl, ?_⟩
 simp only [Act.put, tA, tS, tZ]
 refine ⟨_, calx_pure (by rfl) (fun u => by go_simp; rfl), ?_⟩
 simp only [Act.put, tA, tS, tZ]
 refine ⟨_, calx_call (fun u du => C1.out u) (by rfl) (fun u => by go_simp), ?_⟩
 simp only [Act.put, tA, tS, tZ]
 refine ⟨_, calx_call (fun u du => C2.out u) (by rfl) (fun u => by go_simp), ?_⟩
 simp only [Act.put, tA, tS, tZ]
 refine ⟨_, calx_pure (by rfl) (fun u => by go_simp; rfl), ?_⟩
 simp only [Act.put, tA, tS, tZ]
 refine ⟨_, calx_pure (by rfl) (fun u => by go_simp; rfl), ?_⟩
 simp only [Act.put, tA, tS, tZ]
 exact rfl
 refine wpZ_store 0 (vs := (ints .u32 e)) rfl (by kernel_rfl) (by kernel_rfl) (v2.dn (Dn.drawn w')) (info_16 _ he) (by rw [ints_size, he, mach_size hl]; omega) (ints_one _ _) rfl rfl fun u y z' du t' r' dz => ?_
 have d' := (Dn.drawn w').trans du
 clear hbs hbl nx_v2 nx_v3 nx_v4
 rw [lay_regs hl e he] at r'
 replace v3 := ((v3.dn d').trn t' n_v2_v3.out.symm).dn dz
 replace v4 := ((v4.dn d').trn t' n_v2_v4.out.symm).dn dz
 replace r' := r'.dn dz
 rw [HE.out, ← hm1e.out] at r'
 replace HD := Lib.hid (((HD.out.trans d').trn HL_v2.out t').trans dz)
 clear dz t' d' du v2
 have v2 := r'
 clear r'
 have ck0 := v3.iop
 have ck1 := v2.word l1 16 rfl
 rw [hp1] at ck1
 go_wp2_with (first | ((with_reducible refine storeWord (i := 16) (u := (p + 4) % 4294967296) v2 l1 ?_ ?_ ?_ ?_ ?_); rfl; rfl; rfl; rfl; intro w' r' t'; refine Hid.out ?_))
 refine Lib.hid ?_
 clear ck0 ck1
 replace v3 := v3.trn t' n_v2_v3.out.symm
 replace v4 := v4.trn t' n_v2_v4.out.symm
 rw [HX.out] at r'
 replace HD := Lib.hid (HD.out.trn HL_v2.out t')
 clear t' v2
 have v2 := r'
 clear r'
 go_wp2_with (first | ((with_reducible refine load33 v2 hl' ?_ ?_ ?_); rfl; rfl) | ((with_reducible refine store33 m' hl' v4 zlen ?_ ?_ ?_ ?_); rfl; rfl; rfl; intro w' r' t'; refine Hid.out ?_))
 refine Lib.hid ?_
 replace v2 := v2.trn t' n_v2_v4.out
 replace v3 := v3.trn t' n_v3_v4.out
 replace HD := Lib.hid (HD.out.trn HL_v4.out t')
 clear t' v4
 have v4 := r'
 clear r'
 go_wp2_with fail
 exact retM rfl rfl v4 hl' ⟨rfl, HD.out⟩ rfl
set_option maxRecDepth 100000 in
set_option maxHeartbeats 2000000 in
theorem rpv22 (m : Mc) (rd ra rb imm : Int) (W : World) (hm : m.Ok W) (x : Int) (hx : M.reg m.c ra = x) (i0 : -2147483648 ≤ imm) (i1 : imm < 2147483648) (c1 : List Int) (h1 : M.csw m.c imm x = c1) (c2 : List Int) (h2 : M.adv c1 4 = c2) (m' : Mc) (hm' : m' = { m with c := c2 }) :
   Calls Tryz.prog 35 #[.agg (mach m), .agg (ins 22 rd ra rb imm)] W fun e W' => e = .returned (.agg (mach m')) ∧ Dn W W' := by
 have hl := hm.len
 have hc := hm.core
 have xr : 0 ≤ x ∧ x < 4294967296 := by rw [← hx]; exact M.reg_rng hc _
 have C0 := Lib.hid fun w => (by have h := refGet (m.c.take 16) ra w (take16 hl); rw [M.reg_take m.c hl, hx] at h; exact h : Calls Tryz.prog 49 #[.agg (ints .u32 (m.c.take 16)), .int .i64 ra] w fun e W' => e = .returned (.int .u32 x) ∧ Dn w W')
 have k1 : M.Core c1 := by rw [← h1]; exact hc.csw imm x
 have p0 := (k1.rng 16).1
 have p1 := (k1.rng 16).2
 obtain ⟨p, hp⟩ : ∃ p, c1.getD 16 0 = p := ⟨_, rfl⟩
 rw [hp] at p0 p1
 have h2' : c1.set 16 ((p + 4) % 4294967296) = c2 := by rw [← h2, ← hp]; rfl
 obtain ⟨m1, hm1e⟩ : ∃ m1 : Mc, m1 = { m with c := c1 } := ⟨_, rfl⟩
 have l1 : m1.c.length = 29 := by rw [hm1e]; exact k1.len
 have hl' : m'.c.length = 29 := by rw [hm', ← h2]; exact (k1.adv 4).len
 have hp1 : m1.c.getD 16 0 = p := by rw [hm1e]; exact hp
 have HX : Hid (({ m1 with c := m1.c.set 16 ((p + 4) % 4294967296) } : Mc) = m') := Lib.hid (by rw [hm', hm1e, ← h2'])
 replace hm1e := Lib.hid hm1e
 have he : (Cs.M.wr (m.c.drop 17) imm x).length = 12 := (Cs.M.wr_ok (M.csr_ok hc) imm x).len
 have HE : Hid (m.c.take 17 ++ Cs.M.wr (m.c.drop 17) imm x = c1) := Lib.hid h1
 have C1 := Lib.hid fun w => Cs.refWrite (m.c.drop 17) imm x w (M.csr_ok hc) xr.1 xr.2
 generalize Cs.M.wr (m.c.drop 17) imm x = e at he HE C1
 clear h1 h2 h2' hm' hp
 clear hx
 have E1 := Lib.hid (HE.out)
 have E2 := Lib.hid (hm1e.out).symm
 have E3 := Lib.hid (HX.out)
 have D1 := Lib.hid fun w (d : Dn W w) => C0.out w
 have D2 := Lib.hid fun w (d : Dn W w) => C1.out w
 have N1 : wd m1.c 16 = _ := hp1
 have S : Hid (Sw W W []) := Lib.hid (Dn.refl W)
 go_enter Tryz.func35, Tryz.ntmps35
 exact Wr
set_option maxRecDepth 100000 in
set_option maxHeartbeats 2000000 in
theorem rpv23 (m : Mc) (rd ra rb imm : Int) (W : World) (hm : m.Ok W) (x : Int) (hx : M.reg m.c ra = x) (m' : Mc) (hm' : m' = { m with c := M.leave m.c }) :
   Calls Tryz.prog 35 #[.agg (mach m), .agg (ins 23 rd ra rb imm)] W fun e W' => e = .returned (.agg (mach m')) ∧ Dn W W' := by
 have hl := hm.len
 have hc := hm.core
 have xr : 0 ≤ x ∧ x < 4294967296 := by rw [← hx]; exact M.reg_rng hc _
 have C0 := Lib.hid fun w => (by have h := refGet (m.c.take 16) ra w (take16 hl); rw [M.reg_take m.c hl, hx] at h; exact h : Calls Tryz.prog 49 #[.agg (ints .u32 (m.c.take 16)), .int .i64 ra] w fun e W' => e = .returned (.int .u32 x) ∧ Dn w W')
 have k1 : M.Core (M.leave m.c) := hc.leave
 have C1 := Lib.hid fun w => refReturn m.c w hc
 obtain ⟨c1, h1⟩ : ∃ c1, M.leave m.c = c1 := ⟨_, rfl⟩
 rw [h1] at C1 k1 hm'
 have l1 := k1.len
 have hl' : m'.c.length = 29 := by rw [hm']; exact l1
 replace hm' := Lib.hid hm'
 clear h1
 clear hx
 have E1 := Lib.hid (hm'.out).symm
 have D1 := Lib.hid fun w (d : Dn W w) => C0.out w
 have D2 := Lib.hid fun w (d : Dn W w) => C1.out w
 have S : Hid (Sw W W []) := Lib.hid (Dn.refl W)
 go_enter Tryz.func35, Tryz.ntmps35
 exact Wr
set_option maxRecDepth 100000 in
set_option maxHeartbeats 2000000 in
theorem rpv24 (m : Mc) (rd ra rb imm : Int) (W : World) (hm : m.Ok W) (x : Int) (hx : M.reg m.c ra = x) (c2 : List Int) (h2 : M.adv m.c 4 = c2) (m' : Mc) (hm' : m' = { m with c := c2, h := true }) :
   Calls Tryz.prog 35 #[.agg (mach m), .agg (ins 24 rd ra rb imm)] W fun e W' => e = .returned (.agg (mach m')) ∧ Dn W W' := by
 have hl := hm.len
 have hc := hm.core
 have xr : 0 ≤ x ∧ x < 4294967296 := by rw [← hx]; exact M.reg_rng hc _
 have C0 := Lib.hid fun w => (by have h := refGet (m.c.take 16) ra w (take16 hl); rw [M.reg_take m.c hl, hx] at h; exact h : Calls Tryz.prog 49 #[.agg (ints .u32 (m.c.take 16)), .int .i64 ra] w fun e W' => e = .returned (.int .u32 x) ∧ Dn w W')
 obtain ⟨c1, hc1⟩ : ∃ c1, c1 = m.c := ⟨_, rfl⟩
 rw [← hc1] at h2
 have k1 : M.Core c1 := by rw [hc1]; exact hc
 have p0 := (k1.rng 16).1
 have p1 := (k1.rng 16).2
 obtain ⟨p, hp⟩ : ∃ p, c1.getD 16 0 = p := ⟨_, rfl⟩
 rw [hp] at p0 p1
 have h2' : c1.set 16 ((p + 4) % 4294967296) = c2 := by rw [← h2, ← hp]; rfl
 obtain ⟨m1, hm1e⟩ : ∃ m1 : Mc, m1 = { m with h := true } := ⟨_, rfl⟩
 have l1 : m1.c.length = 29 := by rw [hm1e]; exact hl
 have hl' : m'.c.length = 29 := by rw [hm', ← h2]; exact (k1.adv 4).len
 have hp1 : m1.c.getD 16 0 = p := by rw [hm1e, ← hp, hc1]
 have HX : Hid (({ m1 with c := m1.c.set 16 ((p + 4) % 4294967296) } : Mc) = m') := Lib.hid (by rw [hm', hm1e, ← h2', hc1])
 replace hm1e := Lib.hid hm1e
 clear h2 h2' hm' hp hc1
 clear hx
 have E1 := Lib.hid (hm1e.out).symm
 have E2 := Lib.hid (HX.out)
 have D1 := Lib.hid fun w (d : Dn W w) => C0.out w
 have N1 : wd m1.c 16 = _ := hp1
 have S : Hid (Sw W W []) := Lib.hid (Dn.refl W)
 go_enter Tryz.func35, Tryz.ntmps35
 exact Wr
set_option maxRecDepth 100000 in
set_option maxHeartbeats 2000000 in
theorem rpv25 (m : Mc) (rd ra rb imm : Int) (W : World) (hm : m.Ok W) (x : Int) (hx : M.reg m.c ra = x) (hy : m.ys.length ≤ 100000 - 1) (c2 : List Int) (h2 : M.adv m.c 4 = c2) :
   Calls Tryz.prog 35 #[.agg (mach m), .agg (ins 25 rd ra rb imm)] W fun e W' => PvRet W m ⟨c2, m.ys ++ [x % 256], m.h⟩ e W' := by
 have hl := hm.len
 have hc := hm.core
 have xr : 0 ≤ x ∧ x < 4294967296 := by rw [← hx]; exact M.reg_rng hc _
 have C0 := Lib.hid fun w => (by have h := refGet (m.c.take 16) ra w (take16 hl); rw [M.reg_take m.c hl, hx] at h; exact h : Calls Tryz.prog 49 #[.agg (ints .u32 (m.c.take 16)), .int .i64 ra] w fun e W' => e = .returned (.int .u32 x) ∧ Dn w W')
 have HO := Lib.hid hm.out
 obtain ⟨c1, hc1⟩ : ∃ c1, c1 = m.c := ⟨_, rfl⟩
 rw [← hc1] at h2
 have k1 : M.Core c1 := by rw [hc1]; exact hc
 have k2 : M.Core c2 := by rw [← h2]; exact k1.adv 4
 have p0 := (k1.rng 16).1
 have p1 := (k1.rng 16).2
 obtain ⟨p, hp⟩ : ∃ p, c1.getD 16 0 = p := ⟨_, rfl⟩
 rw [hp] at p0 p1
 have h2' : c1.set 16 ((p + 4) % 4294967296) = c2 := by rw [← h2, ← hp]; rfl
 have HC1 := Lib.hid hc1
 replace hp := Lib.hid hp
 replace h2' := Lib.hid h2'
 clear h2 hc1
 clear hx
 have HD := Lib.hid (Dn.refl W)
 go_enter Tryz.func35, Tryz.ntmps35
 go_wp2_with (first | ((with_reducible refine wpList_box (vs := (mach m)) ?_ ?_ ?_); rfl; rfl; intro b_v2 w' nn; refine Hid.out ?_))
 refine Lib.hid ?_
 have HL_v2 : Hid (W.heap.size ≤ b_v2) := Lib.hid (Blk.hi nn HD.out.size)
 have d' := nn.dn
 replace HD := hT HD d'
 have v2 := nn.blk
 clear d' nn
 go_wp2_with (first | ((with_reducible refine wpList_box (vs := (ins 25 rd ra rb imm)) ?_ ?_ ?_); rfl; rfl; intro b_v3 w' nn; refine Hid.out ?_))
 refine Lib.hid ?_
 have n_v2_v3 := Lib.hid (nn.ne _ v2.lt)
 have d' := nn.dn
 replace v2 := v2.dn d'
 replace HD := hT HD d'
 have v3 := nn.blk
 clear d' nn
 go_wp2_with (first | ((with_reducible refine wpList_alloc zeroMach ?_ ?_); rfl; intro b_v4 w' nn; refine Hid.out ?_))
 refine Lib.hid ?_
 have n_v2_v4 := Lib.hid (nn.ne _ v2.lt)
 have n_v3_v4 := Lib.hid (nn.ne _ v3.lt)
 have HL_v4 : Hid (W.heap.size ≤ b_v4) := Lib.hid (Blk.hi nn HD.out.size)
 have d' := nn.dn
 replace v2 := v2.dn d'
 replace v3 := v3.dn d'
 replace HD := hT HD d'
 have v4 := nn.blk
 clear d' nn
 have ck0 := v3.ira
 go_wp2_with (first | ((with_reducible refine loadRegs v2 hl ?_ ?_ ?_); rfl; rfl) | (go_at_call 49; (with_reducible refine (C0.out _).mono ?_); rintro e w' ⟨rfl, d'⟩; refine Hid.out ?_))
 refine Lib.hid ?_
 clear ck0
 replace v2 := v2.dn d'
 replace v3 := v3.dn d'
 replace v4 := v4.dn d'
 replace HD := hT HD d'
 clear d'
 have ck0 := v3.iop
 have kk := v2.out hl
 have vlt := v2.lt
 have OWN := Lib.hid (own_zero w')
 have D0 : Hid (Dn w' (w'.alloc (Obj.cells #[] 5))) := Lib.hid ((Dn.refl w').alloc _)
 have HB := Lib.hid ((HO.out.dn HD.out).dn D0.out)
 go_wp2_with (at_builtin; (refine wpList_append8 rfl _ _ rfl w'.heap.size (.slice (some ⟨w'.heap.size, 0, none⟩) 0 0) 0 [] rfl OWN.out m.B m.q m.ys rfl HB.out (by omega) D0.out.size ?_); intro r w2 own1 gr1; refine Hid.out ?_)
 refine Lib.hid ?_
 have hown : w2.ownsRow w'.heap.size 5 1 r m.ys.length (m.ys.map (Value.int .u8)) := by simpa using own1
 have d1 : Dn w' w2 := below_keep D0.out gr1 D0.out.size (fun q e => (OWN.out.lt q e).1)
 clear own1 gr1 OWN HB kk vlt ck0
 have OWN2 : Hid ((w2.alloc (.cells #[.int .u8 (x % 256)] 5)).ownsRow w'.heap.size 5 1 r m.ys.length (m.ys.map (Value.int .u8))) := Lib.hid (hown.alloc _)
 have H1 := Lib.hid (byte_bs w2 (x % 256) (by omega) (by omega))
 replace d1 := Lib.hid d1
 clear hown
 go_wp2_with (at_builtin; (refine wpList_append8 rfl _ _ rfl w'.heap.size r m.ys.length _ rfl OWN2.out _ 1 [x % 256] rfl H1.out (by simp; omega) (Nat.le_trans d1.out.size (by simp)) ?_); intro r2 w3 own2 gr2; refine Hid.out ?_)
 refine Lib.hid ?_
 have own3 : w3.ownsRow w'.heap.size 5 1 r2 (m.ys.length + 1) ((m.ys ++ [x % 256]).map (Value.int .u8)) := by simpa using own2
 have d' : Dn w' w3 := below_keep (d1.out.alloc _) gr2 (Nat.le_trans d1.out.size (by simp)) (fun q e => (OWN2.out.lt q e).1)
 obtain ⟨g_, cap, rfl, hg, _⟩ := own_shape own3 (by omega)
 obtain ⟨A', c', e1, hb⟩ := Bs.of_own (n := m.ys.length + 1) (xs := m.ys ++ [x % 256]) (by simp) (M.by_push HO.out.2.1 x) own3
 simp only [Value.slice.injEq] at e1
 obtain ⟨rfl, _, rfl⟩ := e1
 have hlo : W.heap.size ≤ g_ := Nat.le_trans HD.out.size hg
 clear own2 own3 gr2 H1 OWN2 d1 D0 hg
 replace v2 := v2.dn d'
 replace v3 := v3.dn d'
 replace v4 := v4.dn d'
 replace HD := hT HD d'
 clear d'
 have HN := Lib.hid hb
 clear hb
 obtain ⟨m1, hm1⟩ : ∃ m1 : Mc, m1 = { m with B := some ⟨g_, 0, none⟩, q := cap, ys := m.ys ++ [x % 256] } := ⟨_, rfl⟩
 have l1 : m1.c.length = 29 := by rw [hm1]; exact hl
 have hp1 : m1.c.getD 16 0 = p := by rw [hm1, ← HC1.out]; exact hp.out
 have hle : (m.ys ++ [x % 256]).length = m.ys.length + 1 := by simp
 have HX := Lib.hid (by rw [← h2'.out, hm1, HC1.out] : ({ m1 with c := m1.c.set 16 ((p + 4) % 4294967296) } : Mc) = { m with c := c2, B := some ⟨g_, 0, none⟩, q := cap, ys := m.ys ++ [x % 256] })
 obtain ⟨m', hm'⟩ : ∃ m' : Mc, m' = { m with c := c2, B := some ⟨g_, 0, none⟩, q := cap, ys := m.ys ++ [x % 256] } := ⟨_, rfl⟩
 rw [← hm'] at HX
 have hl' : m'.c.length = 29 := by rw [hm']; exact k2.len
 replace hm1 := Lib.hid hm1
 replace hm' := Lib.hid hm'
 go_wp2_with (first | ((with_reducible refine storeOut (B' := some ⟨g_, 0, none⟩) (q' := cap) (n' := m.ys.length + 1) (zs := m.ys ++ [x % 256]) v2 hl hle.symm ?_ ?_ ?_ ?_); rfl; rfl; rfl; intro w' r' t'; refine Hid.out ?_))
 refine Lib.hid ?_
 replace HN := Lib.hid (HN.out.trn v2 (NoU8.mach _) t')
 replace v3 := v3.trn t' n_v2_v3.out.symm
 replace v4 := v4.trn t' n_v2_v4.out.symm
 rw [← hm1.out] at r'
 replace HD := Lib.hid (HD.out.trn HL_v2.out t')
 clear t' v2
 have v2 := r'
 clear r'
 have ck0 := v2.word l1 16 rfl
 rw [hp1] at ck0
 go_wp2_with (first | ((with_reducible refine storeWord (i := 16) (u := (p + 4) % 4294967296) v2 l1 ?_ ?_ ?_ ?_ ?_); rfl; rfl; rfl; rfl; intro w' r' t'; refine Hid.out ?_))
 refine Lib.hid ?_
 clear ck0
 replace HN := Lib.hid (HN.out.trn v2 (NoU8.mach _) t')
 replace v3 := v3.trn t' n_v2_v3.out.symm
 replace v4 := v4.trn t' n_v2_v4.out.symm
 rw [HX.out] at r'
 replace HD := Lib.hid (HD.out.trn HL_v2.out t')
 clear t' v2
 have v2 := r'
 clear r'
 go_wp2_with (first | ((with_reducible refine load33 v2 hl' ?_ ?_ ?_); rfl; rfl) | ((with_reducible refine store33 m' hl' v4 zlen ?_ ?_ ?_ ?_); rfl; rfl; rfl; intro w' r' t'; refine Hid.out ?_))
 refine Lib.hid ?_
 replace HN := Lib.hid (HN.out.trn v4 (NoU8.mach _) t')
 replace v2 := v2.trn t' n_v2_v4.out
 replace v3 := v3.trn t' n_v3_v4.out
 replace HD := Lib.hid (HD.out.trn HL_v4.out t')
 clear t' v4
 have v4 := r'
 clear r'
 go_wp2_with fail
 have o1 := hm.dn HD.out
 exact retM rfl rfl v4 hl' ⟨m', rfl, Lib.hid (by rw [hm'.out]; exact ⟨k2, o1.mem, HN.out, o1.t0, o1.t1⟩), Lib.hid (by rw [hm'.out]; exact ⟨rfl, rfl, rfl, rfl, rfl, rfl, .inr ⟨g_, rfl, hlo⟩⟩), HD.out⟩ rfl
theorem refDo12 (m : Mc) (op rd ra rb imm : Int) (W : World) (hm : m.Ok W) (i0 : -2147483648 ≤ imm) (i1 : imm < 2147483648) (hy : m.ys.length ≤ 100000 - 1) (hop : op = 21 ∨ op = 22 ∨ op = 23 ∨ op = 24 ∨ op = 25) :
   Calls Tryz.prog 35 #[.agg (mach m), .agg (ins op rd ra rb imm)] W fun e W' => PvRet W m (M.px m.c m.ys m.h m.t op rd ra imm) e W' := by
 have hc := hm.core
 rcases hop with rfl | rfl | rfl | rfl | rfl
 · have hv := M.csr_rd_rng hc (t := m.t) (n := imm) hm.t0 hm.t1
   exact (rpv21 m rd ra rb imm W hm _ rfl i0 i1 _ rfl hv.1 hv.2 _ rfl _ rfl _ rfl).mono fun e W' h => PvRet.of hm ((hc.setreg rd hv).adv 4) hm.mem.1 hm.out.1 rfl h
 · exact (rpv22 m rd ra rb imm W hm _ rfl i0 i1 _ rfl _ rfl _ rfl).mono fun e W' h => PvRet.of hm ((hc.csw imm (M.reg m.c ra)).adv 4) hm.mem.1 hm.out.1 rfl h
 · exact (rpv23 m rd ra rb imm W hm _ rfl _ rfl).mono fun e W' h => PvRet.of hm hc.leave hm.mem.1 hm.out.1 rfl h
 · exact (rpv24 m rd ra rb imm W hm _ rfl _ rfl _ rfl).mono fun e W' h => PvRet.of hm (hc.adv 4) hm.mem.1 hm.out.1 rfl h
 · exact rpv25 m rd ra rb imm W hm _ rfl hy _ rfl
end Go.Proofs.YtclpdjpaaagkdaaGreatDoor
