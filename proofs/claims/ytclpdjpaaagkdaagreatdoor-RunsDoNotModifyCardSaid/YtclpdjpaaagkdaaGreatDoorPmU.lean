/-
  Contracts over the translated program and the plain facts behind them, of the texts: PvCalls, PvDo. Conditions: those that stand in each theorem.
-/
import Derived.Test.YtclpdjpaaagkdaaGreatDoorPmT
import Derived.Test.YtclpdjpaaagkdaaGreatDoorPmG
import Derived.Test.YtclpdjpaaagkdaaGreatDoorPmX
namespace Go.Proofs.YtclpdjpaaagkdaaGreatDoor
open Go.ChangeShapes Go.WideShapes Go.ChangeAt Go.RowKit Go.Sort
set_option linter.unusedVariables false

set_option maxRecDepth 100000 in
set_option maxHeartbeats 2000000 in
theorem pvAdvance (m : Mc) (W : World) (hm : m.Ok W) (c1 : List Int) (h1 : M.adv m.c 4 = c1) (m' : Mc) (hm' : m' = { m with c := c1 }) :
   Calls Tryz.prog 105 #[.agg (mach m)] W fun e W' => e = .returned (.agg (mach m')) ∧ Dn W W' := by
 have hl := hm.len
 have hc := hm.core
 have k1 : M.Core c1 := by rw [← h1]; exact hc.adv 4
 have l1 := k1.len
 have hl' : m'.c.length = 29 := by rw [hm']; exact l1
 have C1 := Lib.hid fun w => xAdv m.c 4 c1 w hc (by decide) (by decide) h1
 replace hm' := Lib.hid hm'
 clear h1
 have E1 := Lib.hid (hm'.out).symm
 have D1 := Lib.hid fun w (d : Dn W w) => C1.out w
 have S : Hid (Sw W W []) := Lib.hid (Dn.refl W)
 go_enter Tryz.func105, Tryz.ntmps105
 exact Wr
set_option maxRecDepth 100000 in
set_option maxHeartbeats 2000000 in
theorem pvHalt (m : Mc) (W : World) (hm : m.Ok W) (m' : Mc) (hm' : m' = { m with h := true }) :
   Calls Tryz.prog 109 #[.agg (mach m)] W fun e W' => e = .returned (.agg (mach m')) ∧ Dn W W' := by
 have hl := hm.len
 have hl' : m'.c.length = 29 := by rw [hm']; exact hl
 replace hm' := Lib.hid hm'
 have E1 := Lib.hid (hm'.out).symm
 have S : Hid (Sw W W []) := Lib.hid (Dn.refl W)
 go_enter Tryz.func109, Tryz.ntmps109
 exact Wr
set_option maxRecDepth 100000 in
set_option maxHeartbeats 2000000 in
theorem pvReturn (m : Mc) (W : World) (hm : m.Ok W) (m' : Mc) (hm' : m' = { m with c := M.leave m.c }) :
   Calls Tryz.prog 110 #[.agg (mach m)] W fun e W' => e = .returned (.agg (mach m')) ∧ Dn W W' := by
 have hl := hm.len
 have hc := hm.core
 have k1 : M.Core (M.leave m.c) := hc.leave
 have C1 := Lib.hid fun w => trapReturn m.c w hc
 obtain ⟨c1, h1⟩ : ∃ c1, M.leave m.c = c1 := ⟨_, rfl⟩
 rw [h1] at C1 k1 hm'
 have l1 := k1.len
 have hl' : m'.c.length = 29 := by rw [hm']; exact l1
 replace hm' := Lib.hid hm'
 clear h1
 have E1 := Lib.hid (hm'.out).symm
 have D1 := Lib.hid fun w (d : Dn W w) => C1.out w
 have S : Hid (Sw W W []) := Lib.hid (Dn.refl W)
 go_enter Tryz.func110, Tryz.ntmps110
 exact Wr
set_option maxRecDepth 100000 in
set_option maxHeartbeats 2000000 in
theorem pvReadCsr (m : Mc) (op rd ra rb imm : Int) (W : World) (hm : m.Ok W) (i0 : -2147483648 ≤ imm) (i1 : imm < 2147483648) (v : Int) (hv : Cs.M.rd (m.c.drop 17) m.t imm = v) (v0 : 0 ≤ v) (v1 : v < 4294967296) (c1 : List Int) (h1 : M.setreg m.c rd v = c1) (m' : Mc) (hm' : m' = { m with c := c1 }) :
   Calls Tryz.prog 106 #[.agg (mach m), .agg (ins op rd ra rb imm)] W fun e W' => e = .returned (.agg (mach m')) ∧ Dn W W' := by
 have hl := hm.len
 have hc := hm.core
 have t0 := hm.t0
 have t1 := hm.t1
 have k1 : M.Core c1 := by rw [← h1]; exact hc.setreg rd ⟨v0, v1⟩
 have l1 := k1.len
 have hl' : m'.c.length = 29 := by rw [hm']; exact l1
 have C1 := Lib.hid fun w => (by have h := Cs.read (m.c.drop 17) m.t imm w (drop17 hl) t0 t1; rw [hv] at h; exact h : Calls Tryz.prog 135 #[.agg (ints .u32 (m.c.drop 17)), .int .u64 m.t, .int .i64 imm] w fun e W' => e = .returned (.int .u32 v) ∧ Dn w W')
 have he : (M.setreg (m.c.take 16) rd v).length = 16 := by rw [M.setreg_len, List.length_take, hl]; rfl
 have HE : Hid (M.setreg (m.c.take 16) rd v ++ m.c.drop 16 = c1) := Lib.hid (by rw [M.setreg_take m.c hl]; exact h1)
 have C2 := Lib.hid fun w => regSet (m.c.take 16) rd v w (take16 hl)
 generalize M.setreg (m.c.take 16) rd v = e at he HE C2
 replace hm' := Lib.hid hm'
 clear h1 hv
 have E1 := Lib.hid (HE.out)
 have E2 := Lib.hid (hm'.out).symm
 have D1 := Lib.hid fun w (d : Dn W w) => C1.out w
 have D2 := Lib.hid fun w (d : Dn W w) => C2.out w
 have S : Hid (Sw W W []) := Lib.hid (Dn.refl W)
 go_enter Tryz.func106, Tryz.ntmps106
 exact Wr
set_option maxRecDepth 100000 in
set_option maxHeartbeats 2000000 in
theorem pvWriteCsr (m : Mc) (op rd ra rb imm : Int) (W : World) (hm : m.Ok W) (T : Cs.CsrTabs W) (i0 : -2147483648 ≤ imm) (i1 : imm < 2147483648) (x : Int) (hx : M.reg m.c ra = x) (c1 : List Int) (h1 : M.csw m.c imm x = c1) (m' : Mc) (hm' : m' = { m with c := c1 }) :
   Calls Tryz.prog 107 #[.agg (mach m), .agg (ins op rd ra rb imm)] W fun e W' => e = .returned (.agg (mach m')) ∧ Dn W W' := by
 have hl := hm.len
 have hc := hm.core
 have xr : 0 ≤ x ∧ x < 4294967296 := by rw [← hx]; exact M.reg_rng hc _
 have k1 : M.Core c1 := by rw [← h1]; exact hc.csw imm x
 have l1 := k1.len
 have hl' : m'.c.length = 29 := by rw [hm']; exact l1
 have C1 := Lib.hid fun w => (by have h := regGet (m.c.take 16) ra w (take16 hl); rw [M.reg_take m.c hl, hx] at h; exact h : Calls Tryz.prog 113 #[.agg (ints .u32 (m.c.take 16)), .int .i64 ra] w fun e W' => e = .returned (.int .u32 x) ∧ Dn w W')
 have he : (Cs.M.wr (m.c.drop 17) imm x).length = 12 := (Cs.M.wr_ok (M.csr_ok hc) imm x).len
 have HE : Hid (m.c.take 17 ++ Cs.M.wr (m.c.drop 17) imm x = c1) := Lib.hid h1
 have C2 := Lib.hid fun w => fun (t : Cs.CsrTabs w) => Cs.write (m.c.drop 17) imm x w t (M.csr_ok hc) xr.1 xr.2
 generalize Cs.M.wr (m.c.drop 17) imm x = e at he HE C2
 replace hm' := Lib.hid hm'
 clear h1 hx
 have E1 := Lib.hid (HE.out)
 have E2 := Lib.hid (hm'.out).symm
 have D1 := Lib.hid fun w (d : Dn W w) => C1.out w
 have D2 := Lib.hid fun w (d : Dn W w) => C2.out w (T.dn d)
 have S : Hid (Sw W W []) := Lib.hid (Dn.refl W)
 go_enter Tryz.func107, Tryz.ntmps107
 exact Wr
set_option maxRecDepth 100000 in
set_option maxHeartbeats 2000000 in
theorem pvClosed (m : Mc) (W : World) (hm : m.Ok W) (m' : Mc) (hm' : m' = { m with k := m.xs.length, q := m.ys.length }) :
   Calls Tryz.prog 88 #[.agg (mach m)] W fun e W' => e = .returned (.agg (mach m')) ∧ Dn W W' := by
 have hl := hm.len
 obtain ⟨m1, hm1⟩ : ∃ m1 : Mc, m1 = { m with k := m.xs.length } := ⟨_, rfl⟩
 have l1 : m1.c.length = 29 := by rw [hm1]; exact hl
 have hl' : m'.c.length = 29 := by rw [hm']; exact hl
 have HX : Hid (({ m1 with q := m.ys.length } : Mc) = m') := Lib.hid (by rw [hm', hm1])
 have ny : m1.ys = m.ys := by rw [hm1]
 have nB : m1.B = m.B := by rw [hm1]
 have nq : m1.q = m.q := by rw [hm1]
 have Hxs := Lib.hid hm.mem.1
 have Hys := Lib.hid hm.out.1
 replace hm1 := Lib.hid hm1
 clear hm'
 have HD := Lib.hid (Dn.refl W)
 go_enter Tryz.func88, Tryz.ntmps88
 go_wp2_with (first | ((with_reducible refine wpList_box (vs := (mach m)) ?_ ?_ ?_); rfl; rfl; intro b_v1 w' nn; refine Hid.out ?_))
 refine Lib.hid ?_
 have HL_v1 : Hid (W.heap.size ≤ b_v1) := Lib.hid (Blk.hi nn HD.out.size)
 have d' := nn.dn
 replace HD := hT HD d'
 have v1 := nn.blk
 clear d' nn
 go_wp2_with (first | ((with_reducible refine wpList_alloc zeroMach ?_ ?_); rfl; intro b_v2 w' nn; refine Hid.out ?_))
 refine Lib.hid ?_
 have n_v1_v2 := Lib.hid (nn.ne _ v1.lt)
 have HL_v2 : Hid (W.heap.size ≤ b_v2) := Lib.hid (Blk.hi nn HD.out.size)
 have d' := nn.dn
 replace v1 := v1.dn d'
 replace HD := hT HD d'
 have v2 := nn.blk
 clear d' nn
 have kk := v1.mem hl
 go_wp2_with (first | ((with_reducible refine wpList_cut3 (l := m.xs.length) Hxs.out ?_ ?_ ?_ ?_ ?_); rfl; rfl; rfl; rfl) | ((with_reducible refine storeMem (A' := m.A) (k' := m.xs.length) (n' := m.xs.length) (zs := m.xs) v1 hl rfl ?_ ?_ ?_ ?_); rfl; rfl; rfl; intro w' r' t'; refine Hid.out ?_))
 refine Lib.hid ?_
 replace v2 := v2.trn t' n_v1_v2.out.symm
 replace r' : Blk w' b_v1 30 (mach m1) := by rw [hm1.out]; exact r'
 replace HD := Lib.hid (HD.out.trn HL_v1.out t')
 clear t' v1
 have v1 := r'
 clear r'
 clear kk
 have kk := v1.out l1
 rw [ny, nB, nq] at kk
 go_wp2_with (first | ((with_reducible refine wpList_cut3 (l := m.ys.length) Hys.out ?_ ?_ ?_ ?_ ?_); rfl; rfl; rfl; rfl) | ((with_reducible refine storeOut (B' := m.B) (q' := m.ys.length) (n' := m.ys.length) (zs := m.ys) v1 l1 rfl ?_ ?_ ?_ ?_); rfl; rfl; rfl; intro w' r' t'; refine Hid.out ?_))
 refine Lib.hid ?_
 replace v2 := v2.trn t' n_v1_v2.out.symm
 replace r' : Blk w' b_v1 30 (mach m') := by rw [← HX.out, show ({ m1 with q := m.ys.length } : Mc) = { m1 with B := m.B, q := m.ys.length, ys := m.ys } by rw [← nB, ← ny]]; exact r'
 replace HD := Lib.hid (HD.out.trn HL_v1.out t')
 clear t' v1
 have v1 := r'
 clear r'
 clear kk
 go_wp2_with (first | ((with_reducible refine load33 v1 hl' ?_ ?_ ?_); rfl; rfl) | ((with_reducible refine store33 m' hl' v2 zlen ?_ ?_ ?_ ?_); rfl; rfl; rfl; intro w' r' t'; refine Hid.out ?_))
 refine Lib.hid ?_
 replace v1 := v1.trn t' n_v1_v2.out
 replace HD := Lib.hid (HD.out.trn HL_v2.out t')
 clear t' v2
 have v2 := r'
 clear r'
 go_wp2_with fail
 exact retM rfl rfl v2 hl' ⟨rfl, HD.out⟩ rfl
set_option maxRecDepth 100000 in
set_option maxHeartbeats 2000000 in
theorem pvOutput (m : Mc) (op rd ra rb imm : Int) (W : World) (hm : m.Ok W) (hy : m.ys.length ≤ 100000) (x : Int) (hx : M.reg m.c ra = x) :
   Calls Tryz.prog 108 #[.agg (mach m), .agg (ins op rd ra rb imm)] W fun e W' => ∃ g cap m', e = .returned (.agg (mach m')) ∧ Hid (m' = { m with B := some ⟨g, 0, none⟩, q := cap, ys := m.ys ++ [x % 256] }) ∧ Hid (Bs W' (some ⟨g, 0, none⟩) cap (m.ys ++ [x % 256])) ∧ W.heap.size ≤ g ∧ Dn W W' := by
 have hl := hm.len
 have hc := hm.core
 have xr : 0 ≤ x ∧ x < 4294967296 := by rw [← hx]; exact M.reg_rng hc _
 have C1 := Lib.hid fun w => (by have h := regGet (m.c.take 16) ra w (take16 hl); rw [M.reg_take m.c hl, hx] at h; exact h : Calls Tryz.prog 113 #[.agg (ints .u32 (m.c.take 16)), .int .i64 ra] w fun e W' => e = .returned (.int .u32 x) ∧ Dn w W')
 have Hys := Lib.hid hm.out.1
 have HO := Lib.hid hm.out
 have hwb : IntKind.u8.wrap x = x % 256 := rfl
 clear hx
 have HD := Lib.hid (Dn.refl W)
 go_enter Tryz.func108, Tryz.ntmps108
 go_wp2_with (first | ((with_reducible refine wpList_box (vs := (mach m)) ?_ ?_ ?_); rfl; rfl; intro b_v2 w' nn; refine Hid.out ?_))
 refine Lib.hid ?_
 have HL_v2 : Hid (W.heap.size ≤ b_v2) := Lib.hid (Blk.hi nn HD.out.size)
 have d' := nn.dn
 replace HD := hT HD d'
 have v2 := nn.blk
 clear d' nn
 go_wp2_with (first | ((with_reducible refine wpList_box (vs := (ins op rd ra rb imm)) ?_ ?_ ?_); rfl; rfl; intro b_v3 w' nn; refine Hid.out ?_))
 refine Lib.hid ?_
 have n_v2_v3 := Lib.hid (nn.ne _ v2.lt)
 have d' := nn.dn
 replace v2 := v2.dn d'
 replace HD := hT HD d'
 have v3 := nn.blk
 clear d' nn
 go_wp2_with (first | ((with_reducible refine wpList_alloc zeroMach ?_ ?_); rfl; intro b_v4 w' nn; refine Hid.out ?_))
 refine Lib.hid ?_
 have n_v2_v4 := Lib.hid (nn.ne _ v2.lt)
 have n_v3_v4 := Lib.hid (nn.ne _ v3.lt)
 have HL_v4 : Hid (W.heap.size ≤ b_v4) := Lib.hid (Blk.hi nn HD.out.size)
 have d' := nn.dn
 replace v2 := v2.dn d'
 replace v3 := v3.dn d'
 replace HD := hT HD d'
 have v4 := nn.blk
 clear d' nn
 have ck0 := v3.ira
 go_wp2_with (first | ((with_reducible refine loadRegs v2 hl ?_ ?_ ?_); rfl; rfl) | (go_at_call 113; (with_reducible refine (C1.out _).mono ?_); rintro e w' ⟨rfl, d'⟩; refine Hid.out ?_))
 refine Lib.hid ?_
 clear ck0
 replace v2 := v2.dn d'
 replace v3 := v3.dn d'
 replace v4 := v4.dn d'
 replace HD := hT HD d'
 clear d'
 have kk := v2.out hl
 have HB := Lib.hid ((HO.out.dn HD.out).dn ((Dn.refl w').alloc (.cells #[.int .u8 (x % 256)] 5)))
 have H1 := Lib.hid (byte_bs w' (x % 256) (by omega) (by omega))
 go_wp2_with (first | ((with_reducible refine wpList_cut3 (l := m.ys.length) Hys.out ?_ ?_ ?_ ?_ ?_); rfl; rfl; rfl; rfl) | (at_builtin; (with_reducible refine wpList_app_new HB.out H1.out hy ?_ ?_ ?_); rfl; rfl; intro g_ cap w2 hb hd hg; refine Hid.out ?_))
 refine Lib.hid ?_
 have d' : Dn w' w2 := ((Dn.refl w').alloc _).trans hd
 have hlo : W.heap.size ≤ g_ := Nat.le_trans (Nat.le_trans HD.out.size (by simp)) hg
 clear HB H1 hg hd kk
 replace v2 := v2.dn d'
 replace v3 := v3.dn d'
 replace v4 := v4.dn d'
 replace HD := hT HD d'
 clear d'
 have HN := Lib.hid hb
 clear hb
 obtain ⟨m1, hm1⟩ : ∃ m1 : Mc, m1 = { m with B := some ⟨g_, 0, none⟩, q := cap, ys := m.ys ++ [x % 256] } := ⟨_, rfl⟩
 have l1 : m1.c.length = 29 := by rw [hm1]; exact hl
 have hle : (m.ys ++ [x % 256]).length = m.ys.length + 1 := by simp
 replace hm1 := Lib.hid hm1
 go_wp2_with (first | ((with_reducible refine storeOut (B' := some ⟨g_, 0, none⟩) (q' := cap) (n' := m.ys.length + 1) (zs := m.ys ++ [x % 256]) v2 hl hle.symm ?_ ?_ ?_ ?_); rfl; rfl; rfl; intro w' r' t'; refine Hid.out ?_))
 refine Lib.hid ?_
 replace HN := Lib.hid (HN.out.trn v2 (NoU8.mach _) t')
 replace v3 := v3.trn t' n_v2_v3.out.symm
 replace v4 := v4.trn t' n_v2_v4.out.symm
 rw [← hm1.out] at r'
 replace HD := Lib.hid (HD.out.trn HL_v2.out t')
 clear t' v2
 have v2 := r'
 clear r'
 go_wp2_with (first | ((with_reducible refine load33 v2 l1 ?_ ?_ ?_); rfl; rfl) | ((with_reducible refine store33 m1 l1 v4 zlen ?_ ?_ ?_ ?_); rfl; rfl; rfl; intro w' r' t'; refine Hid.out ?_))
 refine Lib.hid ?_
 replace HN := Lib.hid (HN.out.trn v4 (NoU8.mach _) t')
 replace v2 := v2.trn t' n_v2_v4.out
 replace v3 := v3.trn t' n_v3_v4.out
 replace HD := Lib.hid (HD.out.trn HL_v4.out t')
 clear t' v4
 have v4 := r'
 clear r'
 go_wp2_with fail
 exact retM rfl rfl v4 l1 ⟨g_, cap, m1, rfl, hm1, HN, hlo, HD.out⟩ rfl

structure Pd (m : Mc) (r : M.PRes) (n : Nat) (m1 : Mc) : Prop where
 c : m1.c = r.c
 xs : m1.xs = m.xs
 t : m1.t = m.t
 ys : m1.ys = r.ys
 h : m1.h = r.h
 A : m1.A = m.A
 B : m1.B = m.B ∨ ∃ g, m1.B = some ⟨g, 0, none⟩ ∧ n ≤ g
def PvRet (W : World) (m : Mc) (r : M.PRes) (e : Ending) (W' : World) : Prop :=
 ∃ m1, e = .returned (.agg (mach m1)) ∧ Hid (m1.Ok W') ∧ Hid (Pd m r W.heap.size m1) ∧ Dn W W'
theorem PvRet.of {W W' : World} {m m' : Mc} {c : List Int} {h : Bool} {k q : Nat} {e : Ending} (hm : m.Ok W) (hc : M.Core c) (hk : m.xs.length ≤ k) (hq : m.ys.length ≤ q) (hm' : m' = { m with c := c, k := k, q := q, h := h }) (he : e = .returned (.agg (mach m')) ∧ Dn W W') : PvRet W m ⟨c, m.ys, h⟩ e W' := by
 subst hm'
 exact ⟨_, he.1, Lib.hid ⟨hc, ⟨hk, (hm.mem.dn he.2).2⟩, ⟨hq, (hm.out.dn he.2).2⟩, hm.t0, hm.t1⟩, Lib.hid ⟨rfl, rfl, rfl, rfl, rfl, rfl, .inl rfl⟩, he.2⟩
theorem Mc.Ok.withC {w : World} {m : Mc} {c : List Int} (h : m.Ok w) (hc : M.Core c) : Mc.Ok w { m with c := c } := ⟨hc, h.mem, h.out, h.t0, h.t1⟩
theorem Mc.Ok.withH {w : World} {m : Mc} {b : Bool} (h : m.Ok w) : Mc.Ok w { m with h := b } := ⟨h.core, h.mem, h.out, h.t0, h.t1⟩
set_option maxRecDepth 100000 in
set_option maxHeartbeats 2000000 in
theorem pvp21 (m : Mc) (rd ra rb imm : Int) (W : World) (hm : m.Ok W) (i0 : -2147483648 ≤ imm) (i1 : imm < 2147483648) (v : Int) (hv : Cs.M.rd (m.c.drop 17) m.t imm = v) (v0 : 0 ≤ v) (v1 : v < 4294967296) (c1 : List Int) (h1 : M.setreg m.c rd v = c1) (c2 : List Int) (h2 : M.adv c1 4 = c2) (m' : Mc) (hm' : m' = { m with c := c2 }) :
   Calls Tryz.prog 89 #[.agg (mach m), .agg (ins 21 rd ra rb imm)] W fun e W' => e = .returned (.agg (mach m')) ∧ Dn W W' := by
 have hl := hm.len
 have hc := hm.core
 have k1 : M.Core c1 := by rw [← h1]; exact hc.setreg rd ⟨v0, v1⟩
 have k2 : M.Core c2 := by rw [← h2]; exact k1.adv 4
 obtain ⟨m1, hm1e⟩ : ∃ m1 : Mc, m1 = { m with c := c1 } := ⟨_, rfl⟩
 have hm1 : m1.Ok W := by rw [hm1e]; exact hm.withC k1
 have l1 : m1.c.length = 29 := hm1.len
 have hl' : m'.c.length = 29 := by rw [hm']; exact k2.len
 have C2 := Lib.hid fun w => fun (ow : m1.Ok w) => pvAdvance m1 w ow c2 (by rw [hm1e]; exact h2) m' (by rw [hm', hm1e])
 have C1 := Lib.hid fun w => fun (ow : m.Ok w) => pvReadCsr m 21 rd ra rb imm w ow i0 i1 v hv v0 v1 c1 h1 m1 hm1e
 clear hv h1 h2 hm' hm1e
 have D1 := Lib.hid fun w (d : Dn W w) => C1.out w (hm.dn d)
 have D2 := Lib.hid fun w (d : Dn W w) => C2.out w (hm1.dn d)
 have S : Hid (Sw W W []) := Lib.hid (Dn.refl W)
 go_enter Tryz.func89, Tryz.ntmps89
 exact Wr
set_option maxRecDepth 100000 in
set_option maxHeartbeats 2000000 in
theorem pvp22 (m : Mc) (rd ra rb imm : Int) (W : World) (hm : m.Ok W) (T : Cs.CsrTabs W) (i0 : -2147483648 ≤ imm) (i1 : imm < 2147483648) (x : Int) (hx : M.reg m.c ra = x) (c1 : List Int) (h1 : M.csw m.c imm x = c1) (c2 : List Int) (h2 : M.adv c1 4 = c2) (m' : Mc) (hm' : m' = { m with c := c2 }) :
   Calls Tryz.prog 89 #[.agg (mach m), .agg (ins 22 rd ra rb imm)] W fun e W' => e = .returned (.agg (mach m')) ∧ Dn W W' := by
 have hl := hm.len
 have hc := hm.core
 have k1 : M.Core c1 := by rw [← h1]; exact hc.csw imm x
 have k2 : M.Core c2 := by rw [← h2]; exact k1.adv 4
 obtain ⟨m1, hm1e⟩ : ∃ m1 : Mc, m1 = { m with c := c1 } := ⟨_, rfl⟩
 have hm1 : m1.Ok W := by rw [hm1e]; exact hm.withC k1
 have l1 : m1.c.length = 29 := hm1.len
 have hl' : m'.c.length = 29 := by rw [hm']; exact k2.len
 have C2 := Lib.hid fun w => fun (ow : m1.Ok w) => pvAdvance m1 w ow c2 (by rw [hm1e]; exact h2) m' (by rw [hm', hm1e])
 have C1 := Lib.hid fun w => fun (ow : m.Ok w) (t : Cs.CsrTabs w) => pvWriteCsr m 22 rd ra rb imm w ow t i0 i1 x hx c1 h1 m1 hm1e
 clear hx h1 h2 hm' hm1e
 have D1 := Lib.hid fun w (d : Dn W w) => C1.out w (hm.dn d) (T.dn d)
 have D2 := Lib.hid fun w (d : Dn W w) => C2.out w (hm1.dn d)
 have S : Hid (Sw W W []) := Lib.hid (Dn.refl W)
 go_enter Tryz.func89, Tryz.ntmps89
 exact Wr
set_option maxRecDepth 100000 in
set_option maxHeartbeats 2000000 in
theorem pvp23 (m : Mc) (rd ra rb imm : Int) (W : World) (hm : m.Ok W) (m' : Mc) (hm' : m' = { m with c := M.leave m.c }) :
   Calls Tryz.prog 89 #[.agg (mach m), .agg (ins 23 rd ra rb imm)] W fun e W' => e = .returned (.agg (mach m')) ∧ Dn W W' := by
 have hl := hm.len
 have hc := hm.core
 have hl' : m'.c.length = 29 := by rw [hm']; exact hc.leave.len
 have C1 := Lib.hid fun w => fun (ow : m.Ok w) => pvReturn m w ow m' hm'
 clear hm'
 have D1 := Lib.hid fun w (d : Dn W w) => C1.out w (hm.dn d)
 have S : Hid (Sw W W []) := Lib.hid (Dn.refl W)
 go_enter Tryz.func89, Tryz.ntmps89
 exact Wr
set_option maxRecDepth 100000 in
set_option maxHeartbeats 2000000 in
theorem pvp24 (m : Mc) (rd ra rb imm : Int) (W : World) (hm : m.Ok W) (c2 : List Int) (h2 : M.adv m.c 4 = c2) (m' : Mc) (hm' : m' = { m with c := c2, h := true }) :
   Calls Tryz.prog 89 #[.agg (mach m), .agg (ins 24 rd ra rb imm)] W fun e W' => e = .returned (.agg (mach m')) ∧ Dn W W' := by
 have hl := hm.len
 have hc := hm.core
 have k2 : M.Core c2 := by rw [← h2]; exact hc.adv 4
 obtain ⟨m1, hm1e⟩ : ∃ m1 : Mc, m1 = { m with h := true } := ⟨_, rfl⟩
 have hm1 : m1.Ok W := by rw [hm1e]; exact hm.withH
 have l1 : m1.c.length = 29 := hm1.len
 have hl' : m'.c.length = 29 := by rw [hm']; exact k2.len
 have C2 := Lib.hid fun w => fun (ow : m1.Ok w) => pvAdvance m1 w ow c2 (by rw [hm1e]; exact h2) m' (by rw [hm', hm1e])
 have C1 := Lib.hid fun w => fun (ow : m.Ok w) => pvHalt m w ow m1 hm1e
 clear h2 hm' hm1e
 have D1 := Lib.hid fun w (d : Dn W w) => C1.out w (hm.dn d)
 have D2 := Lib.hid fun w (d : Dn W w) => C2.out w (hm1.dn d)
 have S : Hid (Sw W W []) := Lib.hid (Dn.refl W)
 go_enter Tryz.func89, Tryz.ntmps89
 exact Wr
set_option maxRecDepth 100000 in
set_option maxHeartbeats 2000000 in
theorem pvp25 (m : Mc) (rd ra rb imm : Int) (W : World) (hm : m.Ok W) (hy : m.ys.length ≤ 100000) (x : Int) (hx : M.reg m.c ra = x) (c2 : List Int) (h2 : M.adv m.c 4 = c2) :
   Calls Tryz.prog 89 #[.agg (mach m), .agg (ins 25 rd ra rb imm)] W fun e W' => ∃ g cap m', e = .returned (.agg (mach m')) ∧ Hid (m' = { m with c := c2, B := some ⟨g, 0, none⟩, q := cap, ys := m.ys ++ [x % 256] }) ∧ Hid (Bs W' (some ⟨g, 0, none⟩) cap (m.ys ++ [x % 256])) ∧ W.heap.size ≤ g ∧ Dn W W' := by
 have hl := hm.len
 have hc := hm.core
 have k2 : M.Core c2 := by rw [← h2]; exact hc.adv 4
 have C1 := Lib.hid fun w => fun (ow : m.Ok w) => pvOutput m 25 rd ra rb imm w ow hy x hx
 have C2 := Lib.hid fun (w : World) (ow : m.Ok w) (g cap : Nat) (m1 : Mc) (h1 : m1 = { m with B := some ⟨g, 0, none⟩, q := cap, ys := m.ys ++ [x % 256] }) (hB : Bs w (some ⟨g, 0, none⟩) cap (m.ys ++ [x % 256])) => (pvAdvance m1 w (by rw [h1]; exact ⟨hc, ow.mem, hB, ow.t0, ow.t1⟩) c2 (by rw [h1]; exact h2) _ rfl).mono fun e W' h => (⟨_, h.1, Lib.hid rfl, h.2⟩ : ∃ m2, e = .returned (.agg (mach m2)) ∧ Hid (m2 = { m1 with c := c2 }) ∧ Dn w W')
 clear hx h2
 have HD := Lib.hid (Dn.refl W)
 go_enter Tryz.func89, Tryz.ntmps89
 go_wp2_with (first | ((with_reducible refine wpList_box (vs := (mach m)) ?_ ?_ ?_); rfl; rfl; intro b_v2 w' nn; refine Hid.out ?_))
 refine Lib.hid ?_
 have d' := nn.dn
 replace HD := hT HD d'
 have v2 := nn.blk
 clear d' nn
 go_wp2_with (first | ((with_reducible refine wpList_box (vs := (ins 25 rd ra rb imm)) ?_ ?_ ?_); rfl; rfl; intro b_v3 w' nn; refine Hid.out ?_))
 refine Lib.hid ?_
 have d' := nn.dn
 replace v2 := v2.dn d'
 replace HD := hT HD d'
 have v3 := nn.blk
 clear d' nn
 go_wp2_with (first | ((with_reducible refine wpList_alloc zeroMach ?_ ?_); rfl; intro b_v4 w' nn; refine Hid.out ?_))
 refine Lib.hid ?_
 have n_v2_v4 := Lib.hid (nn.ne _ v2.lt)
 have n_v3_v4 := Lib.hid (nn.ne _ v3.lt)
 have HL_v4 : Hid (W.heap.size ≤ b_v4) := Lib.hid (Blk.hi nn HD.out.size)
 have d' := nn.dn
 replace v2 := v2.dn d'
 replace v3 := v3.dn d'
 replace HD := hT HD d'
 have v4 := nn.blk
 clear d' nn
 have HD0 := HD
 have ck0 := v3.iop
 go_wp2_with (first | ((with_reducible refine load33 v2 hl ?_ ?_ ?_); rfl; rfl) | ((with_reducible refine loadI v3 ?_ ?_ ?_); rfl; rfl) | (go_at_call 108; (with_reducible refine (C1.out _ (hm.dn HD.out)).mono ?_); rintro e w' ⟨g_, cap, m1, rfl, hm1, hN, hlo, d'⟩; refine Hid.out ?_))
 refine Lib.hid ?_
 clear ck0
 replace v2 := v2.dn d'
 replace v3 := v3.dn d'
 replace v4 := v4.dn d'
 replace HD := hT HD d'
 clear d'
 have l1 : m1.c.length = 29 := by rw [hm1.out]; exact hl
 replace hlo := Nat.le_trans HD0.out.size hlo
 have HN := Lib.hid hN.out
 go_wp2_with (first | (go_at_call 105; (with_reducible refine (C2.out _ (hm.dn HD.out) g_ cap m1 hm1.out HN.out).mono ?_); rintro e w' ⟨m2, rfl, hm2, d'⟩; refine Hid.out ?_))
 refine Lib.hid ?_
 replace v2 := v2.dn d'
 replace v3 := v3.dn d'
 replace v4 := v4.dn d'
 replace HN := Lib.hid (HN.out.dn d')
 replace HD := hT HD d'
 clear d'
 have l2 : m2.c.length = 29 := by rw [hm2.out]; exact k2.len
 go_wp2_with (first | ((with_reducible refine store33 m2 l2 v4 zlen ?_ ?_ ?_ ?_); rfl; rfl; rfl; intro w' r' t'; refine Hid.out ?_))
 refine Lib.hid ?_
 replace HN := Lib.hid (HN.out.trn v4 (NoU8.mach _) t')
 replace v2 := v2.trn t' n_v2_v4.out
 replace v3 := v3.trn t' n_v3_v4.out
 replace HD := Lib.hid (HD.out.trn HL_v4.out t')
 clear t' v4
 have v4 := r'
 clear r'
 go_wp2_with fail
 exact retM rfl rfl v4 l2 ⟨g_, cap, m2, rfl, Lib.hid (by rw [hm2.out, hm1.out]), HN, hlo, HD.out⟩ rfl
set_option maxRecDepth 100000 in
set_option maxHeartbeats 2000000 in
theorem pvExBy (m : Mc) (op rd ra rb imm : Int) (W : World) (hm : m.Ok W) (T : Cs.CsrTabs W) (m1 : Mc) (o1 : m1.Ok W) (HC : ∀ w, m.Ok w → Cs.CsrTabs w → Calls Tryz.prog 89 #[.agg (mach m), .agg (ins op rd ra rb imm)] w fun e W' => e = .returned (.agg (mach m1)) ∧ Dn w W') (m' : Mc) (hm' : m' = { m1 with k := m1.xs.length, q := m1.ys.length }) :
   Calls Tryz.prog 68 #[.agg (mach m), .agg (ins op rd ra rb imm)] W fun e W' => e = .returned (.agg (mach m')) ∧ Dn W W' := by
 have hl := hm.len
 have l1 := o1.len
 have hl' : m'.c.length = 29 := by rw [hm']; exact l1
 have C1 := Lib.hid HC
 have C2 := Lib.hid fun w => fun (ow : m1.Ok w) => pvClosed m1 w ow m' hm'
 clear HC hm'
 have D1 := Lib.hid fun w (d : Dn W w) => C1.out w (hm.dn d) (T.dn d)
 have D2 := Lib.hid fun w (d : Dn W w) => C2.out w (o1.dn d)
 have S : Hid (Sw W W []) := Lib.hid (Dn.refl W)
 go_enter Tryz.func68, Tryz.ntmps68
 exact Wr
set_option maxRecDepth 100000 in
set_option maxHeartbeats 2000000 in
theorem pvEx25 (m : Mc) (rd ra rb imm : Int) (W : World) (hm : m.Ok W) (hy : m.ys.length ≤ 100000) (x : Int) (hx : M.reg m.c ra = x) (c2 : List Int) (h2 : M.adv m.c 4 = c2) :
   Calls Tryz.prog 68 #[.agg (mach m), .agg (ins 25 rd ra rb imm)] W fun e W' => PvRet W m ⟨c2, m.ys ++ [x % 256], m.h⟩ e W' := by
 have hl := hm.len
 have hc := hm.core
 have k2 : M.Core c2 := by rw [← h2]; exact hc.adv 4
 have C1 := Lib.hid fun w => fun (ow : m.Ok w) => pvp25 m rd ra rb imm w ow hy x hx c2 h2
 have C2 := Lib.hid fun (w : World) (ow : m.Ok w) (g cap : Nat) (m1 : Mc) (h1 : m1 = { m with c := c2, B := some ⟨g, 0, none⟩, q := cap, ys := m.ys ++ [x % 256] }) (hB : Bs w (some ⟨g, 0, none⟩) cap (m.ys ++ [x % 256])) => (pvClosed m1 w (by rw [h1]; exact ⟨k2, ow.mem, hB, ow.t0, ow.t1⟩) _ rfl).mono fun e W' h => (⟨_, h.1, Lib.hid rfl, h.2⟩ : ∃ m2, e = .returned (.agg (mach m2)) ∧ Hid (m2 = { m1 with k := m1.xs.length, q := m1.ys.length }) ∧ Dn w W')
 clear hx h2
 have HD := Lib.hid (Dn.refl W)
 go_enter Tryz.func68, Tryz.ntmps68
 go_wp2_with (first | ((with_reducible refine wpList_box (vs := (mach m)) ?_ ?_ ?_); rfl; rfl; intro b_v2 w' nn; refine Hid.out ?_))
 refine Lib.hid ?_
 have d' := nn.dn
 replace HD := hT HD d'
 have v2 := nn.blk
 clear d' nn
 go_wp2_with (first | ((with_reducible refine wpList_box (vs := (ins 25 rd ra rb imm)) ?_ ?_ ?_); rfl; rfl; intro b_v3 w' nn; refine Hid.out ?_))
 refine Lib.hid ?_
 have d' := nn.dn
 replace v2 := v2.dn d'
 replace HD := hT HD d'
 have v3 := nn.blk
 clear d' nn
 go_wp2_with (first | ((with_reducible refine wpList_alloc zeroMach ?_ ?_); rfl; intro b_v4 w' nn; refine Hid.out ?_))
 refine Lib.hid ?_
 have n_v2_v4 := Lib.hid (nn.ne _ v2.lt)
 have n_v3_v4 := Lib.hid (nn.ne _ v3.lt)
 have HL_v4 : Hid (W.heap.size ≤ b_v4) := Lib.hid (Blk.hi nn HD.out.size)
 have d' := nn.dn
 replace v2 := v2.dn d'
 replace v3 := v3.dn d'
 replace HD := hT HD d'
 have v4 := nn.blk
 clear d' nn
 have HD0 := HD
 go_wp2_with (first | ((with_reducible refine load33 v2 hl ?_ ?_ ?_); rfl; rfl) | ((with_reducible refine loadI v3 ?_ ?_ ?_); rfl; rfl) | (go_at_call 89; (with_reducible refine (C1.out _ (hm.dn HD.out)).mono ?_); rintro e w' ⟨g_, cap, m1, rfl, hm1, hN, hlo, d'⟩; refine Hid.out ?_))
 refine Lib.hid ?_
 replace v2 := v2.dn d'
 replace v3 := v3.dn d'
 replace v4 := v4.dn d'
 replace HD := hT HD d'
 clear d'
 have l1 : m1.c.length = 29 := by rw [hm1.out]; exact k2.len
 replace hlo := Nat.le_trans HD0.out.size hlo
 have HN := Lib.hid hN.out
 go_wp2_with (first | (go_at_call 88; (with_reducible refine (C2.out _ (hm.dn HD.out) g_ cap m1 hm1.out HN.out).mono ?_); rintro e w' ⟨m2, rfl, hm2, d'⟩; refine Hid.out ?_))
 refine Lib.hid ?_
 replace v2 := v2.dn d'
 replace v3 := v3.dn d'
 replace v4 := v4.dn d'
 replace HN := Lib.hid (HN.out.dn d')
 replace HD := hT HD d'
 clear d'
 have l2 : m2.c.length = 29 := by rw [hm2.out]; exact l1
 go_wp2_with (first | ((with_reducible refine store33 m2 l2 v4 zlen ?_ ?_ ?_ ?_); rfl; rfl; rfl; intro w' r' t'; refine Hid.out ?_))
 refine Lib.hid ?_
 replace HN := Lib.hid (HN.out.trn v4 (NoU8.mach _) t')
 replace v2 := v2.trn t' n_v2_v4.out
 replace v3 := v3.trn t' n_v3_v4.out
 replace HD := Lib.hid (HD.out.trn HL_v4.out t')
 clear t' v4
 have v4 := r'
 clear r'
 go_wp2_with fail
 have o1 := hm.dn HD.out
 exact retM rfl rfl v4 l2 ⟨m2, rfl, Lib.hid (by rw [hm2.out, hm1.out]; exact ⟨k2, o1.mem.full, HN.out.full, o1.t0, o1.t1⟩), Lib.hid (by rw [hm2.out, hm1.out]; exact ⟨rfl, rfl, rfl, rfl, rfl, rfl, .inr ⟨g_, rfl, hlo⟩⟩), HD.out⟩ rfl
theorem xPv (m : Mc) (op rd ra rb imm : Int) (W : World) (hm : m.Ok W) (T : Cs.CsrTabs W) (i0 : -2147483648 ≤ imm) (i1 : imm < 2147483648) (hy : m.ys.length ≤ 100000) (hop : op = 21 ∨ op = 22 ∨ op = 23 ∨ op = 24 ∨ op = 25) :
   Calls Tryz.prog 68 #[.agg (mach m), .agg (ins op rd ra rb imm)] W fun e W' => PvRet W m (M.px m.c m.ys m.h m.t op rd ra imm) e W' := by
 have hc := hm.core
 rcases hop with rfl | rfl | rfl | rfl | rfl
 · have hv := M.csr_rd_rng hc (t := m.t) (n := imm) hm.t0 hm.t1
   have hk := (hc.setreg rd hv).adv 4
   exact (pvExBy m 21 rd ra rb imm W hm T _ (hm.withC hk) (fun w ow _ => pvp21 m rd ra rb imm w ow i0 i1 _ rfl hv.1 hv.2 _ rfl _ rfl _ rfl) _ rfl).mono fun e W' h => PvRet.of hm hk (Nat.le_refl _) (Nat.le_refl _) rfl h
 · have hk := (hc.csw imm (M.reg m.c ra)).adv 4
   exact (pvExBy m 22 rd ra rb imm W hm T _ (hm.withC hk) (fun w ow t => pvp22 m rd ra rb imm w ow t i0 i1 _ rfl _ rfl _ rfl _ rfl) _ rfl).mono fun e W' h => PvRet.of hm hk (Nat.le_refl _) (Nat.le_refl _) rfl h
 · exact (pvExBy m 23 rd ra rb imm W hm T _ (hm.withC hc.leave) (fun w ow _ => pvp23 m rd ra rb imm w ow _ rfl) _ rfl).mono fun e W' h => PvRet.of hm hc.leave (Nat.le_refl _) (Nat.le_refl _) rfl h
 · have hk := hc.adv 4
   exact (pvExBy m 24 rd ra rb imm W hm T _ (hm.withC hk).withH (fun w ow _ => pvp24 m rd ra rb imm w ow _ rfl _ rfl) _ rfl).mono fun e W' h => PvRet.of hm hk (Nat.le_refl _) (Nat.le_refl _) rfl h
 · exact pvEx25 m rd ra rb imm W hm hy _ rfl _ rfl
end Go.Proofs.YtclpdjpaaagkdaaGreatDoor
