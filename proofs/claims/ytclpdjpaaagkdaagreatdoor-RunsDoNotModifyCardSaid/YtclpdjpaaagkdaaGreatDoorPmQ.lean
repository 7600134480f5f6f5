/-
  Contracts over the translated program and the plain facts behind them, of the texts: StNwA, StNwB, StNwD, StRPl, StRPm, StRSt, StRDo. Conditions: those that stand in each theorem.
-/
import Derived.Test.YtclpdjpaaagkdaaGreatDoorPmV
import Derived.Test.YtclpdjpaaagkdaaGreatDoorPmS
import Derived.Test.YtclpdjpaaagkdaaGreatDoorPmC
import Derived.Test.YtclpdjpaaagkdaaGreatDoorPmX
import Derived.Test.YtclpdjpaaagkdaaGreatDoorPmT
import Derived.Test.YtclpdjpaaagkdaaGreatDoorPmW
import Derived.Test.YtclpdjpaaagkdaaGreatDoorPmO
import Derived.Test.YtclpdjpaaagkdaaGreatDoorPmP
namespace Go.Proofs.YtclpdjpaaagkdaaGreatDoor
open Go.ChangeShapes Go.WideShapes Go.ChangeAt Go.RowKit Go.Sort
set_option linter.unusedVariables false

theorem stRDecYes (w : Int) (w0 : 0 ≤ w) (w1 : w < 4294967296) (hd : Is.M.dok w = true) (W : World) :
   Calls Tryz.prog 47 #[.int .u32 w] W fun e W' => e = .returned (.tuple #[.agg (ins (Is.M.dOp w) (Is.M.dRd w) (Is.M.dRa w) (Is.M.dRb w) (Is.M.dImm w)), .bool true]) ∧ Dn W W' :=
 (Is.refDecode_yes w W w0 w1 hd).mono fun e W' h => ⟨h.1, dn_of_below h.2.below⟩
theorem stRDecNo (w : Int) (w0 : 0 ≤ w) (w1 : w < 4294967296) (hd : Is.M.dok w = false) (W : World) :
   Calls Tryz.prog 47 #[.int .u32 w] W fun e W' => e = .returned (.tuple #[.agg (ins 0 0 0 0 0), .bool false]) ∧ Dn W W' := by
 rcases Is.dok_no w hd with h1 | ⟨h1, h3⟩
 · exact (Is.refDecode_no1 w W w0 w1 h1).mono fun e W' h => ⟨h.1, dn_of_below h.2.below⟩
 · exact (Is.refDecode_no2 w W w0 w1 h1 h3).mono fun e W' h => ⟨h.1, dn_of_below h.2.below⟩
set_option maxRecDepth 100000 in
set_option maxHeartbeats 2000000 in
theorem rnA (m : Mc) (W : World) (hm : m.Ok W) (hs : m.xs.length ≤ 100000) (x k v : Int) (ex : M.alv m.c m.xs (M.pc m.c) 4 = x) (ek : M.acz m.c m.xs.length (M.pc m.c) 4 = k) (ev : M.atv m.c m.xs.length (M.pc m.c) 4 = v) (hk : k ≠ 0) :
   Calls Tryz.prog 33 #[.agg (mach m)] W fun e W' => e = .returned (.tuple #[.agg (ins 0 0 0 0 0), .agg #[.int .i64 k, .int .u32 v]]) ∧ Dn W W' := by
 have hl := hm.len
 have hc := hm.core
 obtain ⟨p, hpc⟩ : ∃ p, m.c.getD 16 0 = p := ⟨_, rfl⟩
 have p0 := (M.core_pc hc).1
 have p1 := (M.core_pc hc).2
 rw [show M.pc m.c = p from hpc] at p0 p1 ex ek ev
 have C1 := Lib.hid fun w => fun (ow : m.Ok w) => rfload m p 4 w ow hs p0 p1 (by decide) (by decide) x k v ex ek ev
 clear ex ek ev
 have hk2 : (k != 0) = true := by simpa using hk
 clear hk
 have D1 := Lib.hid fun w (d : Dn W w) => C1.out w (hm.dn d)
 have N1 : wd m.c 16 = _ := hpc
 have R1 : Hid (Rg [1, 2] [0, 1] [[2], [3]]) := Lib.hid trivial
 have S : Hid (Sw W W []) := Lib.hid (Dn.refl W)
 go_enter Tryz.func33, Tryz.ntmps33
 exact Wr

set_option maxRecDepth 100000 in
set_option maxHeartbeats 2000000 in
theorem rnB (m : Mc) (W : World) (hm : m.Ok W) (hs : m.xs.length ≤ 100000) (x : Int) (ex : M.alv m.c m.xs (M.pc m.c) 4 = x) (ek : M.acz m.c m.xs.length (M.pc m.c) 4 = 0) (ev : M.atv m.c m.xs.length (M.pc m.c) 4 = 0) (x0 : 0 ≤ x) (x1 : x < 4294967296) (hd : Is.M.dok x = false) :
   Calls Tryz.prog 33 #[.agg (mach m)] W fun e W' => e = .returned (.tuple #[.agg (ins 0 0 0 0 0), .agg #[.int .i64 1, .int .u32 x]]) ∧ Dn W W' := by
 have hl := hm.len
 have hc := hm.core
 obtain ⟨p, hpc⟩ : ∃ p, m.c.getD 16 0 = p := ⟨_, rfl⟩
 have p0 := (M.core_pc hc).1
 have p1 := (M.core_pc hc).2
 rw [show M.pc m.c = p from hpc] at p0 p1 ex ek ev
 have C1 := Lib.hid fun w => fun (ow : m.Ok w) => rfload m p 4 w ow hs p0 p1 (by decide) (by decide) x 0 0 ex ek ev
 clear ex ek ev
 have C2 := Lib.hid fun w => stRDecNo x x0 x1 hd w
 clear hd
 have D1 := Lib.hid fun w (d : Dn W w) => C1.out w (hm.dn d)
 have D2 := Lib.hid fun w (d : Dn W w) => C2.out w
 have N1 : wd m.c 16 = _ := hpc
 have S : Hid (Sw W W []) := Lib.hid (Dn.refl W)
 go_enter Tryz.func33, Tryz.ntmps33
 exact Wr
set_option maxRecDepth 100000 in
set_option maxHeartbeats 2000000 in
theorem rnC (m : Mc) (W : World) (hm : m.Ok W) (hs : m.xs.length ≤ 100000) (x : Int) (ex : M.alv m.c m.xs (M.pc m.c) 4 = x) (ek : M.acz m.c m.xs.length (M.pc m.c) 4 = 0) (ev : M.atv m.c m.xs.length (M.pc m.c) 4 = 0) (x0 : 0 ≤ x) (x1 : x < 4294967296) (op rd ra rb imm : Int) (e1 : Is.M.dOp x = op) (e2 : Is.M.dRd x = rd) (e3 : Is.M.dRa x = ra) (e4 : Is.M.dRb x = rb) (e5 : Is.M.dImm x = imm) (hd : Is.M.dok x = true) (hp : Is.M.priv op = true) (hsu : M.sup m.c = false) :
   Calls Tryz.prog 33 #[.agg (mach m)] W fun e W' => e = .returned (.tuple #[.agg (ins 0 0 0 0 0), .agg #[.int .i64 2, .int .u32 x]]) ∧ Dn W W' := by
 have hl := hm.len
 have hc := hm.core
 obtain ⟨p, hpc⟩ : ∃ p, m.c.getD 16 0 = p := ⟨_, rfl⟩
 have p0 := (M.core_pc hc).1
 have p1 := (M.core_pc hc).2
 rw [show M.pc m.c = p from hpc] at p0 p1 ex ek ev
 have C1 := Lib.hid fun w => fun (ow : m.Ok w) => rfload m p 4 w ow hs p0 p1 (by decide) (by decide) x 0 0 ex ek ev
 clear ex ek ev
 have C2 := Lib.hid fun w => (by have h := stRDecYes x x0 x1 hd w; rw [e1, e2, e3, e4, e5] at h; exact h : Calls Tryz.prog 47 #[.int .u32 x] w fun e W' => e = .returned (.tuple #[.agg (ins op rd ra rb imm), .bool true]) ∧ Dn w W')
 clear e1 e2 e3 e4 e5 hd
 have C3 := Lib.hid (rPrivi op true hp)
 have C4 := Lib.hid fun w => (by have h := super_ m.c w hc; rw [hsu] at h; exact h : Calls Tryz.prog 48 #[.agg (ints .u32 m.c)] w fun e W' => e = .returned (.bool false) ∧ Dn w W')
 clear hsu
 clear hp
 have D1 := Lib.hid fun w (d : Dn W w) => C1.out w (hm.dn d)
 have D2 := Lib.hid fun w (d : Dn W w) => C2.out w
 have D3 := Lib.hid fun w (d : Dn W w) => C3.out w
 have D4 := Lib.hid fun w (d : Dn W w) => C4.out w
 have N1 : wd m.c 16 = _ := hpc
 have S : Hid (Sw W W []) := Lib.hid (Dn.refl W)
 go_enter Tryz.func33, Tryz.ntmps33
 exact Wr

set_option maxRecDepth 100000 in
set_option maxHeartbeats 2000000 in
theorem rnD1 (m : Mc) (W : World) (hm : m.Ok W) (hs : m.xs.length ≤ 100000) (x : Int) (ex : M.alv m.c m.xs (M.pc m.c) 4 = x) (ek : M.acz m.c m.xs.length (M.pc m.c) 4 = 0) (ev : M.atv m.c m.xs.length (M.pc m.c) 4 = 0) (x0 : 0 ≤ x) (x1 : x < 4294967296) (op rd ra rb imm : Int) (e1 : Is.M.dOp x = op) (e2 : Is.M.dRd x = rd) (e3 : Is.M.dRa x = ra) (e4 : Is.M.dRb x = rb) (e5 : Is.M.dImm x = imm) (hd : Is.M.dok x = true) (hp : Is.M.priv op = false) :
   Calls Tryz.prog 33 #[.agg (mach m)] W fun e W' => e = .returned (.tuple #[.agg (ins op rd ra rb imm), .agg #[.int .i64 0, .int .u32 0]]) ∧ Dn W W' := by
 have hl := hm.len
 have hc := hm.core
 obtain ⟨p, hpc⟩ : ∃ p, m.c.getD 16 0 = p := ⟨_, rfl⟩
 have p0 := (M.core_pc hc).1
 have p1 := (M.core_pc hc).2
 rw [show M.pc m.c = p from hpc] at p0 p1 ex ek ev
 have C1 := Lib.hid fun w => fun (ow : m.Ok w) => rfload m p 4 w ow hs p0 p1 (by decide) (by decide) x 0 0 ex ek ev
 clear ex ek ev
 have C2 := Lib.hid fun w => (by have h := stRDecYes x x0 x1 hd w; rw [e1, e2, e3, e4, e5] at h; exact h : Calls Tryz.prog 47 #[.int .u32 x] w fun e W' => e = .returned (.tuple #[.agg (ins op rd ra rb imm), .bool true]) ∧ Dn w W')
 clear e1 e2 e3 e4 e5 hd
 have C3 := Lib.hid (rPrivi op false hp)
 clear hp
 have D1 := Lib.hid fun w (d : Dn W w) => C1.out w (hm.dn d)
 have D2 := Lib.hid fun w (d : Dn W w) => C2.out w
 have D3 := Lib.hid fun w (d : Dn W w) => C3.out w
 have N1 : wd m.c 16 = _ := hpc
 have R1 : Hid (Rg [2, 3] [0, 1] [[2], [3]]) := Lib.hid trivial
 have S : Hid (Sw W W []) := Lib.hid (Dn.refl W)
 go_enter Tryz.func33, Tryz.ntmps33
 exact Wr
set_option maxRecDepth 100000 in
set_option maxHeartbeats 2000000 in
theorem rnD2 (m : Mc) (W : World) (hm : m.Ok W) (hs : m.xs.length ≤ 100000) (x : Int) (ex : M.alv m.c m.xs (M.pc m.c) 4 = x) (ek : M.acz m.c m.xs.length (M.pc m.c) 4 = 0) (ev : M.atv m.c m.xs.length (M.pc m.c) 4 = 0) (x0 : 0 ≤ x) (x1 : x < 4294967296) (op rd ra rb imm : Int) (e1 : Is.M.dOp x = op) (e2 : Is.M.dRd x = rd) (e3 : Is.M.dRa x = ra) (e4 : Is.M.dRb x = rb) (e5 : Is.M.dImm x = imm) (hd : Is.M.dok x = true) (hp : Is.M.priv op = true) (hsu : M.sup m.c = true) :
   Calls Tryz.prog 33 #[.agg (mach m)] W fun e W' => e = .returned (.tuple #[.agg (ins op rd ra rb imm), .agg #[.int .i64 0, .int .u32 0]]) ∧ Dn W W' := by
 have hl := hm.len
 have hc := hm.core
 obtain ⟨p, hpc⟩ : ∃ p, m.c.getD 16 0 = p := ⟨_, rfl⟩
 have p0 := (M.core_pc hc).1
 have p1 := (M.core_pc hc).2
 rw [show M.pc m.c = p from hpc] at p0 p1 ex ek ev
 have C1 := Lib.hid fun w => fun (ow : m.Ok w) => rfload m p 4 w ow hs p0 p1 (by decide) (by decide) x 0 0 ex ek ev
 clear ex ek ev
 have C2 := Lib.hid fun w => (by have h := stRDecYes x x0 x1 hd w; rw [e1, e2, e3, e4, e5] at h; exact h : Calls Tryz.prog 47 #[.int .u32 x] w fun e W' => e = .returned (.tuple #[.agg (ins op rd ra rb imm), .bool true]) ∧ Dn w W')
 clear e1 e2 e3 e4 e5 hd
 have C3 := Lib.hid (rPrivi op true hp)
 have C4 := Lib.hid fun w => (by have h := super_ m.c w hc; rw [hsu] at h; exact h : Calls Tryz.prog 48 #[.agg (ints .u32 m.c)] w fun e W' => e = .returned (.bool true) ∧ Dn w W')
 clear hsu
 clear hp
 have D1 := Lib.hid fun w (d : Dn W w) => C1.out w (hm.dn d)
 have D2 := Lib.hid fun w (d : Dn W w) => C2.out w
 have D3 := Lib.hid fun w (d : Dn W w) => C3.out w
 have D4 := Lib.hid fun w (d : Dn W w) => C4.out w
 have N1 : wd m.c 16 = _ := hpc
 have R1 : Hid (Rg [2, 3] [0, 1] [[2], [3]]) := Lib.hid trivial
 have S : Hid (Sw W W []) := Lib.hid (Dn.refl W)
 go_enter Tryz.func33, Tryz.ntmps33
 exact Wr

set_option maxRecDepth 100000 in
set_option maxHeartbeats 2000000 in
theorem rplH (m : Mc) (W : World) (hm : m.Ok W) (hh : m.h = true) :
   Calls Tryz.prog 25 #[.agg (mach m)] W fun e W' => e = .returned (.tuple #[.agg (mach m), .agg #[.int .i64 0, .int .u32 0]]) ∧ Dn W W' := by
 have hl := hm.len
 have S : Hid (Sw W W []) := Lib.hid (Dn.refl W)
 go_enter Tryz.func25, Tryz.ntmps25
 exact Wr
set_option maxRecDepth 100000 in
set_option maxHeartbeats 2000000 in
theorem rplT (m : Mc) (W : World) (hm : m.Ok W) (hh : m.h = false) (k v : Int) (k0 : -9223372036854775808 ≤ k) (k1 : k < 9223372036854775808) (z0 : 0 ≤ v) (z1 : v < 4294967296) (hk : k ≠ 0) (HC : ∀ w, m.Ok w → Calls Tryz.prog 33 #[.agg (mach m)] w fun e W' => e = .returned (.tuple #[.agg (ins 0 0 0 0 0), .agg #[.int .i64 k, .int .u32 v]]) ∧ Dn w W') (m' : Mc) (hm' : m' = { m with c := M.enter m.c k v, t := M.tick m.t }) :
   Calls Tryz.prog 25 #[.agg (mach m)] W fun e W' => e = .returned (.tuple #[.agg (mach m'), .agg #[.int .i64 k, .int .u32 v]]) ∧ Dn W W' := by
 have hl := hm.len
 have hc := hm.core
 obtain ⟨c1, h1⟩ : ∃ c1, M.enter m.c k v = c1 := ⟨_, rfl⟩
 have k1' : M.Core c1 := by rw [← h1]; exact hc.enter z0 z1
 have l1 : c1.length = 29 := k1'.len
 obtain ⟨m1, hm1⟩ : ∃ m1 : Mc, m1 = { m with c := c1 } := ⟨_, rfl⟩
 have l2 : m1.c.length = 29 := by rw [hm1]; exact l1
 have hl' : m'.c.length = 29 := by rw [hm']; show (M.enter m.c k v).length = 29; rw [h1]; exact l1
 have hm2 : m' = { m1 with t := M.tick m.t } := by rw [hm', hm1, h1]
 have t0 := hm.t0
 have t1_ := hm.t1
 have HT : Hid (∀ T, T = m.t → (T + 1) % 18446744073709551616 = M.tick m.t) := Lib.hid fun T h => by rw [h]; rfl
 obtain ⟨tt, htt⟩ : ∃ tt, m.t = tt := ⟨_, rfl⟩
 have C2 := Lib.hid fun w => (by have h := refEnter m.c k v w hc k0 k1 z0 z1; rw [h1] at h; exact h : Calls Tryz.prog 26 #[.agg (ints .u32 m.c), .agg #[.int .i64 k, .int .u32 v]] w fun e W' => e = .returned (.agg (ints .u32 c1)) ∧ Dn w W')
 have C1 := Lib.hid fun w => fun (ow : m.Ok w) => HC w ow
 replace hm1 := Lib.hid hm1
 replace hm2 := Lib.hid hm2
 clear h1 hm' HC
 rw [htt] at t0 t1_
 have HTT := Lib.hid htt
 have hk2 : (k == 0) = false := by simpa using hk
 have hk3 : (k != 0) = true := by simpa using hk
 clear hk
 have E1 := Lib.hid (hm1.out).symm
 have E2 := Lib.hid (HT.out tt HTT.out.symm)
 have E3 := Lib.hid (hm2.out).symm
 have D1 := Lib.hid fun w (d : Dn W w) => C1.out w (hm.dn d)
 have D2 := Lib.hid fun w (d : Dn W w) => C2.out w
 have R1 : Hid (Rg [3, 4] [0, 1] [[2], [3]]) := Lib.hid trivial
 have S : Hid (Sw W W []) := Lib.hid (Dn.refl W)
 go_enter Tryz.func25, Tryz.ntmps25
 exact Wr
set_option maxRecDepth 100000 in
set_option maxHeartbeats 2000000 in
theorem rplP (m : Mc) (W : World) (hm : m.Ok W) (hh : m.h = false) (op rd ra rb imm : Int) (c z ys : List Int) (h : Bool) (hp : Is.M.priv op = true) (HC : ∀ w, m.Ok w → Calls Tryz.prog 33 #[.agg (mach m)] w fun e W' => e = .returned (.tuple #[.agg (ins op rd ra rb imm), .agg #[.int .i64 0, .int .u32 0]]) ∧ Dn w W') (HX : ∀ w, m.Ok w → Calls Tryz.prog 35 #[.agg (mach m), .agg (ins op rd ra rb imm)] w fun e W' => ∃ m1, e = .returned (.agg (mach m1)) ∧ Hid (m1.Ok W') ∧ Hid (m1.c = c ∧ m1.xs = z ∧ m1.ys = ys ∧ m1.h = h ∧ m1.t = m.t) ∧ Dn w W') :
   Calls Tryz.prog 25 #[.agg (mach m)] W fun e W' => StRet W ⟨c, z, ys, h, M.tick m.t, 0, 0⟩ e W' := by
 have hl := hm.len
 have hc := hm.core
 have t0 := hm.t0
 have t1_ := hm.t1
 have HT : Hid (∀ T, T = m.t → (T + 1) % 18446744073709551616 = M.tick m.t) := Lib.hid fun T h => by rw [h]; rfl
 obtain ⟨tt, htt⟩ : ∃ tt, m.t = tt := ⟨_, rfl⟩
 have C1 := Lib.hid fun w => fun (ow : m.Ok w) => HC w ow
 have C2 := Lib.hid fun w => fun (ow : m.Ok w) => HX w ow
 have CP := Lib.hid (rPrivi op true hp)
 have OKF : Hid (∀ w, Dn W w → ∀ {m1 : Mc}, m1.Ok w → Mc.Ok w { m1 with t := M.tick m.t }) := Lib.hid fun w d m1 o => ⟨o.core, o.mem, o.out, (M.tick_rng m.t).1, (M.tick_rng m.t).2⟩
 clear HC HX hp
 rw [htt] at t0 t1_
 have HTT := Lib.hid htt
 have HD := Lib.hid (Dn.refl W)
 go_enter Tryz.func25, Tryz.ntmps25
 go_wp2_with (first | ((with_reducible refine wpList_box (vs := (mach m)) ?_ ?_ ?_); rfl; rfl; intro b_v1 w' nn; refine Hid.out ?_))
 refine Lib.hid ?_
 have d' := nn.dn
 replace HD := hT HD d'
 have v1 := nn.blk
 clear d' nn
 go_wp2_with (first | ((with_reducible refine wpList_alloc zeroMach ?_ ?_); rfl; intro b_v2 w' nn; refine Hid.out ?_))
 refine Lib.hid ?_
 have n_v1_v2 := Lib.hid (nn.ne _ v1.lt)
 have HL_v2 : Hid (W.heap.size ≤ b_v2) := Lib.hid (Blk.hi nn HD.out.size)
 have d' := nn.dn
 replace v1 := v1.dn d'
 replace HD := hT HD d'
 have v2 := nn.blk
 clear d' nn
 go_wp2_with (first | ((with_reducible refine wpList_alloc zeroTrap ?_ ?_); rfl; intro b_v3 w' nn; refine Hid.out ?_))
 refine Lib.hid ?_
 have n_v1_v3 := Lib.hid (nn.ne _ v1.lt)
 have n_v2_v3 := Lib.hid (nn.ne _ v2.lt)
 have HL_v3 : Hid (W.heap.size ≤ b_v3) := Lib.hid (Blk.hi nn HD.out.size)
 have d' := nn.dn
 replace v1 := v1.dn d'
 replace v2 := v2.dn d'
 replace HD := hT HD d'
 have v3 := nn.blk
 clear d' nn
 have ck0 := v1.halted hl
 rw [hh] at ck0
 go_wp2_with (first | ((with_reducible refine load33 v1 hl ?_ ?_ ?_); rfl; rfl) | (go_at_call 33; (with_reducible refine (C1.out _ (hm.dn HD.out)).mono ?_); rintro e w' ⟨rfl, d'⟩; refine Hid.out ?_))
 refine Lib.hid ?_
 clear ck0
 replace v1 := v1.dn d'
 replace v2 := v2.dn d'
 replace v3 := v3.dn d'
 replace HD := hT HD d'
 clear d'
 go_wp2_with (first | ((with_reducible refine wpList_alloc zeroI ?_ ?_); rfl; intro b_v4 w' nn; refine Hid.out ?_))
 refine Lib.hid ?_
 have n_v1_v4 := Lib.hid (nn.ne _ v1.lt)
 have n_v2_v4 := Lib.hid (nn.ne _ v2.lt)
 have n_v3_v4 := Lib.hid (nn.ne _ v3.lt)
 have HL_v4 : Hid (W.heap.size ≤ b_v4) := Lib.hid (Blk.hi nn HD.out.size)
 have d' := nn.dn
 replace v1 := v1.dn d'
 replace v2 := v2.dn d'
 replace v3 := v3.dn d'
 replace HD := hT HD d'
 have v4 := nn.blk
 clear d' nn
 go_wp2_with (first | ((with_reducible refine wpList_alloc zeroTrap ?_ ?_); rfl; intro b_v5 w' nn; refine Hid.out ?_))
 refine Lib.hid ?_
 have n_v1_v5 := Lib.hid (nn.ne _ v1.lt)
 have n_v2_v5 := Lib.hid (nn.ne _ v2.lt)
 have n_v3_v5 := Lib.hid (nn.ne _ v3.lt)
 have n_v4_v5 := Lib.hid (nn.ne _ v4.lt)
 have HL_v5 : Hid (W.heap.size ≤ b_v5) := Lib.hid (Blk.hi nn HD.out.size)
 have d' := nn.dn
 replace v1 := v1.dn d'
 replace v2 := v2.dn d'
 replace v3 := v3.dn d'
 replace v4 := v4.dn d'
 replace HD := hT HD d'
 have v5 := nn.blk
 clear d' nn
 go_wp2_with (first | ((with_reducible refine storeI (op := op) (rd := rd) (ra := ra) (rb := rb) (imm := imm) v4 ?_ ?_ ?_ ?_); rfl; rfl; rfl; intro w' r' t'; refine Hid.out ?_))
 refine Lib.hid ?_
 replace v1 := v1.trn t' n_v1_v4.out
 replace v2 := v2.trn t' n_v2_v4.out
 replace v3 := v3.trn t' n_v3_v4.out
 replace v5 := v5.trn t' n_v4_v5.out.symm
 replace HD := Lib.hid (HD.out.trn HL_v4.out t')
 clear t' v4
 have v4 := r'
 clear r'
 go_wp2_with (first | ((with_reducible refine storeTrap (k := 0) (v := 0) v5 ?_ ?_ ?_ ?_); rfl; rfl; rfl; intro w' r' t'; refine Hid.out ?_))
 refine Lib.hid ?_
 replace v1 := v1.trn t' n_v1_v5.out
 replace v2 := v2.trn t' n_v2_v5.out
 replace v3 := v3.trn t' n_v3_v5.out
 replace v4 := v4.trn t' n_v4_v5.out
 replace HD := Lib.hid (HD.out.trn HL_v5.out t')
 clear t' v5
 have v5 := r'
 clear r'
 go_wp2_with (first | ((with_reducible refine load33 v1 hl ?_ ?_ ?_); rfl; rfl) | ((with_reducible refine wpList_alloc zeroMach ?_ ?_); rfl; intro b_v6 w' nn; refine Hid.out ?_))
 refine Lib.hid ?_
 have n_v1_v6 := Lib.hid (nn.ne _ v1.lt)
 have n_v2_v6 := Lib.hid (nn.ne _ v2.lt)
 have n_v3_v6 := Lib.hid (nn.ne _ v3.lt)
 have n_v4_v6 := Lib.hid (nn.ne _ v4.lt)
 have n_v5_v6 := Lib.hid (nn.ne _ v5.lt)
 have HL_v6 : Hid (W.heap.size ≤ b_v6) := Lib.hid (Blk.hi nn HD.out.size)
 have d' := nn.dn
 replace v1 := v1.dn d'
 replace v2 := v2.dn d'
 replace v3 := v3.dn d'
 replace v4 := v4.dn d'
 replace v5 := v5.dn d'
 replace HD := hT HD d'
 have v6 := nn.blk
 clear d' nn
 go_wp2_with (first | ((with_reducible refine store33 m hl v6 zlen ?_ ?_ ?_ ?_); rfl; rfl; rfl; intro w' r' t'; refine Hid.out ?_))
 refine Lib.hid ?_
 replace v1 := v1.trn t' n_v1_v6.out
 replace v2 := v2.trn t' n_v2_v6.out
 replace v3 := v3.trn t' n_v3_v6.out
 replace v4 := v4.trn t' n_v4_v6.out
 replace v5 := v5.trn t' n_v5_v6.out
 replace HD := Lib.hid (HD.out.trn HL_v6.out t')
 clear t' v6
 have v6 := r'
 clear r'
 have ck0 := v5.cell (i := 0) (v := .int .i64 0) rfl
 have ck1 := v4.iop
 go_wp2_with (first | (go_at_call 34; (with_reducible refine (CP.out _).mono ?_); rintro e w' ⟨rfl, d'⟩; refine Hid.out ?_))
 refine Lib.hid ?_
 clear ck0 ck1
 replace v1 := v1.dn d'
 replace v2 := v2.dn d'
 replace v3 := v3.dn d'
 replace v4 := v4.dn d'
 replace v5 := v5.dn d'
 replace v6 := v6.dn d'
 replace HD := hT HD d'
 clear d'
 go_wp2_with (first | ((with_reducible refine load33 v1 hl ?_ ?_ ?_); rfl; rfl) | ((with_reducible refine loadI v4 ?_ ?_ ?_); rfl; rfl) | (go_at_call 35; (with_reducible refine (C2.out _ (hm.dn HD.out)).mono ?_); rintro e w' ⟨m1, rfl, o1, uu, d'⟩; refine Hid.out ?_))
 refine Lib.hid ?_
 replace v1 := v1.dn d'
 replace v2 := v2.dn d'
 replace v3 := v3.dn d'
 replace v4 := v4.dn d'
 replace v5 := v5.dn d'
 replace v6 := v6.dn d'
 replace HD := hT HD d'
 clear d'
 have l1 := o1.out.len
 obtain ⟨m3, hm3⟩ : ∃ m3 : Mc, m3 = { m1 with t := M.tick m.t } := ⟨_, rfl⟩
 have l3 : m3.c.length = 29 := by rw [hm3]; exact l1
 replace hm3 := Lib.hid hm3
 have o1 := Lib.hid o1.out
 go_wp2_with (first | ((with_reducible refine store33 m1 l1 v6 hl ?_ ?_ ?_ ?_); rfl; rfl; rfl; intro w' r' t'; refine Hid.out ?_))
 refine Lib.hid ?_
 replace o1 := Lib.hid (o1.out.trn v6 (NoU8.mach _) t')
 replace v1 := v1.trn t' n_v1_v6.out
 replace v2 := v2.trn t' n_v2_v6.out
 replace v3 := v3.trn t' n_v3_v6.out
 replace v4 := v4.trn t' n_v4_v6.out
 replace v5 := v5.trn t' n_v5_v6.out
 replace HD := Lib.hid (HD.out.trn HL_v6.out t')
 clear t' v6
 have v6 := r'
 clear r'
 have ck0 := v5.cell (i := 0) (v := .int .i64 0) rfl
 have ck1 := v4.iop
 go_wp2_with (first | (go_at_call 34; (with_reducible refine (CP.out _).mono ?_); rintro e w' ⟨rfl, d'⟩; refine Hid.out ?_))
 refine Lib.hid ?_
 clear ck0 ck1
 replace v1 := v1.dn d'
 replace v2 := v2.dn d'
 replace v3 := v3.dn d'
 replace v4 := v4.dn d'
 replace v5 := v5.dn d'
 replace v6 := v6.dn d'
 replace o1 := Lib.hid (o1.out.dn d')
 replace HD := hT HD d'
 clear d'
 have ck0 := v5.cell (i := 0) (v := .int .i64 0) rfl
 have ck1 := v1.time hl
 rw [htt] at ck1
 go_wp2_with (first | ((with_reducible refine storeTime (u := (tt + 1) % 18446744073709551616) v6 l1 ?_ ?_ ?_ ?_); rfl; rfl; rfl; intro w' r' t'; refine Hid.out ?_))
 refine Lib.hid ?_
 clear ck0 ck1
 replace o1 := Lib.hid (o1.out.trn v6 (NoU8.mach _) t')
 replace v1 := v1.trn t' n_v1_v6.out
 replace v2 := v2.trn t' n_v2_v6.out
 replace v3 := v3.trn t' n_v3_v6.out
 replace v4 := v4.trn t' n_v4_v6.out
 replace v5 := v5.trn t' n_v5_v6.out
 rw [HT.out tt HTT.out.symm, ← hm3.out] at r'
 replace HD := Lib.hid (HD.out.trn HL_v6.out t')
 clear t' v6
 have v6 := r'
 clear r'
 go_wp2_with fail
 have nx_v1 : b_v1 ∉ [b_v2, b_v3] := (by simp only [List.mem_cons, List.not_mem_nil, or_false, not_or]; exact ⟨n_v1_v2.out, n_v1_v3.out⟩)
 have nx_v4 : b_v4 ∉ [b_v2, b_v3] := (by simp only [List.mem_cons, List.not_mem_nil, or_false, not_or]; exact ⟨n_v2_v4.out.symm, n_v3_v4.out.symm⟩)
 have nx_v5 : b_v5 ∉ [b_v2, b_v3] := (by simp only [List.mem_cons, List.not_mem_nil, or_false, not_or]; exact ⟨n_v2_v5.out.symm, n_v3_v5.out.symm⟩)
 have nx_v6 : b_v6 ∉ [b_v2, b_v3] := (by simp only [List.mem_cons, List.not_mem_nil, or_false, not_or]; exact ⟨n_v2_v6.out.symm, n_v3_v6.out.symm⟩)
 have hbs : ∀ b ∈ [b_v2, b_v3], ∃ t cs, Blk w' b t cs ∧ NoU8 cs := by
   intro b hb
   simp only [List.mem_cons, List.not_mem_nil, or_false] at hb
   rcases hb with rfl | rfl
   · exact ⟨_, _, v2, (NoU8.mach _)⟩
   · exact ⟨_, _, v3, (NoU8.trap _ _)⟩
 have hbl : ∀ b ∈ [b_v2, b_v3], W.heap.size ≤ b := by
   intro b hb
   simp only [List.mem_cons, List.not_mem_nil, or_false] at hb
   rcases hb with rfl | rfl
   · exact HL_v2.out
   · exact HL_v3.out
 refine wp_region_picks [b_v2, b_v3] [0, 1] 2 (by kernel_rfl) (by kernel_rfl) rfl (by kernel_rfl) ?_
 simp only [pickL, List.drop_succ_cons, List.drop_zero, List.take_succ_cons, List.take_zero, List.cons_append, List.nil_append]
 refine ⟨?_, ?_, ?_⟩
 rotate_left 1
 refine ⟨_, calx33 v6 l3 nx_v6 (by rfl) rfl, ?_⟩
 simp only [Act.put, tA, tS, tZ]
 refine ⟨_, calxTrap v5 nx_v5 (by rfl) rfl, ?_⟩
 simp only [Act.put, tA, tS, tZ]
 exact rfl
 have e0 : Dx [b_v2, b_v3] w' w'.drew := Dn.dx (Dn.drawn _)
 have f_v2 := v2.dn (Dn.drawn w')
 have f_v3 := v3.dn (Dn.drawn w')
 refine wpX_one 2 (by kernel_rfl) ?_
 refine x1_store 0 (vs := (mach m3)) rfl f_v2 (.inl (by simp)) (info_mach l3) (by rw [mach_size l3, mach_size zlen]; omega) (mach_one _) rfl rfl e0 fun u1 y1 du1 t1 e1 g1 => ?_
 rw [lay_all (mach Mc.zero) (mach m3) (by rw [mach_size l3, mach_size zlen])] at g1
 replace f_v3 := (f_v3.dn du1).trn t1 n_v2_v3.out.symm
 clear f_v2 e0
 have f_v2 := g1
 have e0 := e1
 clear g1 t1 du1 e1
 refine wpX_one 3 (by kernel_rfl) ?_
 refine x1_store 0 (vs := #[.int .i64 0, .int .u32 0]) rfl f_v3 (.inl (by simp)) infoTrap (by simp) (by simp [Value.oneCell']) rfl rfl e0 fun u1 y1 du1 t1 e1 g1 => ?_
 rw [lay_all #[.int .i64 0, .int .u32 0] #[.int .i64 0, .int .u32 0] rfl] at g1
 replace f_v2 := (f_v2.dn du1).trn t1 n_v2_v3.out
 clear f_v3 e0
 have f_v3 := g1
 have e0 := e1
 clear g1 t1 du1 e1
 refine wpX_end (by kernel_rfl) fun w' dx => NoPanic.normal ?_
 have D := e0.trans (Dn.dx dx)
 replace f_v2 := f_v2.dn dx
 replace f_v3 := f_v3.dn dx
 clear e0 dx
 replace v1 := v1.dx D nx_v1
 replace v4 := v4.dx D nx_v4
 replace v5 := v5.dx D nx_v5
 replace v6 := v6.dx D nx_v6
 replace o1 := Lib.hid (o1.out.dx D hbs)
 replace HD := Lib.hid (HD.out.of_dx D hbl)
 clear v2 v3 D hbs hbl nx_v1 nx_v4 nx_v5 nx_v6
 have v2 := f_v2
 clear f_v2
 have v3 := f_v3
 clear f_v3
 go_wp2_with fail
 obtain ⟨w1, w2, w3, w4, w5⟩ := uu.out
 exact retMT rfl rfl rfl v2 l3 v3 ⟨m3, rfl, Lib.hid (by rw [hm3.out]; exact OKF.out _ HD.out o1.out), Lib.hid (by rw [hm3.out]; exact ⟨w1, w2, rfl, w3, w4⟩), HD.out⟩ rfl

set_option maxRecDepth 100000 in
set_option maxHeartbeats 2000000 in
theorem rplN (m : Mc) (W : World) (hm : m.Ok W) (hh : m.h = false) (op rd ra rb imm : Int) (c z ys : List Int) (h : Bool) (hp : Is.M.priv op = false) (HC : ∀ w, m.Ok w → Calls Tryz.prog 33 #[.agg (mach m)] w fun e W' => e = .returned (.tuple #[.agg (ins op rd ra rb imm), .agg #[.int .i64 0, .int .u32 0]]) ∧ Dn w W') (HX : ∀ w, m.Ok w → Calls Tryz.prog 36 #[.agg (mach m), .agg (ins op rd ra rb imm)] w fun e W' => XeRet w m c z ys h 0 0 e W') :
   Calls Tryz.prog 25 #[.agg (mach m)] W fun e W' => StRet W ⟨c, z, ys, h, M.tick m.t, 0, 0⟩ e W' := by
 have hl := hm.len
 have hc := hm.core
 have t0 := hm.t0
 have t1_ := hm.t1
 have HT : Hid (∀ T, T = m.t → (T + 1) % 18446744073709551616 = M.tick m.t) := Lib.hid fun T h => by rw [h]; rfl
 obtain ⟨tt, htt⟩ : ∃ tt, m.t = tt := ⟨_, rfl⟩
 have C1 := Lib.hid fun w => fun (ow : m.Ok w) => HC w ow
 have C2 := Lib.hid fun w => fun (ow : m.Ok w) => HX w ow
 have CP := Lib.hid (rPrivi op false hp)
 have OKF : Hid (∀ w, Dn W w → ∀ {m1 : Mc}, m1.Ok w → Mc.Ok w { m1 with t := M.tick m.t }) := Lib.hid fun w d m1 o => ⟨o.core, o.mem, o.out, (M.tick_rng m.t).1, (M.tick_rng m.t).2⟩
 clear HC HX hp
 rw [htt] at t0 t1_
 have HTT := Lib.hid htt
 have HD := Lib.hid (Dn.refl W)
 go_enter Tryz.func25, Tryz.ntmps25
 go_wp2_with (first | ((with_reducible refine wpList_box (vs := (mach m)) ?_ ?_ ?_); rfl; rfl; intro b_v1 w' nn; refine Hid.out ?_))
 refine Lib.hid ?_
 have d' := nn.dn
 replace HD := hT HD d'
 have v1 := nn.blk
 clear d' nn
 go_wp2_with (first | ((with_reducible refine wpList_alloc zeroMach ?_ ?_); rfl; intro b_v2 w' nn; refine Hid.out ?_))
 refine Lib.hid ?_
 have n_v1_v2 := Lib.hid (nn.ne _ v1.lt)
 have HL_v2 : Hid (W.heap.size ≤ b_v2) := Lib.hid (Blk.hi nn HD.out.size)
 have d' := nn.dn
 replace v1 := v1.dn d'
 replace HD := hT HD d'
 have v2 := nn.blk
 clear d' nn
 go_wp2_with (first | ((with_reducible refine wpList_alloc zeroTrap ?_ ?_); rfl; intro b_v3 w' nn; refine Hid.out ?_))
 refine Lib.hid ?_
 have n_v1_v3 := Lib.hid (nn.ne _ v1.lt)
 have n_v2_v3 := Lib.hid (nn.ne _ v2.lt)
 have HL_v3 : Hid (W.heap.size ≤ b_v3) := Lib.hid (Blk.hi nn HD.out.size)
 have d' := nn.dn
 replace v1 := v1.dn d'
 replace v2 := v2.dn d'
 replace HD := hT HD d'
 have v3 := nn.blk
 clear d' nn
 have ck0 := v1.halted hl
 rw [hh] at ck0
 go_wp2_with (first | ((with_reducible refine load33 v1 hl ?_ ?_ ?_); rfl; rfl) | (go_at_call 33; (with_reducible refine (C1.out _ (hm.dn HD.out)).mono ?_); rintro e w' ⟨rfl, d'⟩; refine Hid.out ?_))
 refine Lib.hid ?_
 clear ck0
 replace v1 := v1.dn d'
 replace v2 := v2.dn d'
 replace v3 := v3.dn d'
 replace HD := hT HD d'
 clear d'
 go_wp2_with (first | ((with_reducible refine wpList_alloc zeroI ?_ ?_); rfl; intro b_v4 w' nn; refine Hid.out ?_))
 refine Lib.hid ?_
 have n_v1_v4 := Lib.hid (nn.ne _ v1.lt)
 have n_v2_v4 := Lib.hid (nn.ne _ v2.lt)
 have n_v3_v4 := Lib.hid (nn.ne _ v3.lt)
 have HL_v4 : Hid (W.heap.size ≤ b_v4) := Lib.hid (Blk.hi nn HD.out.size)
 have d' := nn.dn
 replace v1 := v1.dn d'
 replace v2 := v2.dn d'
 replace v3 := v3.dn d'
 replace HD := hT HD d'
 have v4 := nn.blk
 clear d' nn
 go_wp2_with (first | ((with_reducible refine wpList_alloc zeroTrap ?_ ?_); rfl; intro b_v5 w' nn; refine Hid.out ?_))
 refine Lib.hid ?_
 have n_v1_v5 := Lib.hid (nn.ne _ v1.lt)
 have n_v2_v5 := Lib.hid (nn.ne _ v2.lt)
 have n_v3_v5 := Lib.hid (nn.ne _ v3.lt)
 have n_v4_v5 := Lib.hid (nn.ne _ v4.lt)
 have HL_v5 : Hid (W.heap.size ≤ b_v5) := Lib.hid (Blk.hi nn HD.out.size)
 have d' := nn.dn
 replace v1 := v1.dn d'
 replace v2 := v2.dn d'
 replace v3 := v3.dn d'
 replace v4 := v4.dn d'
 replace HD := hT HD d'
 have v5 := nn.blk
 clear d' nn
 go_wp2_with (first | ((with_reducible refine storeI (op := op) (rd := rd) (ra := ra) (rb := rb) (imm := imm) v4 ?_ ?_ ?_ ?_); rfl; rfl; rfl; intro w' r' t'; refine Hid.out ?_))
 refine Lib.hid ?_
 replace v1 := v1.trn t' n_v1_v4.out
 replace v2 := v2.trn t' n_v2_v4.out
 replace v3 := v3.trn t' n_v3_v4.out
 replace v5 := v5.trn t' n_v4_v5.out.symm
 replace HD := Lib.hid (HD.out.trn HL_v4.out t')
 clear t' v4
 have v4 := r'
 clear r'
 go_wp2_with (first | ((with_reducible refine storeTrap (k := 0) (v := 0) v5 ?_ ?_ ?_ ?_); rfl; rfl; rfl; intro w' r' t'; refine Hid.out ?_))
 refine Lib.hid ?_
 replace v1 := v1.trn t' n_v1_v5.out
 replace v2 := v2.trn t' n_v2_v5.out
 replace v3 := v3.trn t' n_v3_v5.out
 replace v4 := v4.trn t' n_v4_v5.out
 replace HD := Lib.hid (HD.out.trn HL_v5.out t')
 clear t' v5
 have v5 := r'
 clear r'
 go_wp2_with (first | ((with_reducible refine load33 v1 hl ?_ ?_ ?_); rfl; rfl) | ((with_reducible refine wpList_alloc zeroMach ?_ ?_); rfl; intro b_v6 w' nn; refine Hid.out ?_))
 refine Lib.hid ?_
 have n_v1_v6 := Lib.hid (nn.ne _ v1.lt)
 have n_v2_v6 := Lib.hid (nn.ne _ v2.lt)
 have n_v3_v6 := Lib.hid (nn.ne _ v3.lt)
 have n_v4_v6 := Lib.hid (nn.ne _ v4.lt)
 have n_v5_v6 := Lib.hid (nn.ne _ v5.lt)
 have HL_v6 : Hid (W.heap.size ≤ b_v6) := Lib.hid (Blk.hi nn HD.out.size)
 have d' := nn.dn
 replace v1 := v1.dn d'
 replace v2 := v2.dn d'
 replace v3 := v3.dn d'
 replace v4 := v4.dn d'
 replace v5 := v5.dn d'
 replace HD := hT HD d'
 have v6 := nn.blk
 clear d' nn
 go_wp2_with (first | ((with_reducible refine store33 m hl v6 zlen ?_ ?_ ?_ ?_); rfl; rfl; rfl; intro w' r' t'; refine Hid.out ?_))
 refine Lib.hid ?_
 replace v1 := v1.trn t' n_v1_v6.out
 replace v2 := v2.trn t' n_v2_v6.out
 replace v3 := v3.trn t' n_v3_v6.out
 replace v4 := v4.trn t' n_v4_v6.out
 replace v5 := v5.trn t' n_v5_v6.out
 replace HD := Lib.hid (HD.out.trn HL_v6.out t')
 clear t' v6
 have v6 := r'
 clear r'
 have ck0 := v5.cell (i := 0) (v := .int .i64 0) rfl
 have ck1 := v4.iop
 go_wp2_with (first | (go_at_call 34; (with_reducible refine (CP.out _).mono ?_); rintro e w' ⟨rfl, d'⟩; refine Hid.out ?_))
 refine Lib.hid ?_
 clear ck0 ck1
 replace v1 := v1.dn d'
 replace v2 := v2.dn d'
 replace v3 := v3.dn d'
 replace v4 := v4.dn d'
 replace v5 := v5.dn d'
 replace v6 := v6.dn d'
 replace HD := hT HD d'
 clear d'
 have ck0 := v5.cell (i := 0) (v := .int .i64 0) rfl
 have ck1 := v4.iop
 go_wp2_with (first | (go_at_call 34; (with_reducible refine (CP.out _).mono ?_); rintro e w' ⟨rfl, d'⟩; refine Hid.out ?_))
 refine Lib.hid ?_
 clear ck0 ck1
 replace v1 := v1.dn d'
 replace v2 := v2.dn d'
 replace v3 := v3.dn d'
 replace v4 := v4.dn d'
 replace v5 := v5.dn d'
 replace v6 := v6.dn d'
 replace HD := hT HD d'
 clear d'
 go_wp2_with (first | ((with_reducible refine load33 v1 hl ?_ ?_ ?_); rfl; rfl) | ((with_reducible refine loadI v4 ?_ ?_ ?_); rfl; rfl) | (go_at_call 36; (with_reducible refine (C2.out _ (hm.dn HD.out)).mono ?_); rintro e w' ⟨m1, rfl, o1, uu, d'⟩; refine Hid.out ?_))
 refine Lib.hid ?_
 replace v1 := v1.dn d'
 replace v2 := v2.dn d'
 replace v3 := v3.dn d'
 replace v4 := v4.dn d'
 replace v5 := v5.dn d'
 replace v6 := v6.dn d'
 replace HD := hT HD d'
 clear d'
 have l1 := o1.out.len
 obtain ⟨m3, hm3⟩ : ∃ m3 : Mc, m3 = { m1 with t := M.tick m.t } := ⟨_, rfl⟩
 have l3 : m3.c.length = 29 := by rw [hm3]; exact l1
 replace hm3 := Lib.hid hm3
 have o1 := Lib.hid o1.out
 go_wp2_with (first | ((with_reducible refine store33 m1 l1 v6 hl ?_ ?_ ?_ ?_); rfl; rfl; rfl; intro w' r' t'; refine Hid.out ?_))
 refine Lib.hid ?_
 replace o1 := Lib.hid (o1.out.trn v6 (NoU8.mach _) t')
 replace v1 := v1.trn t' n_v1_v6.out
 replace v2 := v2.trn t' n_v2_v6.out
 replace v3 := v3.trn t' n_v3_v6.out
 replace v4 := v4.trn t' n_v4_v6.out
 replace v5 := v5.trn t' n_v5_v6.out
 replace HD := Lib.hid (HD.out.trn HL_v6.out t')
 clear t' v6
 have v6 := r'
 clear r'
 go_wp2_with (first | ((with_reducible refine storeTrap (k := 0) (v := 0) v5 ?_ ?_ ?_ ?_); rfl; rfl; rfl; intro w' r' t'; refine Hid.out ?_))
 refine Lib.hid ?_
 replace o1 := Lib.hid (o1.out.trn v5 (NoU8.trap _ _) t')
 replace v1 := v1.trn t' n_v1_v5.out
 replace v2 := v2.trn t' n_v2_v5.out
 replace v3 := v3.trn t' n_v3_v5.out
 replace v4 := v4.trn t' n_v4_v5.out
 replace v6 := v6.trn t' n_v5_v6.out.symm
 replace HD := Lib.hid (HD.out.trn HL_v5.out t')
 clear t' v5
 have v5 := r'
 clear r'
 have ck0 := v5.cell (i := 0) (v := .int .i64 0) rfl
 have ck1 := v1.time hl
 rw [htt] at ck1
 go_wp2_with (first | ((with_reducible refine storeTime (u := (tt + 1) % 18446744073709551616) v6 l1 ?_ ?_ ?_ ?_); rfl; rfl; rfl; intro w' r' t'; refine Hid.out ?_))
 refine Lib.hid ?_
 clear ck0 ck1
 replace o1 := Lib.hid (o1.out.trn v6 (NoU8.mach _) t')
 replace v1 := v1.trn t' n_v1_v6.out
 replace v2 := v2.trn t' n_v2_v6.out
 replace v3 := v3.trn t' n_v3_v6.out
 replace v4 := v4.trn t' n_v4_v6.out
 replace v5 := v5.trn t' n_v5_v6.out
 rw [HT.out tt HTT.out.symm, ← hm3.out] at r'
 replace HD := Lib.hid (HD.out.trn HL_v6.out t')
 clear t' v6
 have v6 := r'
 clear r'
 go_wp2_with fail
 have nx_v1 : b_v1 ∉ [b_v2, b_v3] := (by simp only [List.mem_cons, List.not_mem_nil, or_false, not_or]; exact ⟨n_v1_v2.out, n_v1_v3.out⟩)
 have nx_v4 : b_v4 ∉ [b_v2, b_v3] := (by simp only [List.mem_cons, List.not_mem_nil, or_false, not_or]; exact ⟨n_v2_v4.out.symm, n_v3_v4.out.symm⟩)
 have nx_v5 : b_v5 ∉ [b_v2, b_v3] := (by simp only [List.mem_cons, List.not_mem_nil, or_false, not_or]; exact ⟨n_v2_v5.out.symm, n_v3_v5.out.symm⟩)
 have nx_v6 : b_v6 ∉ [b_v2, b_v3] := (by simp only [List.mem_cons, List.not_mem_nil, or_false, not_or]; exact ⟨n_v2_v6.out.symm, n_v3_v6.out.symm⟩)
 have hbs : ∀ b ∈ [b_v2, b_v3], ∃ t cs, Blk w' b t cs ∧ NoU8 cs := by
   intro b hb
   simp only [List.mem_cons, List.not_mem_nil, or_false] at hb
   rcases hb with rfl | rfl
   · exact ⟨_, _, v2, (NoU8.mach _)⟩
   · exact ⟨_, _, v3, (NoU8.trap _ _)⟩
 have hbl : ∀ b ∈ [b_v2, b_v3], W.heap.size ≤ b := by
   intro b hb
   simp only [List.mem_cons, List.not_mem_nil, or_false] at hb
   rcases hb with rfl | rfl
   · exact HL_v2.out
   · exact HL_v3.out
 refine wp_region_picks [b_v2, b_v3] [0, 1] 2 (by kernel_rfl) (by kernel_rfl) rfl (by kernel_rfl) ?_
 simp only [pickL, List.drop_succ_cons, List.drop_zero, List.take_succ_cons, List.take_zero, List.cons_append, List.nil_append]
 refine ⟨?_, ?_, ?_⟩
 rotate_left 1
 refine ⟨_, calx33 v6 l3 nx_v6 (by rfl) rfl, ?_⟩
 simp only [Act.put, tA, tS, tZ]
 refine ⟨_, calxTrap v5 nx_v5 (by rfl) rfl, ?_⟩
 simp only [Act.put, tA, tS, tZ]
 exact rfl
 have e0 : Dx [b_v2, b_v3] w' w'.drew := Dn.dx (Dn.drawn _)
 have f_v2 := v2.dn (Dn.drawn w')
 have f_v3 := v3.dn (Dn.drawn w')
 refine wpX_one 2 (by kernel_rfl) ?_
 refine x1_store 0 (vs := (mach m3)) rfl f_v2 (.inl (by simp)) (info_mach l3) (by rw [mach_size l3, mach_size zlen]; omega) (mach_one _) rfl rfl e0 fun u1 y1 du1 t1 e1 g1 => ?_
 rw [lay_all (mach Mc.zero) (mach m3) (by rw [mach_size l3, mach_size zlen])] at g1
 replace f_v3 := (f_v3.dn du1).trn t1 n_v2_v3.out.symm
 clear f_v2 e0
 have f_v2 := g1
 have e0 := e1
 clear g1 t1 du1 e1
 refine wpX_one 3 (by kernel_rfl) ?_
 refine x1_store 0 (vs := #[.int .i64 0, .int .u32 0]) rfl f_v3 (.inl (by simp)) infoTrap (by simp) (by simp [Value.oneCell']) rfl rfl e0 fun u1 y1 du1 t1 e1 g1 => ?_
 rw [lay_all #[.int .i64 0, .int .u32 0] #[.int .i64 0, .int .u32 0] rfl] at g1
 replace f_v2 := (f_v2.dn du1).trn t1 n_v2_v3.out
 clear f_v3 e0
 have f_v3 := g1
 have e0 := e1
 clear g1 t1 du1 e1
 refine wpX_end (by kernel_rfl) fun w' dx => NoPanic.normal ?_
 have D := e0.trans (Dn.dx dx)
 replace f_v2 := f_v2.dn dx
 replace f_v3 := f_v3.dn dx
 clear e0 dx
 replace v1 := v1.dx D nx_v1
 replace v4 := v4.dx D nx_v4
 replace v5 := v5.dx D nx_v5
 replace v6 := v6.dx D nx_v6
 replace o1 := Lib.hid (o1.out.dx D hbs)
 replace HD := Lib.hid (HD.out.of_dx D hbl)
 clear v2 v3 D hbs hbl nx_v1 nx_v4 nx_v5 nx_v6
 have v2 := f_v2
 clear f_v2
 have v3 := f_v3
 clear f_v3
 go_wp2_with fail
 obtain ⟨w1, w2, w3, w4, w5⟩ := uu.out
 exact retMT rfl rfl rfl v2 l3 v3 ⟨m3, rfl, Lib.hid (by rw [hm3.out]; exact OKF.out _ HD.out o1.out), Lib.hid (by rw [hm3.out]; exact ⟨w1, w2, rfl, w3, w4⟩), HD.out⟩ rfl
set_option maxRecDepth 100000 in
set_option maxHeartbeats 2000000 in
theorem rplX (m : Mc) (W : World) (hm : m.Ok W) (hh : m.h = false) (k v : Int) (k0 : -9223372036854775808 ≤ k) (k1 : k < 9223372036854775808) (z0 : 0 ≤ v) (z1 : v < 4294967296) (hk : k ≠ 0) (op rd ra rb imm : Int) (c z ys : List Int) (h : Bool) (hp : Is.M.priv op = false) (HC : ∀ w, m.Ok w → Calls Tryz.prog 33 #[.agg (mach m)] w fun e W' => e = .returned (.tuple #[.agg (ins op rd ra rb imm), .agg #[.int .i64 0, .int .u32 0]]) ∧ Dn w W') (HX : ∀ w, m.Ok w → Calls Tryz.prog 36 #[.agg (mach m), .agg (ins op rd ra rb imm)] w fun e W' => XeRet w m c z ys h k v e W') :
   Calls Tryz.prog 25 #[.agg (mach m)] W fun e W' => StRet W ⟨M.enter c k v, z, ys, h, M.tick m.t, k, v⟩ e W' := by
 have hl := hm.len
 have hc := hm.core
 have t0 := hm.t0
 have t1_ := hm.t1
 have HT : Hid (∀ T, T = m.t → (T + 1) % 18446744073709551616 = M.tick m.t) := Lib.hid fun T h => by rw [h]; rfl
 obtain ⟨tt, htt⟩ : ∃ tt, m.t = tt := ⟨_, rfl⟩
 have C1 := Lib.hid fun w => fun (ow : m.Ok w) => HC w ow
 have C2 := Lib.hid fun w => fun (ow : m.Ok w) => HX w ow
 have CP := Lib.hid (rPrivi op false hp)
 have OKF : Hid (∀ w, Dn W w → ∀ {m1 : Mc}, m1.Ok w → Mc.Ok w { m1 with c := M.enter m1.c k v, t := M.tick m.t }) := Lib.hid fun w d m1 o => ⟨o.core.enter z0 z1, o.mem, o.out, (M.tick_rng m.t).1, (M.tick_rng m.t).2⟩
 have C3 := Lib.hid fun (w : World) (c : List Int) (hcc : M.Core c) => refEnter c k v w hcc k0 k1 z0 z1
 have hk2 : (k == 0) = false := by simpa using hk
 have hk3 : (k != 0) = true := by simpa using hk
 clear hk
 clear HC HX hp
 rw [htt] at t0 t1_
 have HTT := Lib.hid htt
 have HD := Lib.hid (Dn.refl W)
 go_enter Tryz.func25, Tryz.ntmps25
 go_wp2_with (first | ((with_reducible refine wpList_box (vs := (mach m)) ?_ ?_ ?_); rfl; rfl; intro b_v1 w' nn; refine Hid.out ?_))
 refine Lib.hid ?_
 have d' := nn.dn
 replace HD := hT HD d'
 have v1 := nn.blk
 clear d' nn
 go_wp2_with (first | ((with_reducible refine wpList_alloc zeroMach ?_ ?_); rfl; intro b_v2 w' nn; refine Hid.out ?_))
 refine Lib.hid ?_
 have n_v1_v2 := Lib.hid (nn.ne _ v1.lt)
 have HL_v2 : Hid (W.heap.size ≤ b_v2) := Lib.hid (Blk.hi nn HD.out.size)
 have d' := nn.dn
 replace v1 := v1.dn d'
 replace HD := hT HD d'
 have v2 := nn.blk
 clear d' nn
 go_wp2_with (first | ((with_reducible refine wpList_alloc zeroTrap ?_ ?_); rfl; intro b_v3 w' nn; refine Hid.out ?_))
 refine Lib.hid ?_
 have n_v1_v3 := Lib.hid (nn.ne _ v1.lt)
 have n_v2_v3 := Lib.hid (nn.ne _ v2.lt)
 have HL_v3 : Hid (W.heap.size ≤ b_v3) := Lib.hid (Blk.hi nn HD.out.size)
 have d' := nn.dn
 replace v1 := v1.dn d'
 replace v2 := v2.dn d'
 replace HD := hT HD d'
 have v3 := nn.blk
 clear d' nn
 have ck0 := v1.halted hl
 rw [hh] at ck0
 go_wp2_with (first | ((with_reducible refine load33 v1 hl ?_ ?_ ?_); rfl; rfl) | (go_at_call 33; (with_reducible refine (C1.out _ (hm.dn HD.out)).mono ?_); rintro e w' ⟨rfl, d'⟩; refine Hid.out ?_))
 refine Lib.hid ?_
 clear ck0
 replace v1 := v1.dn d'
 replace v2 := v2.dn d'
 replace v3 := v3.dn d'
 replace HD := hT HD d'
 clear d'
 go_wp2_with (first | ((with_reducible refine wpList_alloc zeroI ?_ ?_); rfl; intro b_v4 w' nn; refine Hid.out ?_))
 refine Lib.hid ?_
 have n_v1_v4 := Lib.hid (nn.ne _ v1.lt)
 have n_v2_v4 := Lib.hid (nn.ne _ v2.lt)
 have n_v3_v4 := Lib.hid (nn.ne _ v3.lt)
 have HL_v4 : Hid (W.heap.size ≤ b_v4) := Lib.hid (Blk.hi nn HD.out.size)
 have d' := nn.dn
 replace v1 := v1.dn d'
 replace v2 := v2.dn d'
 replace v3 := v3.dn d'
 replace HD := hT HD d'
 have v4 := nn.blk
 clear d' nn
 go_wp2_with (first | ((with_reducible refine wpList_alloc zeroTrap ?_ ?_); rfl; intro b_v5 w' nn; refine Hid.out ?_))
 refine Lib.hid ?_
 have n_v1_v5 := Lib.hid (nn.ne _ v1.lt)
 have n_v2_v5 := Lib.hid (nn.ne _ v2.lt)
 have n_v3_v5 := Lib.hid (nn.ne _ v3.lt)
 have n_v4_v5 := Lib.hid (nn.ne _ v4.lt)
 have HL_v5 : Hid (W.heap.size ≤ b_v5) := Lib.hid (Blk.hi nn HD.out.size)
 have d' := nn.dn
 replace v1 := v1.dn d'
 replace v2 := v2.dn d'
 replace v3 := v3.dn d'
 replace v4 := v4.dn d'
 replace HD := hT HD d'
 have v5 := nn.blk
 clear d' nn
 go_wp2_with (first | ((with_reducible refine storeI (op := op) (rd := rd) (ra := ra) (rb := rb) (imm := imm) v4 ?_ ?_ ?_ ?_); rfl; rfl; rfl; intro w' r' t'; refine Hid.out ?_))
 refine Lib.hid ?_
 replace v1 := v1.trn t' n_v1_v4.out
 replace v2 := v2.trn t' n_v2_v4.out
 replace v3 := v3.trn t' n_v3_v4.out
 replace v5 := v5.trn t' n_v4_v5.out.symm
 replace HD := Lib.hid (HD.out.trn HL_v4.out t')
 clear t' v4
 have v4 := r'
 clear r'
 go_wp2_with (first | ((with_reducible refine storeTrap (k := 0) (v := 0) v5 ?_ ?_ ?_ ?_); rfl; rfl; rfl; intro w' r' t'; refine Hid.out ?_))
 refine Lib.hid ?_
 replace v1 := v1.trn t' n_v1_v5.out
 replace v2 := v2.trn t' n_v2_v5.out
 replace v3 := v3.trn t' n_v3_v5.out
 replace v4 := v4.trn t' n_v4_v5.out
 replace HD := Lib.hid (HD.out.trn HL_v5.out t')
 clear t' v5
 have v5 := r'
 clear r'
 go_wp2_with (first | ((with_reducible refine load33 v1 hl ?_ ?_ ?_); rfl; rfl) | ((with_reducible refine wpList_alloc zeroMach ?_ ?_); rfl; intro b_v6 w' nn; refine Hid.out ?_))
 refine Lib.hid ?_
 have n_v1_v6 := Lib.hid (nn.ne _ v1.lt)
 have n_v2_v6 := Lib.hid (nn.ne _ v2.lt)
 have n_v3_v6 := Lib.hid (nn.ne _ v3.lt)
 have n_v4_v6 := Lib.hid (nn.ne _ v4.lt)
 have n_v5_v6 := Lib.hid (nn.ne _ v5.lt)
 have HL_v6 : Hid (W.heap.size ≤ b_v6) := Lib.hid (Blk.hi nn HD.out.size)
 have d' := nn.dn
 replace v1 := v1.dn d'
 replace v2 := v2.dn d'
 replace v3 := v3.dn d'
 replace v4 := v4.dn d'
 replace v5 := v5.dn d'
 replace HD := hT HD d'
 have v6 := nn.blk
 clear d' nn
 go_wp2_with (first | ((with_reducible refine store33 m hl v6 zlen ?_ ?_ ?_ ?_); rfl; rfl; rfl; intro w' r' t'; refine Hid.out ?_))
 refine Lib.hid ?_
 replace v1 := v1.trn t' n_v1_v6.out
 replace v2 := v2.trn t' n_v2_v6.out
 replace v3 := v3.trn t' n_v3_v6.out
 replace v4 := v4.trn t' n_v4_v6.out
 replace v5 := v5.trn t' n_v5_v6.out
 replace HD := Lib.hid (HD.out.trn HL_v6.out t')
 clear t' v6
 have v6 := r'
 clear r'
 have ck0 := v5.cell (i := 0) (v := .int .i64 0) rfl
 have ck1 := v4.iop
 go_wp2_with (first | (go_at_call 34; (with_reducible refine (CP.out _).mono ?_); rintro e w' ⟨rfl, d'⟩; refine Hid.out ?_))
 refine Lib.hid ?_
 clear ck0 ck1
 replace v1 := v1.dn d'
 replace v2 := v2.dn d'
 replace v3 := v3.dn d'
 replace v4 := v4.dn d'
 replace v5 := v5.dn d'
 replace v6 := v6.dn d'
 replace HD := hT HD d'
 clear d'
 have ck0 := v5.cell (i := 0) (v := .int .i64 0) rfl
 have ck1 := v4.iop
 go_wp2_with (first | (go_at_call 34; (with_reducible refine (CP.out _).mono ?_); rintro e w' ⟨rfl, d'⟩; refine Hid.out ?_))
 refine Lib.hid ?_
 clear ck0 ck1
 replace v1 := v1.dn d'
 replace v2 := v2.dn d'
 replace v3 := v3.dn d'
 replace v4 := v4.dn d'
 replace v5 := v5.dn d'
 replace v6 := v6.dn d'
 replace HD := hT HD d'
 clear d'
 go_wp2_with (first | ((with_reducible refine load33 v1 hl ?_ ?_ ?_); rfl; rfl) | ((with_reducible refine loadI v4 ?_ ?_ ?_); rfl; rfl) | (go_at_call 36; (with_reducible refine (C2.out _ (hm.dn HD.out)).mono ?_); rintro e w' ⟨m1, rfl, o1, uu, d'⟩; refine Hid.out ?_))
 refine Lib.hid ?_
 replace v1 := v1.dn d'
 replace v2 := v2.dn d'
 replace v3 := v3.dn d'
 replace v4 := v4.dn d'
 replace v5 := v5.dn d'
 replace v6 := v6.dn d'
 replace HD := hT HD d'
 clear d'
 have l1 := o1.out.len
 obtain ⟨c2, hc2⟩ : ∃ c2, M.enter m1.c k v = c2 := ⟨_, rfl⟩
 have l2 : c2.length = 29 := by rw [← hc2]; exact (o1.out.core.enter (k := k) z0 z1).len
 obtain ⟨m2, hm2⟩ : ∃ m2 : Mc, m2 = { m1 with c := c2 } := ⟨_, rfl⟩
 have l4 : m2.c.length = 29 := by rw [hm2]; exact l2
 obtain ⟨m3, hm3⟩ : ∃ m3 : Mc, m3 = { m2 with t := M.tick m.t } := ⟨_, rfl⟩
 have l3 : m3.c.length = 29 := by rw [hm3]; exact l4
 have hm3' : Hid (m3 = { m1 with c := M.enter m1.c k v, t := M.tick m.t }) := Lib.hid (by rw [hm3, hm2, hc2])
 replace hm2 := Lib.hid hm2
 replace hm3 := Lib.hid hm3
 have oc := o1.out.core
 have C4 := Lib.hid fun w => (by have h := C3.out w m1.c oc; rw [hc2] at h; exact h : Calls Tryz.prog 26 #[.agg (ints .u32 m1.c), .agg #[.int .i64 k, .int .u32 v]] w fun e W' => e = .returned (.agg (ints .u32 c2)) ∧ Dn w W')
 clear hc2 oc
 have o1 := Lib.hid o1.out
 go_wp2_with (first | ((with_reducible refine store33 m1 l1 v6 hl ?_ ?_ ?_ ?_); rfl; rfl; rfl; intro w' r' t'; refine Hid.out ?_))
 refine Lib.hid ?_
 replace o1 := Lib.hid (o1.out.trn v6 (NoU8.mach _) t')
 replace v1 := v1.trn t' n_v1_v6.out
 replace v2 := v2.trn t' n_v2_v6.out
 replace v3 := v3.trn t' n_v3_v6.out
 replace v4 := v4.trn t' n_v4_v6.out
 replace v5 := v5.trn t' n_v5_v6.out
 replace HD := Lib.hid (HD.out.trn HL_v6.out t')
 clear t' v6
 have v6 := r'
 clear r'
 go_wp2_with (first | ((with_reducible refine storeTrap (k := k) (v := v) v5 ?_ ?_ ?_ ?_); rfl; rfl; rfl; intro w' r' t'; refine Hid.out ?_))
 refine Lib.hid ?_
 replace o1 := Lib.hid (o1.out.trn v5 (NoU8.trap _ _) t')
 replace v1 := v1.trn t' n_v1_v5.out
 replace v2 := v2.trn t' n_v2_v5.out
 replace v3 := v3.trn t' n_v3_v5.out
 replace v4 := v4.trn t' n_v4_v5.out
 replace v6 := v6.trn t' n_v5_v6.out.symm
 replace HD := Lib.hid (HD.out.trn HL_v5.out t')
 clear t' v5
 have v5 := r'
 clear r'
 have ck0 := v5.cell (i := 0) (v := .int .i64 k) rfl
 go_wp2_with (first | ((with_reducible refine loadCore v6 l1 ?_ ?_ ?_); rfl; rfl) | ((with_reducible refine loadTrap v5 ?_ ?_ ?_); rfl; rfl) | (go_at_call 26; (with_reducible refine (C4.out _).mono ?_); rintro e w' ⟨rfl, d'⟩; refine Hid.out ?_))
 refine Lib.hid ?_
 clear ck0
 replace v1 := v1.dn d'
 replace v2 := v2.dn d'
 replace v3 := v3.dn d'
 replace v4 := v4.dn d'
 replace v5 := v5.dn d'
 replace v6 := v6.dn d'
 replace o1 := Lib.hid (o1.out.dn d')
 replace HD := hT HD d'
 clear d'
 go_wp2_with (first | ((with_reducible refine storeCore c2 l2 v6 l1 ?_ ?_ ?_ ?_); rfl; rfl; rfl; intro w' r' t'; refine Hid.out ?_))
 refine Lib.hid ?_
 replace o1 := Lib.hid (o1.out.trn v6 (NoU8.mach _) t')
 replace v1 := v1.trn t' n_v1_v6.out
 replace v2 := v2.trn t' n_v2_v6.out
 replace v3 := v3.trn t' n_v3_v6.out
 replace v4 := v4.trn t' n_v4_v6.out
 replace v5 := v5.trn t' n_v5_v6.out
 rw [← hm2.out] at r'
 replace HD := Lib.hid (HD.out.trn HL_v6.out t')
 clear t' v6
 have v6 := r'
 clear r'
 have ck0 := v1.time hl
 rw [htt] at ck0
 go_wp2_with (first | ((with_reducible refine storeTime (u := (tt + 1) % 18446744073709551616) v6 l4 ?_ ?_ ?_ ?_); rfl; rfl; rfl; intro w' r' t'; refine Hid.out ?_))
 refine Lib.hid ?_
 clear ck0
 replace o1 := Lib.hid (o1.out.trn v6 (NoU8.mach _) t')
 replace v1 := v1.trn t' n_v1_v6.out
 replace v2 := v2.trn t' n_v2_v6.out
 replace v3 := v3.trn t' n_v3_v6.out
 replace v4 := v4.trn t' n_v4_v6.out
 replace v5 := v5.trn t' n_v5_v6.out
 rw [HT.out tt HTT.out.symm, ← hm3.out] at r'
 clear hm3
 have hm3 := hm3'
 replace HD := Lib.hid (HD.out.trn HL_v6.out t')
 clear t' v6
 have v6 := r'
 clear r'
 go_wp2_with fail
 have nx_v1 : b_v1 ∉ [b_v2, b_v3] := (by simp only [List.mem_cons, List.not_mem_nil, or_false, not_or]; exact ⟨n_v1_v2.out, n_v1_v3.out⟩)
 have nx_v4 : b_v4 ∉ [b_v2, b_v3] := (by simp only [List.mem_cons, List.not_mem_nil, or_false, not_or]; exact ⟨n_v2_v4.out.symm, n_v3_v4.out.symm⟩)
 have nx_v5 : b_v5 ∉ [b_v2, b_v3] := (by simp only [List.mem_cons, List.not_mem_nil, or_false, not_or]; exact ⟨n_v2_v5.out.symm, n_v3_v5.out.symm⟩)
 have nx_v6 : b_v6 ∉ [b_v2, b_v3] := (by simp only [List.mem_cons, List.not_mem_nil, or_false, not_or]; exact ⟨n_v2_v6.out.symm, n_v3_v6.out.symm⟩)
 have hbs : ∀ b ∈ [b_v2, b_v3], ∃ t cs, Blk w' b t cs ∧ NoU8 cs := by
   intro b hb
   simp only [List.mem_cons, List.not_mem_nil, or_false] at hb
   rcases hb with rfl | rfl
   · exact ⟨_, _, v2, (NoU8.mach _)⟩
   · exact ⟨_, _, v3, (NoU8.trap _ _)⟩
 have hbl : ∀ b ∈ [b_v2, b_v3], W.heap.size ≤ b := by
   intro b hb
   simp only [List.mem_cons, List.not_mem_nil, or_false] at hb
   rcases hb with rfl | rfl
   · exact HL_v2.out
   · exact HL_v3.out
 refine wp_region_picks [b_v2, b_v3] [0, 1] 2 (by kernel_rfl) (by kernel_rfl) rfl (by kernel_rfl) ?_
 simp only [pickL, List.drop_succ_cons, List.drop_zero, List.take_succ_cons, List.take_zero, List.cons_append, List.nil_append]
 refine ⟨?_, ?_, ?_⟩
 rotate_left 1
 refine ⟨_, calx33 v6 l3 nx_v6 (by rfl) rfl, ?_⟩
 simp only [Act.put, tA, tS, tZ]
 refine ⟨_, calxTrap v5 nx_v5 (by rfl) rfl, ?_⟩
 simp only [Act.put, tA, tS, tZ]
 exact rfl
 have e0 : Dx [b_v2, b_v3] w' w'.drew := Dn.dx (Dn.drawn _)
 have f_v2 := v2.dn (Dn.drawn w')
 have f_v3 := v3.dn (Dn.drawn w')
 refine wpX_one 2 (by kernel_rfl) ?_
 refine x1_store 0 (vs := (mach m3)) rfl f_v2 (.inl (by simp)) (info_mach l3) (by rw [mach_size l3, mach_size zlen]; omega) (mach_one _) rfl rfl e0 fun u1 y1 du1 t1 e1 g1 => ?_
 rw [lay_all (mach Mc.zero) (mach m3) (by rw [mach_size l3, mach_size zlen])] at g1
 replace f_v3 := (f_v3.dn du1).trn t1 n_v2_v3.out.symm
 clear f_v2 e0
 have f_v2 := g1
 have e0 := e1
 clear g1 t1 du1 e1
 refine wpX_one 3 (by kernel_rfl) ?_
 refine x1_store 0 (vs := #[.int .i64 k, .int .u32 v]) rfl f_v3 (.inl (by simp)) infoTrap (by simp) (by simp [Value.oneCell']) rfl rfl e0 fun u1 y1 du1 t1 e1 g1 => ?_
 rw [lay_all #[.int .i64 0, .int .u32 0] #[.int .i64 k, .int .u32 v] rfl] at g1
 replace f_v2 := (f_v2.dn du1).trn t1 n_v2_v3.out
 clear f_v3 e0
 have f_v3 := g1
 have e0 := e1
 clear g1 t1 du1 e1
 refine wpX_end (by kernel_rfl) fun w' dx => NoPanic.normal ?_
 have D := e0.trans (Dn.dx dx)
 replace f_v2 := f_v2.dn dx
 replace f_v3 := f_v3.dn dx
 clear e0 dx
 replace v1 := v1.dx D nx_v1
 replace v4 := v4.dx D nx_v4
 replace v5 := v5.dx D nx_v5
 replace v6 := v6.dx D nx_v6
 replace o1 := Lib.hid (o1.out.dx D hbs)
 replace HD := Lib.hid (HD.out.of_dx D hbl)
 clear v2 v3 D hbs hbl nx_v1 nx_v4 nx_v5 nx_v6
 have v2 := f_v2
 clear f_v2
 have v3 := f_v3
 clear f_v3
 go_wp2_with fail
 obtain ⟨w1, w2, w3, w4, w5⟩ := uu.out
 exact retMT rfl rfl rfl v2 l3 v3 ⟨m3, rfl, Lib.hid (by rw [hm3.out]; exact OKF.out _ HD.out o1.out), Lib.hid (by rw [hm3.out]; exact ⟨by show M.enter m1.c k v = _; rw [w1], w2, rfl, w3, w4⟩), HD.out⟩ rfl

set_option maxRecDepth 100000 in
set_option maxHeartbeats 2000000 in
theorem rstD (m : Mc) (W : World) (hm : m.Ok W) (hh : m.h = false) (hd : M.due m.c m.t = true) (m' : Mc) (hm' : m' = { m with c := M.enter m.c 6 0, t := M.tick m.t }) :
   Calls Tryz.prog 19 #[.agg (mach m)] W fun e W' => e = .returned (.tuple #[.agg (mach m'), .agg #[.int .i64 6, .int .u32 0]]) ∧ Dn W W' := by
 have hl := hm.len
 have hc := hm.core
 have C1 := Lib.hid fun w => fun (ow : m.Ok w) => (by have h := rdue m w ow; rw [hd] at h; exact h : Calls Tryz.prog 24 #[.agg (mach m)] w fun e W' => e = .returned (.bool true) ∧ Dn w W')
 obtain ⟨c1, h1⟩ : ∃ c1, M.enter m.c 6 0 = c1 := ⟨_, rfl⟩
 have k1' : M.Core c1 := by rw [← h1]; exact hc.enter (by decide) (by decide)
 have l1 : c1.length = 29 := k1'.len
 obtain ⟨m1, hm1⟩ : ∃ m1 : Mc, m1 = { m with c := c1 } := ⟨_, rfl⟩
 have l2 : m1.c.length = 29 := by rw [hm1]; exact l1
 have hl' : m'.c.length = 29 := by rw [hm']; show (M.enter m.c 6 0).length = 29; rw [h1]; exact l1
 have hm2 : m' = { m1 with t := M.tick m.t } := by rw [hm', hm1, h1]
 have n30 : m1.t = m.t := by rw [hm1]
 have t0 := hm.t0
 have t1_ := hm.t1
 have HT : Hid (∀ T, T = m.t → (T + 1) % 18446744073709551616 = M.tick m.t) := Lib.hid fun T h => by rw [h]; rfl
 obtain ⟨tt, htt⟩ : ∃ tt, m.t = tt := ⟨_, rfl⟩
 have C2 := Lib.hid fun w => (by have h := refEnter m.c 6 0 w hc (by decide) (by decide) (by decide) (by decide); rw [h1] at h; exact h : Calls Tryz.prog 26 #[.agg (ints .u32 m.c), .agg #[.int .i64 6, .int .u32 0]] w fun e W' => e = .returned (.agg (ints .u32 c1)) ∧ Dn w W')
 replace hm1 := Lib.hid hm1
 replace hm2 := Lib.hid hm2
 clear h1 hm' hd
 rw [htt] at n30
 rw [htt] at t0 t1_
 have HTT := Lib.hid htt
 have E1 := Lib.hid (hm1.out).symm
 have E2 := Lib.hid (HT.out tt HTT.out.symm)
 have E3 := Lib.hid (hm2.out).symm
 have D1 := Lib.hid fun w (d : Dn W w) => C1.out w (hm.dn d)
 have D2 := Lib.hid fun w (d : Dn W w) => C2.out w
 have R1 : Hid (Rg [1, 2] [0, 1] [[2], [3]]) := Lib.hid trivial
 have S : Hid (Sw W W []) := Lib.hid (Dn.refl W)
 go_enter Tryz.func19, Tryz.ntmps19
 exact Wr
set_option maxRecDepth 100000 in
set_option maxHeartbeats 2000000 in
theorem rstNH (m : Mc) (W : World) (hm : m.Ok W) (hh : m.h = true) (r : M.SRes) (HC : ∀ w, m.Ok w → Calls Tryz.prog 25 #[.agg (mach m)] w fun e W' => StRet w r e W') :
   Calls Tryz.prog 19 #[.agg (mach m)] W fun e W' => StRet W r e W' := by
 have hl := hm.len
 have hc := hm.core
 have C2 := Lib.hid fun w => fun (ow : m.Ok w) => HC w ow
 clear HC
 have HD := Lib.hid (Dn.refl W)
 go_enter Tryz.func19, Tryz.ntmps19
 go_wp2_with (first | ((with_reducible refine wpList_box (vs := (mach m)) ?_ ?_ ?_); rfl; rfl; intro b_v1 w' nn; refine Hid.out ?_))
 refine Lib.hid ?_
 have d' := nn.dn
 replace HD := hT HD d'
 have v1 := nn.blk
 clear d' nn
 go_wp2_with (first | ((with_reducible refine wpList_alloc zeroMach ?_ ?_); rfl; intro b_v2 w' nn; refine Hid.out ?_))
 refine Lib.hid ?_
 have n_v1_v2 := Lib.hid (nn.ne _ v1.lt)
 have HL_v2 : Hid (W.heap.size ≤ b_v2) := Lib.hid (Blk.hi nn HD.out.size)
 have d' := nn.dn
 replace v1 := v1.dn d'
 replace HD := hT HD d'
 have v2 := nn.blk
 clear d' nn
 go_wp2_with (first | ((with_reducible refine wpList_alloc zeroTrap ?_ ?_); rfl; intro b_v3 w' nn; refine Hid.out ?_))
 refine Lib.hid ?_
 have n_v1_v3 := Lib.hid (nn.ne _ v1.lt)
 have n_v2_v3 := Lib.hid (nn.ne _ v2.lt)
 have HL_v3 : Hid (W.heap.size ≤ b_v3) := Lib.hid (Blk.hi nn HD.out.size)
 have d' := nn.dn
 replace v1 := v1.dn d'
 replace v2 := v2.dn d'
 replace HD := hT HD d'
 have v3 := nn.blk
 clear d' nn
 have ck0 := v1.halted hl
 rw [hh] at ck0
 go_wp2_with (first | ((with_reducible refine load33 v1 hl ?_ ?_ ?_); rfl; rfl) | (go_at_call 25; (with_reducible refine (C2.out _ (hm.dn HD.out)).mono ?_); rintro e w' ⟨m1, rfl, o1, uu, d'⟩; refine Hid.out ?_))
 refine Lib.hid ?_
 clear ck0
 replace v1 := v1.dn d'
 replace v2 := v2.dn d'
 replace v3 := v3.dn d'
 replace HD := hT HD d'
 clear d'
 have l1 := o1.out.len
 have o1 := Lib.hid o1.out
 go_wp2_with (first | ((with_reducible refine store33 m1 l1 v2 zlen ?_ ?_ ?_ ?_); rfl; rfl; rfl; intro w' r' t'; refine Hid.out ?_))
 refine Lib.hid ?_
 replace o1 := Lib.hid (o1.out.trn v2 (NoU8.mach _) t')
 replace v1 := v1.trn t' n_v1_v2.out
 replace v3 := v3.trn t' n_v2_v3.out.symm
 replace HD := Lib.hid (HD.out.trn HL_v2.out t')
 clear t' v2
 have v2 := r'
 clear r'
 go_wp2_with (first | ((with_reducible refine storeTrap (k := r.k) (v := r.v) v3 ?_ ?_ ?_ ?_); rfl; rfl; rfl; intro w' r' t'; refine Hid.out ?_))
 refine Lib.hid ?_
 replace o1 := Lib.hid (o1.out.trn v3 (NoU8.trap _ _) t')
 replace v1 := v1.trn t' n_v1_v3.out
 replace v2 := v2.trn t' n_v2_v3.out
 replace HD := Lib.hid (HD.out.trn HL_v3.out t')
 clear t' v3
 have v3 := r'
 clear r'
 go_wp2_with fail
 exact retMT rfl rfl rfl v2 l1 v3 ⟨m1, rfl, o1, uu, HD.out⟩ rfl
set_option maxRecDepth 100000 in
set_option maxHeartbeats 2000000 in
theorem rstNN (m : Mc) (W : World) (hm : m.Ok W) (hh : m.h = false) (hd : M.due m.c m.t = false) (r : M.SRes) (HC : ∀ w, m.Ok w → Calls Tryz.prog 25 #[.agg (mach m)] w fun e W' => StRet w r e W') :
   Calls Tryz.prog 19 #[.agg (mach m)] W fun e W' => StRet W r e W' := by
 have hl := hm.len
 have hc := hm.core
 have C1 := Lib.hid fun w => fun (ow : m.Ok w) => (by have h := rdue m w ow; rw [hd] at h; exact h : Calls Tryz.prog 24 #[.agg (mach m)] w fun e W' => e = .returned (.bool false) ∧ Dn w W')
 clear hd
 have C2 := Lib.hid fun w => fun (ow : m.Ok w) => HC w ow
 clear HC
 have HD := Lib.hid (Dn.refl W)
 go_enter Tryz.func19, Tryz.ntmps19
 go_wp2_with (first | ((with_reducible refine wpList_box (vs := (mach m)) ?_ ?_ ?_); rfl; rfl; intro b_v1 w' nn; refine Hid.out ?_))
 refine Lib.hid ?_
 have d' := nn.dn
 replace HD := hT HD d'
 have v1 := nn.blk
 clear d' nn
 go_wp2_with (first | ((with_reducible refine wpList_alloc zeroMach ?_ ?_); rfl; intro b_v2 w' nn; refine Hid.out ?_))
 refine Lib.hid ?_
 have n_v1_v2 := Lib.hid (nn.ne _ v1.lt)
 have HL_v2 : Hid (W.heap.size ≤ b_v2) := Lib.hid (Blk.hi nn HD.out.size)
 have d' := nn.dn
 replace v1 := v1.dn d'
 replace HD := hT HD d'
 have v2 := nn.blk
 clear d' nn
 go_wp2_with (first | ((with_reducible refine wpList_alloc zeroTrap ?_ ?_); rfl; intro b_v3 w' nn; refine Hid.out ?_))
 refine Lib.hid ?_
 have n_v1_v3 := Lib.hid (nn.ne _ v1.lt)
 have n_v2_v3 := Lib.hid (nn.ne _ v2.lt)
 have HL_v3 : Hid (W.heap.size ≤ b_v3) := Lib.hid (Blk.hi nn HD.out.size)
 have d' := nn.dn
 replace v1 := v1.dn d'
 replace v2 := v2.dn d'
 replace HD := hT HD d'
 have v3 := nn.blk
 clear d' nn
 have ck0 := v1.halted hl
 rw [hh] at ck0
 go_wp2_with (first | ((with_reducible refine load33 v1 hl ?_ ?_ ?_); rfl; rfl) | (go_at_call 24; (with_reducible refine (C1.out _ (hm.dn HD.out)).mono ?_); rintro e w' ⟨rfl, d'⟩; refine Hid.out ?_))
 refine Lib.hid ?_
 clear ck0
 replace v1 := v1.dn d'
 replace v2 := v2.dn d'
 replace v3 := v3.dn d'
 replace HD := hT HD d'
 clear d'
 go_wp2_with (first | ((with_reducible refine load33 v1 hl ?_ ?_ ?_); rfl; rfl) | (go_at_call 25; (with_reducible refine (C2.out _ (hm.dn HD.out)).mono ?_); rintro e w' ⟨m1, rfl, o1, uu, d'⟩; refine Hid.out ?_))
 refine Lib.hid ?_
 replace v1 := v1.dn d'
 replace v2 := v2.dn d'
 replace v3 := v3.dn d'
 replace HD := hT HD d'
 clear d'
 have l1 := o1.out.len
 have o1 := Lib.hid o1.out
 go_wp2_with (first | ((with_reducible refine store33 m1 l1 v2 zlen ?_ ?_ ?_ ?_); rfl; rfl; rfl; intro w' r' t'; refine Hid.out ?_))
 refine Lib.hid ?_
 replace o1 := Lib.hid (o1.out.trn v2 (NoU8.mach _) t')
 replace v1 := v1.trn t' n_v1_v2.out
 replace v3 := v3.trn t' n_v2_v3.out.symm
 replace HD := Lib.hid (HD.out.trn HL_v2.out t')
 clear t' v2
 have v2 := r'
 clear r'
 go_wp2_with (first | ((with_reducible refine storeTrap (k := r.k) (v := r.v) v3 ?_ ?_ ?_ ?_); rfl; rfl; rfl; intro w' r' t'; refine Hid.out ?_))
 refine Lib.hid ?_
 replace o1 := Lib.hid (o1.out.trn v3 (NoU8.trap _ _) t')
 replace v1 := v1.trn t' n_v1_v3.out
 replace v2 := v2.trn t' n_v2_v3.out
 replace HD := Lib.hid (HD.out.trn HL_v3.out t')
 clear t' v3
 have v3 := r'
 clear r'
 go_wp2_with fail
 exact retMT rfl rfl rfl v2 l1 v3 ⟨m1, rfl, o1, uu, HD.out⟩ rfl

theorem rNow (m : Mc) (W : World) (hm : m.Ok W) (hs : m.xs.length ≤ 100000) :
   Calls Tryz.prog 33 #[.agg (mach m)] W fun e W' => e = .returned (.tuple #[.agg (ins (M.nw Is.M.dOp m.c m.xs) (M.nw Is.M.dRd m.c m.xs) (M.nw Is.M.dRa m.c m.xs) (M.nw Is.M.dRb m.c m.xs) (M.nw Is.M.dImm m.c m.xs)), .agg #[.int .i64 (M.nowK m.c m.xs), .int .u32 (M.nowV m.c m.xs)]]) ∧ Dn W W' := by
 have hw := fw_rng hm
 by_cases hk : M.acz m.c m.xs.length (M.pc m.c) 4 = 0
 · have ev := M.atv_yes hk
   cases hd : Is.M.dok (M.fw m.c m.xs)
   · have e := M.nowK_bad hk hd
     have ne : M.nowK m.c m.xs ≠ 0 := by rw [e.1]; decide
     rw [M.nw_no _ ne, M.nw_no _ ne, M.nw_no _ ne, M.nw_no _ ne, M.nw_no _ ne, e.1, e.2]
     exact rnB m W hm hs _ rfl hk ev hw.1 hw.2 hd
   · cases hp : Is.M.priv (Is.M.dOp (M.fw m.c m.xs))
     · have e := M.nowK_go hk hd (.inl hp)
       rw [M.nw_go _ e.1, M.nw_go _ e.1, M.nw_go _ e.1, M.nw_go _ e.1, M.nw_go _ e.1, e.1, e.2]
       exact rnD1 m W hm hs _ rfl hk ev hw.1 hw.2 _ _ _ _ _ rfl rfl rfl rfl rfl hd hp
     · cases hsu : M.sup m.c
       · have e := M.nowK_priv hk hd hp hsu
         have ne : M.nowK m.c m.xs ≠ 0 := by rw [e.1]; decide
         rw [M.nw_no _ ne, M.nw_no _ ne, M.nw_no _ ne, M.nw_no _ ne, M.nw_no _ ne, e.1, e.2]
         exact rnC m W hm hs _ rfl hk ev hw.1 hw.2 _ _ _ _ _ rfl rfl rfl rfl rfl hd hp hsu
       · have e := M.nowK_go hk hd (.inr hsu)
         rw [M.nw_go _ e.1, M.nw_go _ e.1, M.nw_go _ e.1, M.nw_go _ e.1, M.nw_go _ e.1, e.1, e.2]
         exact rnD2 m W hm hs _ rfl hk ev hw.1 hw.2 _ _ _ _ _ rfl rfl rfl rfl rfl hd hp hsu
 · have e := M.nowK_fetch hk
   have ne : M.nowK m.c m.xs ≠ 0 := by rw [e.1]; exact hk
   rw [M.nw_no _ ne, M.nw_no _ ne, M.nw_no _ ne, M.nw_no _ ne, M.nw_no _ ne, e.1, e.2]
   exact rnA m W hm hs _ _ _ rfl rfl (M.atv_no hk) hk
theorem rDoN (m : Mc) (W : World) (hm : m.Ok W) (hs : m.xs.length ≤ 100000) (w : Int) (hd : Is.M.dok w = true) (hp : Is.M.priv (Is.M.dOp w) = false) (r : M.Res) (hr : M.ex m.c m.xs (Is.M.dOp w) (Is.M.dRd w) (Is.M.dRa w) (Is.M.dRb w) (Is.M.dImm w) = r) :
   Calls Tryz.prog 36 #[.agg (mach m), .agg (ins (Is.M.dOp w) (Is.M.dRd w) (Is.M.dRa w) (Is.M.dRb w) (Is.M.dImm w))] W fun e W' => XeRet W m r.c r.z m.ys m.h r.k r.v e W' := by
 have hi := Is.dImm_rng w
 subst hr
 refine (refDo11 m _ _ _ _ _ W hm hs hi.1 hi.2 (M.dok_ok hd) hp).mono fun e W' h => ?_
 obtain ⟨m1, he, o1, u1, d⟩ := h
 obtain ⟨A, k, rfl⟩ := u1.out
 exact ⟨_, he, o1, Lib.hid ⟨rfl, rfl, rfl, rfl, rfl⟩, d⟩
theorem rDoP (m : Mc) (W : World) (hm : m.Ok W) (hy : m.ys.length ≤ 100000 - 1) (w : Int) (hd : Is.M.dok w = true) (hp : Is.M.priv (Is.M.dOp w) = true) (r : M.PRes) (hr : M.px m.c m.ys m.h m.t (Is.M.dOp w) (Is.M.dRd w) (Is.M.dRa w) (Is.M.dImm w) = r) :
   Calls Tryz.prog 35 #[.agg (mach m), .agg (ins (Is.M.dOp w) (Is.M.dRd w) (Is.M.dRa w) (Is.M.dRb w) (Is.M.dImm w))] W fun e W' => ∃ m1, e = .returned (.agg (mach m1)) ∧ Hid (m1.Ok W') ∧ Hid (m1.c = r.c ∧ m1.xs = m.xs ∧ m1.ys = r.ys ∧ m1.h = r.h ∧ m1.t = m.t) ∧ Dn W W' := by
 have hi := Is.dImm_rng w
 subst hr
 refine (refDo12 m _ _ _ _ _ W hm hi.1 hi.2 hy (stOp (M.dok_ok hd) hp)).mono fun e W' h => ?_
 obtain ⟨m1, he, o1, u1, d⟩ := h
 have p := u1.out
 exact ⟨m1, he, o1, Lib.hid ⟨p.c, p.xs, p.ys, p.h, p.t⟩, d⟩
theorem rPl (m : Mc) (W : World) (hm : m.Ok W) (hs : m.xs.length ≤ 100000) (hy : m.ys.length ≤ 100000 - 1) :
   Calls Tryz.prog 25 #[.agg (mach m)] W fun e W' => StRet W (M.stn m.c m.xs m.ys m.h m.t) e W' := by
 have hc := hm.core
 have hw := fw_rng hm
 cases hh : m.h
 · rw [M.stn_on]
   by_cases hk : M.nowK m.c m.xs = 0
   · have hd := M.nowK_dok hk
     have hv0 := M.nowV_zero hk
     have hcur : ∀ w, m.Ok w → Calls Tryz.prog 33 #[.agg (mach m)] w fun e W' => e = .returned (.tuple #[.agg (ins (Is.M.dOp (M.fw m.c m.xs)) (Is.M.dRd (M.fw m.c m.xs)) (Is.M.dRa (M.fw m.c m.xs)) (Is.M.dRb (M.fw m.c m.xs)) (Is.M.dImm (M.fw m.c m.xs))), .agg #[.int .i64 0, .int .u32 0]]) ∧ Dn w W' := fun w ow => by
       have h := rNow m w ow hs
       rw [M.nw_go _ hk, M.nw_go _ hk, M.nw_go _ hk, M.nw_go _ hk, M.nw_go _ hk, hk, hv0] at h
       exact h
     cases hp : Is.M.priv (Is.M.dOp (M.fw m.c m.xs))
     · rw [M.stp_plain hk hp]
       obtain ⟨r, hr⟩ : ∃ r, M.ex m.c m.xs (Is.M.dOp (M.fw m.c m.xs)) (Is.M.dRd (M.fw m.c m.xs)) (Is.M.dRa (M.fw m.c m.xs)) (Is.M.dRb (M.fw m.c m.xs)) (Is.M.dImm (M.fw m.c m.xs)) = r := ⟨_, rfl⟩
       have e := M.ex_vr m.c m.xs (Is.M.dOp (M.fw m.c m.xs)) (Is.M.dRd (M.fw m.c m.xs)) (Is.M.dRa (M.fw m.c m.xs)) (Is.M.dRb (M.fw m.c m.xs)) (Is.M.dImm (M.fw m.c m.xs))
       have k3 := M.ex_k m.c m.xs (Is.M.dOp (M.fw m.c m.xs)) (Is.M.dRd (M.fw m.c m.xs)) (Is.M.dRa (M.fw m.c m.xs)) (Is.M.dRb (M.fw m.c m.xs)) (Is.M.dImm (M.fw m.c m.xs))
       have kv := @M.ex_v0 m.c m.xs (Is.M.dOp (M.fw m.c m.xs)) (Is.M.dRd (M.fw m.c m.xs)) (Is.M.dRa (M.fw m.c m.xs)) (Is.M.dRb (M.fw m.c m.xs)) (Is.M.dImm (M.fw m.c m.xs))
       have hx := fun w (ow : m.Ok w) => rDoN m w ow hs (M.fw m.c m.xs) hd hp r hr
       rw [hr] at e k3 kv ⊢
       rw [← hh]
       by_cases hrk : r.k = 0
       · have hv := kv hrk
         rw [hrk, hv] at hx ⊢
         exact rplN m W hm hh _ _ _ _ _ _ _ _ _ hp hcur hx
       · exact rplX m W hm hh _ _ (by omega) (by omega) e.1 e.2 hrk _ _ _ _ _ _ _ _ _ hp hcur hx
     · rw [M.stp_priv hk hp, ← hh]
       exact rplP m W hm hh _ _ _ _ _ _ _ _ _ hp hcur (fun w ow => rDoP m w ow hy (M.fw m.c m.xs) hd hp _ rfl)
   · rw [M.stp_trap hk]
     have n := M.nowK_vals m.c m.xs
     have v := M.nowV_rng hc hw
     refine (rplT m W hm hh _ _ (by omega) (by omega) v.1 v.2 hk (fun w ow => ?_) _ rfl).mono fun e W' h => ?_
     · have h := rNow m w ow hs
       rw [M.nw_no _ hk, M.nw_no _ hk, M.nw_no _ hk, M.nw_no _ hk, M.nw_no _ hk] at h
       exact h
     · have o := hm.dn h.2
       exact ⟨_, h.1, Lib.hid ⟨hc.enter v.1 v.2, o.mem, o.out, (M.tick_rng m.t).1, (M.tick_rng m.t).2⟩, Lib.hid ⟨rfl, rfl, rfl, rfl, hh⟩, h.2⟩
 · rw [M.stn_halted]
   refine (rplH m W hm hh).mono fun e W' h => ?_
   exact ⟨_, h.1, Lib.hid (hm.dn h.2), Lib.hid ⟨rfl, rfl, rfl, rfl, hh⟩, h.2⟩
theorem rSt (m : Mc) (W : World) (hm : m.Ok W) (hs : m.xs.length ≤ 100000) (hy : m.ys.length ≤ 100000 - 1) :
   Calls Tryz.prog 19 #[.agg (mach m)] W fun e W' => StRet W (M.stS m.c m.xs m.ys m.h m.t) e W' := by
 have hN : ∀ w, m.Ok w → Calls Tryz.prog 25 #[.agg (mach m)] w fun e W' => StRet w (M.stn m.c m.xs m.ys m.h m.t) e W' := fun w ow => rPl m w ow hs hy
 cases hh : m.h
 · cases hd : M.due m.c m.t
   · rw [M.stS_not hd, ← hh]
     exact rstNN m W hm hh hd _ hN
   · rw [M.stS_due hd]
     refine (rstD m W hm hh hd _ rfl).mono fun e W' h => ?_
     have o := hm.dn h.2
     exact ⟨_, h.1, Lib.hid ⟨hm.core.enter (k := 6) (v := 0) (by decide) (by decide), o.mem, o.out, (M.tick_rng m.t).1, (M.tick_rng m.t).2⟩, Lib.hid ⟨rfl, rfl, rfl, rfl, hh⟩, h.2⟩
 · have e : M.stS m.c m.xs m.ys true m.t = M.stn m.c m.xs m.ys m.h m.t := by rw [hh, M.stS_halted, M.stn_halted]
   rw [e]
   exact rstNH m W hm hh _ hN
end Go.Proofs.YtclpdjpaaagkdaaGreatDoor
