/-
  Contracts over the translated program and the plain facts behind them, of the texts: ExRdB. Conditions: those that stand in each theorem.
-/
import Derived.Test.YtclpdjpaaagkdaaGreatDoorPmS
import Derived.Test.YtclpdjpaaagkdaaGreatDoorPmX
namespace Go.Proofs.YtclpdjpaaagkdaaGreatDoor
open Go.ChangeShapes Go.WideShapes Go.ChangeAt Go.RowKit Go.Sort
set_option linter.unusedVariables false

set_option maxRecDepth 100000 in
set_option maxHeartbeats 2000000 in
theorem rd9 (m : Mc) (rd ra rb imm x y z u : Int) (W : World) (hm : m.Ok W) (i0 : -2147483648 ≤ imm) (i1 : imm < 2147483648) (hx : M.reg m.c ra = x) (hy : M.reg m.c rb = y) (hz : M.reg m.c rd = z) (hu : M.iw imm = u) (m' : Mc) (hm' : m' = { m with c := M.adv (M.setreg m.c rd ((x + u) % 4294967296)) 4 }) :
   Calls Tryz.prog 36 #[.agg (mach m), .agg (ins 9 rd ra rb imm)] W fun e W' => e = .returned (.tuple #[.agg (mach m'), .agg #[.int .i64 0, .int .u32 0]]) ∧ Dn W W' := by
 have hl := hm.len
 have hc := hm.core
 have G1 := Lib.hid fun w => (by have h := refGet (m.c.take 16) ra w (take16 hl); rw [M.reg_take m.c hl, hx] at h; exact h : Calls Tryz.prog 49 #[.agg (ints .u32 (m.c.take 16)), .int .i64 ra] w fun e W' => e = .returned (.int .u32 x) ∧ Dn w W')
 have G2 := Lib.hid fun w => (by have h := refGet (m.c.take 16) rb w (take16 hl); rw [M.reg_take m.c hl, hy] at h; exact h : Calls Tryz.prog 49 #[.agg (ints .u32 (m.c.take 16)), .int .i64 rb] w fun e W' => e = .returned (.int .u32 y) ∧ Dn w W')
 have G3 := Lib.hid fun w => (by have h := refGet (m.c.take 16) rd w (take16 hl); rw [M.reg_take m.c hl, hz] at h; exact h : Calls Tryz.prog 49 #[.agg (ints .u32 (m.c.take 16)), .int .i64 rd] w fun e W' => e = .returned (.int .u32 z) ∧ Dn w W')
 have xr : 0 ≤ x ∧ x < 4294967296 := by rw [← hx]; exact M.reg_rng hc _
 have yr : 0 ≤ y ∧ y < 4294967296 := by rw [← hy]; exact M.reg_rng hc _
 have zr : 0 ≤ z ∧ z < 4294967296 := by rw [← hz]; exact M.reg_rng hc _
 have ur : 0 ≤ u ∧ u < 4294967296 := by rw [← hu]; exact M.iw_rng _
 have G4 := Lib.hid (rTimes imm 1 u i0 i1 (by decide) (by decide) (by rw [← hu]; unfold M.iw; omega))
 have sr : 0 ≤ (x + u) % 4294967296 ∧ (x + u) % 4294967296 < 4294967296 := M.wrap_rng _
 have hl' : m'.c.length = 29 := by rw [hm']; exact ((hc.setreg rd sr).adv 4).len
 have C2 := Lib.hid fun w => fun (ow : m.Ok w) => rPut m rd ((x + u) % 4294967296) 4 w ow sr.1 sr.2 (by decide) (by decide) _ _ rfl rfl m' hm'
 clear hm'
 clear hx hy hz
 have D1 := Lib.hid fun w (d : Dn W w) => G1.out w
 have D2 := Lib.hid fun w (d : Dn W w) => G2.out w
 have D3 := Lib.hid fun w (d : Dn W w) => G3.out w
 have D4 := Lib.hid fun w (d : Dn W w) => G4.out w
 have D5 := Lib.hid fun w (d : Dn W w) => C2.out w (hm.dn d)
 have R1 : Hid (Rg [1, 2] [0, 1, 2, 3, 4, 5] [[6], [7]]) := Lib.hid trivial
 have S : Hid (Sw W W []) := Lib.hid (Dn.refl W)
 go_enter Tryz.func36, Tryz.ntmps36
 exact Wr
set_option maxRecDepth 100000 in
set_option maxHeartbeats 2000000 in
theorem rd10 (m : Mc) (rd ra rb imm x y z u : Int) (W : World) (hm : m.Ok W) (i0 : -2147483648 ≤ imm) (i1 : imm < 2147483648) (hx : M.reg m.c ra = x) (hy : M.reg m.c rb = y) (hz : M.reg m.c rd = z) (hu : M.iw imm = u) (v : Int) (hv : u * 16384 % 4294967296 = v) (m' : Mc) (hm' : m' = { m with c := M.adv (M.setreg m.c rd v) 4 }) :
   Calls Tryz.prog 36 #[.agg (mach m), .agg (ins 10 rd ra rb imm)] W fun e W' => e = .returned (.tuple #[.agg (mach m'), .agg #[.int .i64 0, .int .u32 0]]) ∧ Dn W W' := by
 have hl := hm.len
 have hc := hm.core
 have G1 := Lib.hid fun w => (by have h := refGet (m.c.take 16) ra w (take16 hl); rw [M.reg_take m.c hl, hx] at h; exact h : Calls Tryz.prog 49 #[.agg (ints .u32 (m.c.take 16)), .int .i64 ra] w fun e W' => e = .returned (.int .u32 x) ∧ Dn w W')
 have G2 := Lib.hid fun w => (by have h := refGet (m.c.take 16) rb w (take16 hl); rw [M.reg_take m.c hl, hy] at h; exact h : Calls Tryz.prog 49 #[.agg (ints .u32 (m.c.take 16)), .int .i64 rb] w fun e W' => e = .returned (.int .u32 y) ∧ Dn w W')
 have G3 := Lib.hid fun w => (by have h := refGet (m.c.take 16) rd w (take16 hl); rw [M.reg_take m.c hl, hz] at h; exact h : Calls Tryz.prog 49 #[.agg (ints .u32 (m.c.take 16)), .int .i64 rd] w fun e W' => e = .returned (.int .u32 z) ∧ Dn w W')
 have xr : 0 ≤ x ∧ x < 4294967296 := by rw [← hx]; exact M.reg_rng hc _
 have yr : 0 ≤ y ∧ y < 4294967296 := by rw [← hy]; exact M.reg_rng hc _
 have zr : 0 ≤ z ∧ z < 4294967296 := by rw [← hz]; exact M.reg_rng hc _
 have ur : 0 ≤ u ∧ u < 4294967296 := by rw [← hu]; exact M.iw_rng _
 have G4 := Lib.hid (rTimes imm 1 u i0 i1 (by decide) (by decide) (by rw [← hu]; unfold M.iw; omega))
 have vr : 0 ≤ v ∧ v < 4294967296 := by rw [← hv]; exact M.wrap_rng _
 have C1 := Lib.hid (rTimes imm 16384 v i0 i1 (by decide) (by decide) (by rw [← hv, ← hu]; unfold M.iw; omega))
 have hl' : m'.c.length = 29 := by rw [hm']; exact ((hc.setreg rd vr).adv 4).len
 have C2 := Lib.hid fun w => fun (ow : m.Ok w) => rPut m rd v 4 w ow vr.1 vr.2 (by decide) (by decide) _ _ rfl rfl m' hm'
 clear hm'
 clear hv
 clear hx hy hz
 have D1 := Lib.hid fun w (d : Dn W w) => G1.out w
 have D2 := Lib.hid fun w (d : Dn W w) => G2.out w
 have D3 := Lib.hid fun w (d : Dn W w) => G3.out w
 have D4 := Lib.hid fun w (d : Dn W w) => G4.out w
 have D5 := Lib.hid fun w (d : Dn W w) => C1.out w
 have D6 := Lib.hid fun w (d : Dn W w) => C2.out w (hm.dn d)
 have R1 : Hid (Rg [1, 2] [0, 1, 2, 3, 4, 5, 6, 7] [[8], [9]]) := Lib.hid trivial
 have S : Hid (Sw W W []) := Lib.hid (Dn.refl W)
 go_enter Tryz.func36, Tryz.ntmps36
 exact Wr
set_option maxRecDepth 100000 in
set_option maxHeartbeats 2000000 in
theorem rd11ok (m : Mc) (rd ra rb imm x y z u : Int) (W : World) (hm : m.Ok W) (i0 : -2147483648 ≤ imm) (i1 : imm < 2147483648) (hx : M.reg m.c ra = x) (hy : M.reg m.c rb = y) (hz : M.reg m.c rd = z) (hu : M.iw imm = u) (hs : m.xs.length ≤ 100000) (v : Int) (hk : M.acz m.c m.xs.length ((x + u) % 4294967296) 4 = 0) (hv : M.alv m.c m.xs ((x + u) % 4294967296) 4 = v) (vr : 0 ≤ v ∧ v < 4294967296) (m' : Mc) (hm' : m' = { m with c := M.adv (M.setreg m.c rd v) 4 }) :
   Calls Tryz.prog 36 #[.agg (mach m), .agg (ins 11 rd ra rb imm)] W fun e W' => e = .returned (.tuple #[.agg (mach m'), .agg #[.int .i64 0, .int .u32 0]]) ∧ Dn W W' := by
 have hl := hm.len
 have hc := hm.core
 have G1 := Lib.hid fun w => (by have h := refGet (m.c.take 16) ra w (take16 hl); rw [M.reg_take m.c hl, hx] at h; exact h : Calls Tryz.prog 49 #[.agg (ints .u32 (m.c.take 16)), .int .i64 ra] w fun e W' => e = .returned (.int .u32 x) ∧ Dn w W')
 have G2 := Lib.hid fun w => (by have h := refGet (m.c.take 16) rb w (take16 hl); rw [M.reg_take m.c hl, hy] at h; exact h : Calls Tryz.prog 49 #[.agg (ints .u32 (m.c.take 16)), .int .i64 rb] w fun e W' => e = .returned (.int .u32 y) ∧ Dn w W')
 have G3 := Lib.hid fun w => (by have h := refGet (m.c.take 16) rd w (take16 hl); rw [M.reg_take m.c hl, hz] at h; exact h : Calls Tryz.prog 49 #[.agg (ints .u32 (m.c.take 16)), .int .i64 rd] w fun e W' => e = .returned (.int .u32 z) ∧ Dn w W')
 have xr : 0 ≤ x ∧ x < 4294967296 := by rw [← hx]; exact M.reg_rng hc _
 have yr : 0 ≤ y ∧ y < 4294967296 := by rw [← hy]; exact M.reg_rng hc _
 have zr : 0 ≤ z ∧ z < 4294967296 := by rw [← hz]; exact M.reg_rng hc _
 have ur : 0 ≤ u ∧ u < 4294967296 := by rw [← hu]; exact M.iw_rng _
 have G4 := Lib.hid (rTimes imm 1 u i0 i1 (by decide) (by decide) (by rw [← hu]; unfold M.iw; omega))
 have sr : 0 ≤ (x + u) % 4294967296 ∧ (x + u) % 4294967296 < 4294967296 := M.wrap_rng _
 have C1 := Lib.hid fun w => fun (ow : m.Ok w) => rfload m ((x + u) % 4294967296) 4 w ow hs sr.1 sr.2 (by decide) (by decide) v 0 0 hv hk (M.atv_yes hk)
 have hl' : m'.c.length = 29 := by rw [hm']; exact ((hc.setreg rd vr).adv 4).len
 have C2 := Lib.hid fun w => fun (ow : m.Ok w) => rPut m rd v 4 w ow vr.1 vr.2 (by decide) (by decide) _ _ rfl rfl m' hm'
 clear hm'
 clear hk hv
 clear hx hy hz
 have D1 := Lib.hid fun w (d : Dn W w) => G1.out w
 have D2 := Lib.hid fun w (d : Dn W w) => G2.out w
 have D3 := Lib.hid fun w (d : Dn W w) => G3.out w
 have D4 := Lib.hid fun w (d : Dn W w) => G4.out w
 have D5 := Lib.hid fun w (d : Dn W w) => C1.out w (hm.dn d)
 have D6 := Lib.hid fun w (d : Dn W w) => C2.out w (hm.dn d)
 have R1 : Hid (Rg [2, 3] [0, 1, 2, 3, 4, 5] [[6], [7]]) := Lib.hid trivial
 have S : Hid (Sw W W []) := Lib.hid (Dn.refl W)
 go_enter Tryz.func36, Tryz.ntmps36
 exact Wr
set_option maxRecDepth 100000 in
set_option maxHeartbeats 2000000 in
theorem rd11no (m : Mc) (rd ra rb imm x y z u : Int) (W : World) (hm : m.Ok W) (i0 : -2147483648 ≤ imm) (i1 : imm < 2147483648) (hx : M.reg m.c ra = x) (hy : M.reg m.c rb = y) (hz : M.reg m.c rd = z) (hu : M.iw imm = u) (hs : m.xs.length ≤ 100000) (k v : Int) (hk : M.acz m.c m.xs.length ((x + u) % 4294967296) 4 = k) (hv : M.atv m.c m.xs.length ((x + u) % 4294967296) 4 = v) (hn : k ≠ 0) :
   Calls Tryz.prog 36 #[.agg (mach m), .agg (ins 11 rd ra rb imm)] W fun e W' => e = .returned (.tuple #[.agg (mach m), .agg #[.int .i64 k, .int .u32 v]]) ∧ Dn W W' := by
 have hl := hm.len
 have hc := hm.core
 have G1 := Lib.hid fun w => (by have h := refGet (m.c.take 16) ra w (take16 hl); rw [M.reg_take m.c hl, hx] at h; exact h : Calls Tryz.prog 49 #[.agg (ints .u32 (m.c.take 16)), .int .i64 ra] w fun e W' => e = .returned (.int .u32 x) ∧ Dn w W')
 have G2 := Lib.hid fun w => (by have h := refGet (m.c.take 16) rb w (take16 hl); rw [M.reg_take m.c hl, hy] at h; exact h : Calls Tryz.prog 49 #[.agg (ints .u32 (m.c.take 16)), .int .i64 rb] w fun e W' => e = .returned (.int .u32 y) ∧ Dn w W')
 have G3 := Lib.hid fun w => (by have h := refGet (m.c.take 16) rd w (take16 hl); rw [M.reg_take m.c hl, hz] at h; exact h : Calls Tryz.prog 49 #[.agg (ints .u32 (m.c.take 16)), .int .i64 rd] w fun e W' => e = .returned (.int .u32 z) ∧ Dn w W')
 have xr : 0 ≤ x ∧ x < 4294967296 := by rw [← hx]; exact M.reg_rng hc _
 have yr : 0 ≤ y ∧ y < 4294967296 := by rw [← hy]; exact M.reg_rng hc _
 have zr : 0 ≤ z ∧ z < 4294967296 := by rw [← hz]; exact M.reg_rng hc _
 have ur : 0 ≤ u ∧ u < 4294967296 := by rw [← hu]; exact M.iw_rng _
 have G4 := Lib.hid (rTimes imm 1 u i0 i1 (by decide) (by decide) (by rw [← hu]; unfold M.iw; omega))
 have sr : 0 ≤ (x + u) % 4294967296 ∧ (x + u) % 4294967296 < 4294967296 := M.wrap_rng _
 obtain ⟨l, hll⟩ : ∃ l, M.alv m.c m.xs ((x + u) % 4294967296) 4 = l := ⟨_, rfl⟩
 have C1 := Lib.hid fun w => fun (ow : m.Ok w) => rfload m ((x + u) % 4294967296) 4 w ow hs sr.1 sr.2 (by decide) (by decide) l k v hll hk hv
 have hb : (k != 0) = true := by simpa using hn
 have hb2 : (k == 0) = false := by simpa using hn
 clear hk hv hll hn
 clear hx hy hz
 have D1 := Lib.hid fun w (d : Dn W w) => G1.out w
 have D2 := Lib.hid fun w (d : Dn W w) => G2.out w
 have D3 := Lib.hid fun w (d : Dn W w) => G3.out w
 have D4 := Lib.hid fun w (d : Dn W w) => G4.out w
 have D5 := Lib.hid fun w (d : Dn W w) => C1.out w (hm.dn d)
 have R1 : Hid (Rg [2, 3] [0, 1] [[2], [3]]) := Lib.hid trivial
 have S : Hid (Sw W W []) := Lib.hid (Dn.refl W)
 go_enter Tryz.func36, Tryz.ntmps36
 exact Wr
set_option maxRecDepth 100000 in
set_option maxHeartbeats 2000000 in
theorem rd13ok (m : Mc) (rd ra rb imm x y z u : Int) (W : World) (hm : m.Ok W) (i0 : -2147483648 ≤ imm) (i1 : imm < 2147483648) (hx : M.reg m.c ra = x) (hy : M.reg m.c rb = y) (hz : M.reg m.c rd = z) (hu : M.iw imm = u) (hs : m.xs.length ≤ 100000) (v : Int) (hk : M.acz m.c m.xs.length ((x + u) % 4294967296) 1 = 0) (hv : M.alv m.c m.xs ((x + u) % 4294967296) 1 = v) (vr : 0 ≤ v ∧ v < 4294967296) (m' : Mc) (hm' : m' = { m with c := M.adv (M.setreg m.c rd v) 4 }) :
   Calls Tryz.prog 36 #[.agg (mach m), .agg (ins 13 rd ra rb imm)] W fun e W' => e = .returned (.tuple #[.agg (mach m'), .agg #[.int .i64 0, .int .u32 0]]) ∧ Dn W W' := by
 have hl := hm.len
 have hc := hm.core
 have G1 := Lib.hid fun w => (by have h := refGet (m.c.take 16) ra w (take16 hl); rw [M.reg_take m.c hl, hx] at h; exact h : Calls Tryz.prog 49 #[.agg (ints .u32 (m.c.take 16)), .int .i64 ra] w fun e W' => e = .returned (.int .u32 x) ∧ Dn w W')
 have G2 := Lib.hid fun w => (by have h := refGet (m.c.take 16) rb w (take16 hl); rw [M.reg_take m.c hl, hy] at h; exact h : Calls Tryz.prog 49 #[.agg (ints .u32 (m.c.take 16)), .int .i64 rb] w fun e W' => e = .returned (.int .u32 y) ∧ Dn w W')
 have G3 := Lib.hid fun w => (by have h := refGet (m.c.take 16) rd w (take16 hl); rw [M.reg_take m.c hl, hz] at h; exact h : Calls Tryz.prog 49 #[.agg (ints .u32 (m.c.take 16)), .int .i64 rd] w fun e W' => e = .returned (.int .u32 z) ∧ Dn w W')
 have xr : 0 ≤ x ∧ x < 4294967296 := by rw [← hx]; exact M.reg_rng hc _
 have yr : 0 ≤ y ∧ y < 4294967296 := by rw [← hy]; exact M.reg_rng hc _
 have zr : 0 ≤ z ∧ z < 4294967296 := by rw [← hz]; exact M.reg_rng hc _
 have ur : 0 ≤ u ∧ u < 4294967296 := by rw [← hu]; exact M.iw_rng _
 have G4 := Lib.hid (rTimes imm 1 u i0 i1 (by decide) (by decide) (by rw [← hu]; unfold M.iw; omega))
 have sr : 0 ≤ (x + u) % 4294967296 ∧ (x + u) % 4294967296 < 4294967296 := M.wrap_rng _
 have C1 := Lib.hid fun w => fun (ow : m.Ok w) => rfload m ((x + u) % 4294967296) 1 w ow hs sr.1 sr.2 (by decide) (by decide) v 0 0 hv hk (M.atv_yes hk)
 have hl' : m'.c.length = 29 := by rw [hm']; exact ((hc.setreg rd vr).adv 4).len
 have C2 := Lib.hid fun w => fun (ow : m.Ok w) => rPut m rd v 4 w ow vr.1 vr.2 (by decide) (by decide) _ _ rfl rfl m' hm'
 clear hm'
 clear hk hv
 clear hx hy hz
 have D1 := Lib.hid fun w (d : Dn W w) => G1.out w
 have D2 := Lib.hid fun w (d : Dn W w) => G2.out w
 have D3 := Lib.hid fun w (d : Dn W w) => G3.out w
 have D4 := Lib.hid fun w (d : Dn W w) => G4.out w
 have D5 := Lib.hid fun w (d : Dn W w) => C1.out w (hm.dn d)
 have D6 := Lib.hid fun w (d : Dn W w) => C2.out w (hm.dn d)
 have R1 : Hid (Rg [2, 3] [0, 1, 2, 3, 4, 5] [[6], [7]]) := Lib.hid trivial
 have S : Hid (Sw W W []) := Lib.hid (Dn.refl W)
 go_enter Tryz.func36, Tryz.ntmps36
 exact Wr
set_option maxRecDepth 100000 in
set_option maxHeartbeats 2000000 in
theorem rd13no (m : Mc) (rd ra rb imm x y z u : Int) (W : World) (hm : m.Ok W) (i0 : -2147483648 ≤ imm) (i1 : imm < 2147483648) (hx : M.reg m.c ra = x) (hy : M.reg m.c rb = y) (hz : M.reg m.c rd = z) (hu : M.iw imm = u) (hs : m.xs.length ≤ 100000) (k v : Int) (hk : M.acz m.c m.xs.length ((x + u) % 4294967296) 1 = k) (hv : M.atv m.c m.xs.length ((x + u) % 4294967296) 1 = v) (hn : k ≠ 0) :
   Calls Tryz.prog 36 #[.agg (mach m), .agg (ins 13 rd ra rb imm)] W fun e W' => e = .returned (.tuple #[.agg (mach m), .agg #[.int .i64 k, .int .u32 v]]) ∧ Dn W W' := by
 have hl := hm.len
 have hc := hm.core
 have G1 := Lib.hid fun w => (by have h := refGet (m.c.take 16) ra w (take16 hl); rw [M.reg_take m.c hl, hx] at h; exact h : Calls Tryz.prog 49 #[.agg (ints .u32 (m.c.take 16)), .int .i64 ra] w fun e W' => e = .returned (.int .u32 x) ∧ Dn w W')
 have G2 := Lib.hid fun w => (by have h := refGet (m.c.take 16) rb w (take16 hl); rw [M.reg_take m.c hl, hy] at h; exact h : Calls Tryz.prog 49 #[.agg (ints .u32 (m.c.take 16)), .int .i64 rb] w fun e W' => e = .returned (.int .u32 y) ∧ Dn w W')
 have G3 := Lib.hid fun w => (by have h := refGet (m.c.take 16) rd w (take16 hl); rw [M.reg_take m.c hl, hz] at h; exact h : Calls Tryz.prog 49 #[.agg (ints .u32 (m.c.take 16)), .int .i64 rd] w fun e W' => e = .returned (.int .u32 z) ∧ Dn w W')
 have xr : 0 ≤ x ∧ x < 4294967296 := by rw [← hx]; exact M.reg_rng hc _
 have yr : 0 ≤ y ∧ y < 4294967296 := by rw [← hy]; exact M.reg_rng hc _
 have zr : 0 ≤ z ∧ z < 4294967296 := by rw [← hz]; exact M.reg_rng hc _
 have ur : 0 ≤ u ∧ u < 4294967296 := by rw [← hu]; exact M.iw_rng _
 have G4 := Lib.hid (rTimes imm 1 u i0 i1 (by decide) (by decide) (by rw [← hu]; unfold M.iw; omega))
 have sr : 0 ≤ (x + u) % 4294967296 ∧ (x + u) % 4294967296 < 4294967296 := M.wrap_rng _
 obtain ⟨l, hll⟩ : ∃ l, M.alv m.c m.xs ((x + u) % 4294967296) 1 = l := ⟨_, rfl⟩
 have C1 := Lib.hid fun w => fun (ow : m.Ok w) => rfload m ((x + u) % 4294967296) 1 w ow hs sr.1 sr.2 (by decide) (by decide) l k v hll hk hv
 have hb : (k != 0) = true := by simpa using hn
 have hb2 : (k == 0) = false := by simpa using hn
 clear hk hv hll hn
 clear hx hy hz
 have D1 := Lib.hid fun w (d : Dn W w) => G1.out w
 have D2 := Lib.hid fun w (d : Dn W w) => G2.out w
 have D3 := Lib.hid fun w (d : Dn W w) => G3.out w
 have D4 := Lib.hid fun w (d : Dn W w) => G4.out w
 have D5 := Lib.hid fun w (d : Dn W w) => C1.out w (hm.dn d)
 have R1 : Hid (Rg [2, 3] [0, 1] [[2], [3]]) := Lib.hid trivial
 have S : Hid (Sw W W []) := Lib.hid (Dn.refl W)
 go_enter Tryz.func36, Tryz.ntmps36
 exact Wr
end Go.Proofs.YtclpdjpaaagkdaaGreatDoor
