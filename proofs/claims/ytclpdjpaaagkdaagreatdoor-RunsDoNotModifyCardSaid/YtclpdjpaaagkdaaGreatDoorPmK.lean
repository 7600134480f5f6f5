/-
  Contracts over the translated program and the plain facts behind them, of the texts: ExRdA1, ExRdA2. Conditions: those that stand in each theorem.
-/
import Derived.Test.YtclpdjpaaagkdaaGreatDoorPmS
import Derived.Test.YtclpdjpaaagkdaaGreatDoorPmE
import Derived.Test.YtclpdjpaaagkdaaGreatDoorPmX
namespace Go.Proofs.YtclpdjpaaagkdaaGreatDoor
open Go.ChangeShapes Go.WideShapes Go.ChangeAt Go.RowKit Go.Sort
set_option linter.unusedVariables false

set_option maxRecDepth 100000 in
set_option maxHeartbeats 2000000 in
theorem rd1 (m : Mc) (rd ra rb imm x y z u : Int) (W : World) (hm : m.Ok W) (i0 : -2147483648 ≤ imm) (i1 : imm < 2147483648) (hx : M.reg m.c ra = x) (hy : M.reg m.c rb = y) (hz : M.reg m.c rd = z) (hu : M.iw imm = u) (v : Int) (hv : M.ev 1 x y = v) (m' : Mc) (hm' : m' = { m with c := M.adv (M.setreg m.c rd v) 4 }) :
   Calls Tryz.prog 36 #[.agg (mach m), .agg (ins 1 rd ra rb imm)] W fun e W' => e = .returned (.tuple #[.agg (mach m'), .agg #[.int .i64 0, .int .u32 0]]) ∧ Dn W W' := by
 have hl := hm.len
 have hc := hm.core
 have G1 := Lib.hid fun w => (by have h := refGet (m.c.take 16) ra w (take16 hl); rw [M.reg_take m.c hl, hx] at h; exact h : Calls Tryz.prog 49 #[.agg (ints .u32 (m.c.take 16)), .int .i64 ra] w fun e W' => e = .returned (.int .u32 x) ∧ Dn w W')
 have G2 := Lib.hid fun w => (by have h := refGet (m.c.take 16) rb w (take16 hl); rw [M.reg_take m.c hl, hy] at h; exact h : Calls Tryz.prog 49 #[.agg (ints .u32 (m.c.take 16)), .int .i64 rb] w fun e W' => e = .returned (.int .u32 y) ∧ Dn w W')
 have G3 := Lib.hid fun w => (by have h := refGet (m.c.take 16) rd w (take16 hl); rw [M.reg_take m.c hl, hz] at h; exact h : Calls Tryz.prog 49 #[.agg (ints .u32 (m.c.take 16)), .int .i64 rd] w fun e W' => e = .returned (.int .u32 z) ∧ Dn w W')
 have xr : 0 ≤ x ∧ x < 4294967296 := by rw [← hx]; exact M.reg_rng hc _
 have yr : 0 ≤ y ∧ y < 4294967296 := by rw [← hy]; exact M.reg_rng hc _
 have zr : 0 ≤ z ∧ z < 4294967296 := by rw [← hz]; exact M.reg_rng hc _
 have ur : 0 ≤ u ∧ u < 4294967296 := by rw [← hu]; exact M.iw_rng _
 have G4 := Lib.hid (rTimes imm 1 u i0 i1 (by decide) (by decide) (by rw [← hu]; unfold M.iw; omega))
 have hvu := M.U.ev (op := 1) ⟨xr.1, xr.2⟩ ⟨yr.1, yr.2⟩
 rw [hv] at hvu
 have hvr : 0 ≤ v ∧ v < 4294967296 := ⟨hvu.lo, hvu.hi⟩
 have C1 := Lib.hid fun w => (by have h := refDo 1 x y w ⟨xr.1, xr.2⟩ ⟨yr.1, yr.2⟩; rw [hv] at h; exact h : Calls Tryz.prog 56 #[.int .i64 1, .int .u32 x, .int .u32 y] w fun e W' => e = .returned (.int .u32 v) ∧ Dn w W')
 have hl' : m'.c.length = 29 := by rw [hm']; exact ((hc.setreg rd hvr).adv 4).len
 have C2 := Lib.hid fun w => fun (ow : m.Ok w) => rPut m rd v 4 w ow hvr.1 hvr.2 (by decide) (by decide) _ _ rfl rfl m' hm'
 clear hm'
 clear hv
 clear hx hy hz
 have D1 := Lib.hid fun w (d : Dn W w) => G1.out w
 have D2 := Lib.hid fun w (d : Dn W w) => G2.out w
 have D3 := Lib.hid fun w (d : Dn W w) => G3.out w
 have D4 := Lib.hid fun w (d : Dn W w) => G4.out w
 have D5 := Lib.hid fun w (d : Dn W w) => C1.out w
 have D6 := Lib.hid fun w (d : Dn W w) => C2.out w (hm.dn d)
 have R1 : Hid (Rg [1, 2] [0, 1, 2, 3, 4, 5, 6, 7, 8, 9] [[10], [11]]) := Lib.hid trivial
 have S : Hid (Sw W W []) := Lib.hid (Dn.refl W)
 go_enter Tryz.func36, Tryz.ntmps36
 exact Wr
set_option maxRecDepth 100000 in
set_option maxHeartbeats 2000000 in
theorem rd2 (m : Mc) (rd ra rb imm x y z u : Int) (W : World) (hm : m.Ok W) (i0 : -2147483648 ≤ imm) (i1 : imm < 2147483648) (hx : M.reg m.c ra = x) (hy : M.reg m.c rb = y) (hz : M.reg m.c rd = z) (hu : M.iw imm = u) (v : Int) (hv : M.ev 2 x y = v) (m' : Mc) (hm' : m' = { m with c := M.adv (M.setreg m.c rd v) 4 }) :
   Calls Tryz.prog 36 #[.agg (mach m), .agg (ins 2 rd ra rb imm)] W fun e W' => e = .returned (.tuple #[.agg (mach m'), .agg #[.int .i64 0, .int .u32 0]]) ∧ Dn W W' := by
 have hl := hm.len
 have hc := hm.core
 have G1 := Lib.hid fun w => (by have h := refGet (m.c.take 16) ra w (take16 hl); rw [M.reg_take m.c hl, hx] at h; exact h : Calls Tryz.prog 49 #[.agg (ints .u32 (m.c.take 16)), .int .i64 ra] w fun e W' => e = .returned (.int .u32 x) ∧ Dn w W')
 have G2 := Lib.hid fun w => (by have h := refGet (m.c.take 16) rb w (take16 hl); rw [M.reg_take m.c hl, hy] at h; exact h : Calls Tryz.prog 49 #[.agg (ints .u32 (m.c.take 16)), .int .i64 rb] w fun e W' => e = .returned (.int .u32 y) ∧ Dn w W')
 have G3 := Lib.hid fun w => (by have h := refGet (m.c.take 16) rd w (take16 hl); rw [M.reg_take m.c hl, hz] at h; exact h : Calls Tryz.prog 49 #[.agg (ints .u32 (m.c.take 16)), .int .i64 rd] w fun e W' => e = .returned (.int .u32 z) ∧ Dn w W')
 have xr : 0 ≤ x ∧ x < 4294967296 := by rw [← hx]; exact M.reg_rng hc _
 have yr : 0 ≤ y ∧ y < 4294967296 := by rw [← hy]; exact M.reg_rng hc _
 have zr : 0 ≤ z ∧ z < 4294967296 := by rw [← hz]; exact M.reg_rng hc _
 have ur : 0 ≤ u ∧ u < 4294967296 := by rw [← hu]; exact M.iw_rng _
 have G4 := Lib.hid (rTimes imm 1 u i0 i1 (by decide) (by decide) (by rw [← hu]; unfold M.iw; omega))
 have hvu := M.U.ev (op := 2) ⟨xr.1, xr.2⟩ ⟨yr.1, yr.2⟩
 rw [hv] at hvu
 have hvr : 0 ≤ v ∧ v < 4294967296 := ⟨hvu.lo, hvu.hi⟩
 have C1 := Lib.hid fun w => (by have h := refDo 2 x y w ⟨xr.1, xr.2⟩ ⟨yr.1, yr.2⟩; rw [hv] at h; exact h : Calls Tryz.prog 56 #[.int .i64 2, .int .u32 x, .int .u32 y] w fun e W' => e = .returned (.int .u32 v) ∧ Dn w W')
 have hl' : m'.c.length = 29 := by rw [hm']; exact ((hc.setreg rd hvr).adv 4).len
 have C2 := Lib.hid fun w => fun (ow : m.Ok w) => rPut m rd v 4 w ow hvr.1 hvr.2 (by decide) (by decide) _ _ rfl rfl m' hm'
 clear hm'
 clear hv
 clear hx hy hz
 have D1 := Lib.hid fun w (d : Dn W w) => G1.out w
 have D2 := Lib.hid fun w (d : Dn W w) => G2.out w
 have D3 := Lib.hid fun w (d : Dn W w) => G3.out w
 have D4 := Lib.hid fun w (d : Dn W w) => G4.out w
 have D5 := Lib.hid fun w (d : Dn W w) => C1.out w
 have D6 := Lib.hid fun w (d : Dn W w) => C2.out w (hm.dn d)
 have R1 : Hid (Rg [1, 2] [0, 1, 2, 3, 4, 5, 6, 7, 8, 9] [[10], [11]]) := Lib.hid trivial
 have S : Hid (Sw W W []) := Lib.hid (Dn.refl W)
 go_enter Tryz.func36, Tryz.ntmps36
 exact Wr
set_option maxRecDepth 100000 in
set_option maxHeartbeats 2000000 in
theorem rd3 (m : Mc) (rd ra rb imm x y z u : Int) (W : World) (hm : m.Ok W) (i0 : -2147483648 ≤ imm) (i1 : imm < 2147483648) (hx : M.reg m.c ra = x) (hy : M.reg m.c rb = y) (hz : M.reg m.c rd = z) (hu : M.iw imm = u) (v : Int) (hv : M.ev 3 x y = v) (m' : Mc) (hm' : m' = { m with c := M.adv (M.setreg m.c rd v) 4 }) :
   Calls Tryz.prog 36 #[.agg (mach m), .agg (ins 3 rd ra rb imm)] W fun e W' => e = .returned (.tuple #[.agg (mach m'), .agg #[.int .i64 0, .int .u32 0]]) ∧ Dn W W' := by
 have hl := hm.len
 have hc := hm.core
 have G1 := Lib.hid fun w => (by have h := refGet (m.c.take 16) ra w (take16 hl); rw [M.reg_take m.c hl, hx] at h; exact h : Calls Tryz.prog 49 #[.agg (ints .u32 (m.c.take 16)), .int .i64 ra] w fun e W' => e = .returned (.int .u32 x) ∧ Dn w W')
 have G2 := Lib.hid fun w => (by have h := refGet (m.c.take 16) rb w (take16 hl); rw [M.reg_take m.c hl, hy] at h; exact h : Calls Tryz.prog 49 #[.agg (ints .u32 (m.c.take 16)), .int .i64 rb] w fun e W' => e = .returned (.int .u32 y) ∧ Dn w W')
 have G3 := Lib.hid fun w => (by have h := refGet (m.c.take 16) rd w (take16 hl); rw [M.reg_take m.c hl, hz] at h; exact h : Calls Tryz.prog 49 #[.agg (ints .u32 (m.c.take 16)), .int .i64 rd] w fun e W' => e = .returned (.int .u32 z) ∧ Dn w W')
 have xr : 0 ≤ x ∧ x < 4294967296 := by rw [← hx]; exact M.reg_rng hc _
 have yr : 0 ≤ y ∧ y < 4294967296 := by rw [← hy]; exact M.reg_rng hc _
 have zr : 0 ≤ z ∧ z < 4294967296 := by rw [← hz]; exact M.reg_rng hc _
 have ur : 0 ≤ u ∧ u < 4294967296 := by rw [← hu]; exact M.iw_rng _
 have G4 := Lib.hid (rTimes imm 1 u i0 i1 (by decide) (by decide) (by rw [← hu]; unfold M.iw; omega))
 have hvu := M.U.ev (op := 3) ⟨xr.1, xr.2⟩ ⟨yr.1, yr.2⟩
 rw [hv] at hvu
 have hvr : 0 ≤ v ∧ v < 4294967296 := ⟨hvu.lo, hvu.hi⟩
 have C1 := Lib.hid fun w => (by have h := refDo 3 x y w ⟨xr.1, xr.2⟩ ⟨yr.1, yr.2⟩; rw [hv] at h; exact h : Calls Tryz.prog 56 #[.int .i64 3, .int .u32 x, .int .u32 y] w fun e W' => e = .returned (.int .u32 v) ∧ Dn w W')
 have hl' : m'.c.length = 29 := by rw [hm']; exact ((hc.setreg rd hvr).adv 4).len
 have C2 := Lib.hid fun w => fun (ow : m.Ok w) => rPut m rd v 4 w ow hvr.1 hvr.2 (by decide) (by decide) _ _ rfl rfl m' hm'
 clear hm'
 clear hv
 clear hx hy hz
 have D1 := Lib.hid fun w (d : Dn W w) => G1.out w
 have D2 := Lib.hid fun w (d : Dn W w) => G2.out w
 have D3 := Lib.hid fun w (d : Dn W w) => G3.out w
 have D4 := Lib.hid fun w (d : Dn W w) => G4.out w
 have D5 := Lib.hid fun w (d : Dn W w) => C1.out w
 have D6 := Lib.hid fun w (d : Dn W w) => C2.out w (hm.dn d)
 have R1 : Hid (Rg [1, 2] [0, 1, 2, 3, 4, 5, 6, 7, 8, 9] [[10], [11]]) := Lib.hid trivial
 have S : Hid (Sw W W []) := Lib.hid (Dn.refl W)
 go_enter Tryz.func36, Tryz.ntmps36
 exact Wr
set_option maxRecDepth 100000 in
set_option maxHeartbeats 2000000 in
theorem rd4 (m : Mc) (rd ra rb imm x y z u : Int) (W : World) (hm : m.Ok W) (i0 : -2147483648 ≤ imm) (i1 : imm < 2147483648) (hx : M.reg m.c ra = x) (hy : M.reg m.c rb = y) (hz : M.reg m.c rd = z) (hu : M.iw imm = u) (v : Int) (hv : M.ev 4 x y = v) (m' : Mc) (hm' : m' = { m with c := M.adv (M.setreg m.c rd v) 4 }) :
   Calls Tryz.prog 36 #[.agg (mach m), .agg (ins 4 rd ra rb imm)] W fun e W' => e = .returned (.tuple #[.agg (mach m'), .agg #[.int .i64 0, .int .u32 0]]) ∧ Dn W W' := by
 have hl := hm.len
 have hc := hm.core
 have G1 := Lib.hid fun w => (by have h := refGet (m.c.take 16) ra w (take16 hl); rw [M.reg_take m.c hl, hx] at h; exact h : Calls Tryz.prog 49 #[.agg (ints .u32 (m.c.take 16)), .int .i64 ra] w fun e W' => e = .returned (.int .u32 x) ∧ Dn w W')
 have G2 := Lib.hid fun w => (by have h := refGet (m.c.take 16) rb w (take16 hl); rw [M.reg_take m.c hl, hy] at h; exact h : Calls Tryz.prog 49 #[.agg (ints .u32 (m.c.take 16)), .int .i64 rb] w fun e W' => e = .returned (.int .u32 y) ∧ Dn w W')
 have G3 := Lib.hid fun w => (by have h := refGet (m.c.take 16) rd w (take16 hl); rw [M.reg_take m.c hl, hz] at h; exact h : Calls Tryz.prog 49 #[.agg (ints .u32 (m.c.take 16)), .int .i64 rd] w fun e W' => e = .returned (.int .u32 z) ∧ Dn w W')
 have xr : 0 ≤ x ∧ x < 4294967296 := by rw [← hx]; exact M.reg_rng hc _
 have yr : 0 ≤ y ∧ y < 4294967296 := by rw [← hy]; exact M.reg_rng hc _
 have zr : 0 ≤ z ∧ z < 4294967296 := by rw [← hz]; exact M.reg_rng hc _
 have ur : 0 ≤ u ∧ u < 4294967296 := by rw [← hu]; exact M.iw_rng _
 have G4 := Lib.hid (rTimes imm 1 u i0 i1 (by decide) (by decide) (by rw [← hu]; unfold M.iw; omega))
 have hvu := M.U.ev (op := 4) ⟨xr.1, xr.2⟩ ⟨yr.1, yr.2⟩
 rw [hv] at hvu
 have hvr : 0 ≤ v ∧ v < 4294967296 := ⟨hvu.lo, hvu.hi⟩
 have C1 := Lib.hid fun w => (by have h := refDo 4 x y w ⟨xr.1, xr.2⟩ ⟨yr.1, yr.2⟩; rw [hv] at h; exact h : Calls Tryz.prog 56 #[.int .i64 4, .int .u32 x, .int .u32 y] w fun e W' => e = .returned (.int .u32 v) ∧ Dn w W')
 have hl' : m'.c.length = 29 := by rw [hm']; exact ((hc.setreg rd hvr).adv 4).len
 have C2 := Lib.hid fun w => fun (ow : m.Ok w) => rPut m rd v 4 w ow hvr.1 hvr.2 (by decide) (by decide) _ _ rfl rfl m' hm'
 clear hm'
 clear hv
 clear hx hy hz
 have D1 := Lib.hid fun w (d : Dn W w) => G1.out w
 have D2 := Lib.hid fun w (d : Dn W w) => G2.out w
 have D3 := Lib.hid fun w (d : Dn W w) => G3.out w
 have D4 := Lib.hid fun w (d : Dn W w) => G4.out w
 have D5 := Lib.hid fun w (d : Dn W w) => C1.out w
 have D6 := Lib.hid fun w (d : Dn W w) => C2.out w (hm.dn d)
 have R1 : Hid (Rg [1, 2] [0, 1, 2, 3, 4, 5, 6, 7, 8, 9] [[10], [11]]) := Lib.hid trivial
 have S : Hid (Sw W W []) := Lib.hid (Dn.refl W)
 go_enter Tryz.func36, Tryz.ntmps36
 exact Wr

set_option maxRecDepth 100000 in
set_option maxHeartbeats 2000000 in
theorem rd5 (m : Mc) (rd ra rb imm x y z u : Int) (W : World) (hm : m.Ok W) (i0 : -2147483648 ≤ imm) (i1 : imm < 2147483648) (hx : M.reg m.c ra = x) (hy : M.reg m.c rb = y) (hz : M.reg m.c rd = z) (hu : M.iw imm = u) (v : Int) (hv : M.ev 5 x y = v) (m' : Mc) (hm' : m' = { m with c := M.adv (M.setreg m.c rd v) 4 }) :
   Calls Tryz.prog 36 #[.agg (mach m), .agg (ins 5 rd ra rb imm)] W fun e W' => e = .returned (.tuple #[.agg (mach m'), .agg #[.int .i64 0, .int .u32 0]]) ∧ Dn W W' := by
 have hl := hm.len
 have hc := hm.core
 have G1 := Lib.hid fun w => (by have h := refGet (m.c.take 16) ra w (take16 hl); rw [M.reg_take m.c hl, hx] at h; exact h : Calls Tryz.prog 49 #[.agg (ints .u32 (m.c.take 16)), .int .i64 ra] w fun e W' => e = .returned (.int .u32 x) ∧ Dn w W')
 have G2 := Lib.hid fun w => (by have h := refGet (m.c.take 16) rb w (take16 hl); rw [M.reg_take m.c hl, hy] at h; exact h : Calls Tryz.prog 49 #[.agg (ints .u32 (m.c.take 16)), .int .i64 rb] w fun e W' => e = .returned (.int .u32 y) ∧ Dn w W')
 have G3 := Lib.hid fun w => (by have h := refGet (m.c.take 16) rd w (take16 hl); rw [M.reg_take m.c hl, hz] at h; exact h : Calls Tryz.prog 49 #[.agg (ints .u32 (m.c.take 16)), .int .i64 rd] w fun e W' => e = .returned (.int .u32 z) ∧ Dn w W')
 have xr : 0 ≤ x ∧ x < 4294967296 := by rw [← hx]; exact M.reg_rng hc _
 have yr : 0 ≤ y ∧ y < 4294967296 := by rw [← hy]; exact M.reg_rng hc _
 have zr : 0 ≤ z ∧ z < 4294967296 := by rw [← hz]; exact M.reg_rng hc _
 have ur : 0 ≤ u ∧ u < 4294967296 := by rw [← hu]; exact M.iw_rng _
 have G4 := Lib.hid (rTimes imm 1 u i0 i1 (by decide) (by decide) (by rw [← hu]; unfold M.iw; omega))
 have hvu := M.U.ev (op := 5) ⟨xr.1, xr.2⟩ ⟨yr.1, yr.2⟩
 rw [hv] at hvu
 have hvr : 0 ≤ v ∧ v < 4294967296 := ⟨hvu.lo, hvu.hi⟩
 have C1 := Lib.hid fun w => (by have h := refDo 5 x y w ⟨xr.1, xr.2⟩ ⟨yr.1, yr.2⟩; rw [hv] at h; exact h : Calls Tryz.prog 56 #[.int .i64 5, .int .u32 x, .int .u32 y] w fun e W' => e = .returned (.int .u32 v) ∧ Dn w W')
 have hl' : m'.c.length = 29 := by rw [hm']; exact ((hc.setreg rd hvr).adv 4).len
 have C2 := Lib.hid fun w => fun (ow : m.Ok w) => rPut m rd v 4 w ow hvr.1 hvr.2 (by decide) (by decide) _ _ rfl rfl m' hm'
 clear hm'
 clear hv
 clear hx hy hz
 have D1 := Lib.hid fun w (d : Dn W w) => G1.out w
 have D2 := Lib.hid fun w (d : Dn W w) => G2.out w
 have D3 := Lib.hid fun w (d : Dn W w) => G3.out w
 have D4 := Lib.hid fun w (d : Dn W w) => G4.out w
 have D5 := Lib.hid fun w (d : Dn W w) => C1.out w
 have D6 := Lib.hid fun w (d : Dn W w) => C2.out w (hm.dn d)
 have R1 : Hid (Rg [1, 2] [0, 1, 2, 3, 4, 5, 6, 7, 8, 9] [[10], [11]]) := Lib.hid trivial
 have S : Hid (Sw W W []) := Lib.hid (Dn.refl W)
 go_enter Tryz.func36, Tryz.ntmps36
 exact Wr
set_option maxRecDepth 100000 in
set_option maxHeartbeats 2000000 in
theorem rd6 (m : Mc) (rd ra rb imm x y z u : Int) (W : World) (hm : m.Ok W) (i0 : -2147483648 ≤ imm) (i1 : imm < 2147483648) (hx : M.reg m.c ra = x) (hy : M.reg m.c rb = y) (hz : M.reg m.c rd = z) (hu : M.iw imm = u) (v : Int) (hv : M.ev 6 x y = v) (m' : Mc) (hm' : m' = { m with c := M.adv (M.setreg m.c rd v) 4 }) :
   Calls Tryz.prog 36 #[.agg (mach m), .agg (ins 6 rd ra rb imm)] W fun e W' => e = .returned (.tuple #[.agg (mach m'), .agg #[.int .i64 0, .int .u32 0]]) ∧ Dn W W' := by
 have hl := hm.len
 have hc := hm.core
 have G1 := Lib.hid fun w => (by have h := refGet (m.c.take 16) ra w (take16 hl); rw [M.reg_take m.c hl, hx] at h; exact h : Calls Tryz.prog 49 #[.agg (ints .u32 (m.c.take 16)), .int .i64 ra] w fun e W' => e = .returned (.int .u32 x) ∧ Dn w W')
 have G2 := Lib.hid fun w => (by have h := refGet (m.c.take 16) rb w (take16 hl); rw [M.reg_take m.c hl, hy] at h; exact h : Calls Tryz.prog 49 #[.agg (ints .u32 (m.c.take 16)), .int .i64 rb] w fun e W' => e = .returned (.int .u32 y) ∧ Dn w W')
 have G3 := Lib.hid fun w => (by have h := refGet (m.c.take 16) rd w (take16 hl); rw [M.reg_take m.c hl, hz] at h; exact h : Calls Tryz.prog 49 #[.agg (ints .u32 (m.c.take 16)), .int .i64 rd] w fun e W' => e = .returned (.int .u32 z) ∧ Dn w W')
 have xr : 0 ≤ x ∧ x < 4294967296 := by rw [← hx]; exact M.reg_rng hc _
 have yr : 0 ≤ y ∧ y < 4294967296 := by rw [← hy]; exact M.reg_rng hc _
 have zr : 0 ≤ z ∧ z < 4294967296 := by rw [← hz]; exact M.reg_rng hc _
 have ur : 0 ≤ u ∧ u < 4294967296 := by rw [← hu]; exact M.iw_rng _
 have G4 := Lib.hid (rTimes imm 1 u i0 i1 (by decide) (by decide) (by rw [← hu]; unfold M.iw; omega))
 have hvu := M.U.ev (op := 6) ⟨xr.1, xr.2⟩ ⟨yr.1, yr.2⟩
 rw [hv] at hvu
 have hvr : 0 ≤ v ∧ v < 4294967296 := ⟨hvu.lo, hvu.hi⟩
 have C1 := Lib.hid fun w => (by have h := refDo 6 x y w ⟨xr.1, xr.2⟩ ⟨yr.1, yr.2⟩; rw [hv] at h; exact h : Calls Tryz.prog 56 #[.int .i64 6, .int .u32 x, .int .u32 y] w fun e W' => e = .returned (.int .u32 v) ∧ Dn w W')
 have hl' : m'.c.length = 29 := by rw [hm']; exact ((hc.setreg rd hvr).adv 4).len
 have C2 := Lib.hid fun w => fun (ow : m.Ok w) => rPut m rd v 4 w ow hvr.1 hvr.2 (by decide) (by decide) _ _ rfl rfl m' hm'
 clear hm'
 clear hv
 clear hx hy hz
 have D1 := Lib.hid fun w (d : Dn W w) => G1.out w
 have D2 := Lib.hid fun w (d : Dn W w) => G2.out w
 have D3 := Lib.hid fun w (d : Dn W w) => G3.out w
 have D4 := Lib.hid fun w (d : Dn W w) => G4.out w
 have D5 := Lib.hid fun w (d : Dn W w) => C1.out w
 have D6 := Lib.hid fun w (d : Dn W w) => C2.out w (hm.dn d)
 have R1 : Hid (Rg [1, 2] [0, 1, 2, 3, 4, 5, 6, 7, 8, 9] [[10], [11]]) := Lib.hid trivial
 have S : Hid (Sw W W []) := Lib.hid (Dn.refl W)
 go_enter Tryz.func36, Tryz.ntmps36
 exact Wr
set_option maxRecDepth 100000 in
set_option maxHeartbeats 2000000 in
theorem rd7 (m : Mc) (rd ra rb imm x y z u : Int) (W : World) (hm : m.Ok W) (i0 : -2147483648 ≤ imm) (i1 : imm < 2147483648) (hx : M.reg m.c ra = x) (hy : M.reg m.c rb = y) (hz : M.reg m.c rd = z) (hu : M.iw imm = u) (v : Int) (hv : M.ev 7 x y = v) (m' : Mc) (hm' : m' = { m with c := M.adv (M.setreg m.c rd v) 4 }) :
   Calls Tryz.prog 36 #[.agg (mach m), .agg (ins 7 rd ra rb imm)] W fun e W' => e = .returned (.tuple #[.agg (mach m'), .agg #[.int .i64 0, .int .u32 0]]) ∧ Dn W W' := by
 have hl := hm.len
 have hc := hm.core
 have G1 := Lib.hid fun w => (by have h := refGet (m.c.take 16) ra w (take16 hl); rw [M.reg_take m.c hl, hx] at h; exact h : Calls Tryz.prog 49 #[.agg (ints .u32 (m.c.take 16)), .int .i64 ra] w fun e W' => e = .returned (.int .u32 x) ∧ Dn w W')
 have G2 := Lib.hid fun w => (by have h := refGet (m.c.take 16) rb w (take16 hl); rw [M.reg_take m.c hl, hy] at h; exact h : Calls Tryz.prog 49 #[.agg (ints .u32 (m.c.take 16)), .int .i64 rb] w fun e W' => e = .returned (.int .u32 y) ∧ Dn w W')
 have G3 := Lib.hid fun w => (by have h := refGet (m.c.take 16) rd w (take16 hl); rw [M.reg_take m.c hl, hz] at h; exact h : Calls Tryz.prog 49 #[.agg (ints .u32 (m.c.take 16)), .int .i64 rd] w fun e W' => e = .returned (.int .u32 z) ∧ Dn w W')
 have xr : 0 ≤ x ∧ x < 4294967296 := by rw [← hx]; exact M.reg_rng hc _
 have yr : 0 ≤ y ∧ y < 4294967296 := by rw [← hy]; exact M.reg_rng hc _
 have zr : 0 ≤ z ∧ z < 4294967296 := by rw [← hz]; exact M.reg_rng hc _
 have ur : 0 ≤ u ∧ u < 4294967296 := by rw [← hu]; exact M.iw_rng _
 have G4 := Lib.hid (rTimes imm 1 u i0 i1 (by decide) (by decide) (by rw [← hu]; unfold M.iw; omega))
 have hvu := M.U.ev (op := 7) ⟨xr.1, xr.2⟩ ⟨yr.1, yr.2⟩
 rw [hv] at hvu
 have hvr : 0 ≤ v ∧ v < 4294967296 := ⟨hvu.lo, hvu.hi⟩
 have C1 := Lib.hid fun w => (by have h := refDo 7 x y w ⟨xr.1, xr.2⟩ ⟨yr.1, yr.2⟩; rw [hv] at h; exact h : Calls Tryz.prog 56 #[.int .i64 7, .int .u32 x, .int .u32 y] w fun e W' => e = .returned (.int .u32 v) ∧ Dn w W')
 have hl' : m'.c.length = 29 := by rw [hm']; exact ((hc.setreg rd hvr).adv 4).len
 have C2 := Lib.hid fun w => fun (ow : m.Ok w) => rPut m rd v 4 w ow hvr.1 hvr.2 (by decide) (by decide) _ _ rfl rfl m' hm'
 clear hm'
 clear hv
 clear hx hy hz
 have D1 := Lib.hid fun w (d : Dn W w) => G1.out w
 have D2 := Lib.hid fun w (d : Dn W w) => G2.out w
 have D3 := Lib.hid fun w (d : Dn W w) => G3.out w
 have D4 := Lib.hid fun w (d : Dn W w) => G4.out w
 have D5 := Lib.hid fun w (d : Dn W w) => C1.out w
 have D6 := Lib.hid fun w (d : Dn W w) => C2.out w (hm.dn d)
 have R1 : Hid (Rg [1, 2] [0, 1, 2, 3, 4, 5, 6, 7, 8, 9] [[10], [11]]) := Lib.hid trivial
 have S : Hid (Sw W W []) := Lib.hid (Dn.refl W)
 go_enter Tryz.func36, Tryz.ntmps36
 exact Wr
set_option maxRecDepth 100000 in
set_option maxHeartbeats 2000000 in
theorem rd8 (m : Mc) (rd ra rb imm x y z u : Int) (W : World) (hm : m.Ok W) (i0 : -2147483648 ≤ imm) (i1 : imm < 2147483648) (hx : M.reg m.c ra = x) (hy : M.reg m.c rb = y) (hz : M.reg m.c rd = z) (hu : M.iw imm = u) (v : Int) (hv : M.ev 8 x y = v) (m' : Mc) (hm' : m' = { m with c := M.adv (M.setreg m.c rd v) 4 }) :
   Calls Tryz.prog 36 #[.agg (mach m), .agg (ins 8 rd ra rb imm)] W fun e W' => e = .returned (.tuple #[.agg (mach m'), .agg #[.int .i64 0, .int .u32 0]]) ∧ Dn W W' := by
 have hl := hm.len
 have hc := hm.core
 have G1 := Lib.hid fun w => (by have h := refGet (m.c.take 16) ra w (take16 hl); rw [M.reg_take m.c hl, hx] at h; exact h : Calls Tryz.prog 49 #[.agg (ints .u32 (m.c.take 16)), .int .i64 ra] w fun e W' => e = .returned (.int .u32 x) ∧ Dn w W')
 have G2 := Lib.hid fun w => (by have h := refGet (m.c.take 16) rb w (take16 hl); rw [M.reg_take m.c hl, hy] at h; exact h : Calls Tryz.prog 49 #[.agg (ints .u32 (m.c.take 16)), .int .i64 rb] w fun e W' => e = .returned (.int .u32 y) ∧ Dn w W')
 have G3 := Lib.hid fun w => (by have h := refGet (m.c.take 16) rd w (take16 hl); rw [M.reg_take m.c hl, hz] at h; exact h : Calls Tryz.prog 49 #[.agg (ints .u32 (m.c.take 16)), .int .i64 rd] w fun e W' => e = .returned (.int .u32 z) ∧ Dn w W')
 have xr : 0 ≤ x ∧ x < 4294967296 := by rw [← hx]; exact M.reg_rng hc _
 have yr : 0 ≤ y ∧ y < 4294967296 := by rw [← hy]; exact M.reg_rng hc _
 have zr : 0 ≤ z ∧ z < 4294967296 := by rw [← hz]; exact M.reg_rng hc _
 have ur : 0 ≤ u ∧ u < 4294967296 := by rw [← hu]; exact M.iw_rng _
 have G4 := Lib.hid (rTimes imm 1 u i0 i1 (by decide) (by decide) (by rw [← hu]; unfold M.iw; omega))
 have hvu := M.U.ev (op := 8) ⟨xr.1, xr.2⟩ ⟨yr.1, yr.2⟩
 rw [hv] at hvu
 have hvr : 0 ≤ v ∧ v < 4294967296 := ⟨hvu.lo, hvu.hi⟩
 have C1 := Lib.hid fun w => (by have h := refDo 8 x y w ⟨xr.1, xr.2⟩ ⟨yr.1, yr.2⟩; rw [hv] at h; exact h : Calls Tryz.prog 56 #[.int .i64 8, .int .u32 x, .int .u32 y] w fun e W' => e = .returned (.int .u32 v) ∧ Dn w W')
 have hl' : m'.c.length = 29 := by rw [hm']; exact ((hc.setreg rd hvr).adv 4).len
 have C2 := Lib.hid fun w => fun (ow : m.Ok w) => rPut m rd v 4 w ow hvr.1 hvr.2 (by decide) (by decide) _ _ rfl rfl m' hm'
 clear hm'
 clear hv
 clear hx hy hz
 have D1 := Lib.hid fun w (d : Dn W w) => G1.out w
 have D2 := Lib.hid fun w (d : Dn W w) => G2.out w
 have D3 := Lib.hid fun w (d : Dn W w) => G3.out w
 have D4 := Lib.hid fun w (d : Dn W w) => G4.out w
 have D5 := Lib.hid fun w (d : Dn W w) => C1.out w
 have D6 := Lib.hid fun w (d : Dn W w) => C2.out w (hm.dn d)
 have R1 : Hid (Rg [1, 2] [0, 1, 2, 3, 4, 5, 6, 7, 8, 9] [[10], [11]]) := Lib.hid trivial
 have S : Hid (Sw W W []) := Lib.hid (Dn.refl W)
 go_enter Tryz.func36, Tryz.ntmps36
 exact Wr
end Go.Proofs.YtclpdjpaaagkdaaGreatDoor
