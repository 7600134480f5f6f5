/-
  Contracts over the translated program and the plain facts behind them, of the texts: ExRdD. Conditions: those that stand in each theorem.
-/
import Derived.Test.YtclpdjpaaagkdaaGreatDoorPmS
import Derived.Test.YtclpdjpaaagkdaaGreatDoorPmE
import Derived.Test.YtclpdjpaaagkdaaGreatDoorPmX
namespace Go.Proofs.YtclpdjpaaagkdaaGreatDoor
open Go.ChangeShapes Go.WideShapes Go.ChangeAt Go.RowKit Go.Sort
set_option linter.unusedVariables false

set_option maxRecDepth 100000 in
set_option maxHeartbeats 2000000 in
theorem rd15yes (m : Mc) (rd ra rb imm x y z u : Int) (W : World) (hm : m.Ok W) (i0 : -2147483648 ≤ imm) (i1 : imm < 2147483648) (hx : M.reg m.c ra = x) (hy : M.reg m.c rb = y) (hz : M.reg m.c rd = z) (hu : M.iw imm = u) (hb : M.tk 15 z x = true) (m' : Mc) (hm' : m' = { m with c := M.adv (M.setreg m.c 0 0) (M.far imm) }) :
   Calls Tryz.prog 36 #[.agg (mach m), .agg (ins 15 rd ra rb imm)] W fun e W' => e = .returned (.tuple #[.agg (mach m'), .agg #[.int .i64 0, .int .u32 0]]) ∧ Dn W W' := by
 have hl := hm.len
 have hc := hm.core
 have G1 := Lib.hid fun w => (by have h := refGet (m.c.take 16) ra w (take16 hl); rw [M.reg_take m.c hl, hx] at h; exact h : Calls Tryz.prog 49 #[.agg (ints .u32 (m.c.take 16)), .int .i64 ra] w fun e W' => e = .returned (.int .u32 x) ∧ Dn w W')
 have G2 := Lib.hid fun w => (by have h := refGet (m.c.take 16) rb w (take16 hl); rw [M.reg_take m.c hl, hy] at h; exact h : Calls Tryz.prog 49 #[.agg (ints .u32 (m.c.take 16)), .int .i64 rb] w fun e W' => e = .returned (.int .u32 y) ∧ Dn w W')
 have G3 := Lib.hid fun w => (by have h := refGet (m.c.take 16) rd w (take16 hl); rw [M.reg_take m.c hl, hz] at h; exact h : Calls Tryz.prog 49 #[.agg (ints .u32 (m.c.take 16)), .int .i64 rd] w fun e W' => e = .returned (.int .u32 z) ∧ Dn w W')
 have xr : 0 ≤ x ∧ x < 4294967296 := by rw [← hx]; exact M.reg_rng hc _
 have yr : 0 ≤ y ∧ y < 4294967296 := by rw [← hy]; exact M.reg_rng hc _
 have zr : 0 ≤ z ∧ z < 4294967296 := by rw [← hz]; exact M.reg_rng hc _
 have ur : 0 ≤ u ∧ u < 4294967296 := by rw [← hu]; exact M.iw_rng _
 have G4 := Lib.hid (rTimes imm 1 u i0 i1 (by decide) (by decide) (by rw [← hu]; unfold M.iw; omega))
 have C1 := Lib.hid fun w => (by have h := refTaken 15 z x w ⟨zr.1, zr.2⟩ ⟨xr.1, xr.2⟩; rw [hb] at h; exact h : Calls Tryz.prog 58 #[.int .i64 15, .int .u32 z, .int .u32 x] w fun e W' => e = .returned (.bool true) ∧ Dn w W')
 have fr := M.far_rng imm
 have C3 := Lib.hid (rTimes imm 4 (M.far imm) i0 i1 (by decide) (by decide) (by unfold M.far M.iw; omega))
 have hl' : m'.c.length = 29 := by rw [hm']; exact ((hc.setreg 0 (⟨by decide, by decide⟩ : (0 : Int) ≤ 0 ∧ (0 : Int) < 4294967296)).adv (M.far imm)).len
 have C2 := Lib.hid fun w => fun (ow : m.Ok w) => rPut m 0 0 (M.far imm) w ow (⟨by decide, by decide⟩ : (0 : Int) ≤ 0 ∧ (0 : Int) < 4294967296).1 (⟨by decide, by decide⟩ : (0 : Int) ≤ 0 ∧ (0 : Int) < 4294967296).2 fr.1 fr.2 _ _ rfl rfl m' hm'
 clear hm'
 generalize M.far imm = f at C2 C3 fr
 clear hb
 clear hx hy hz
 have D1 := Lib.hid fun w (d : Dn W w) => G1.out w
 have D2 := Lib.hid fun w (d : Dn W w) => G2.out w
 have D3 := Lib.hid fun w (d : Dn W w) => G3.out w
 have D4 := Lib.hid fun w (d : Dn W w) => G4.out w
 have D5 := Lib.hid fun w (d : Dn W w) => C1.out w
 have D6 := Lib.hid fun w (d : Dn W w) => C3.out w
 have D7 := Lib.hid fun w (d : Dn W w) => C2.out w (hm.dn d)
 have R1 : Hid (Rg [1, 2] [0, 1, 2, 3, 4, 5] [[6], [7]]) := Lib.hid trivial
 have S : Hid (Sw W W []) := Lib.hid (Dn.refl W)
 go_enter Tryz.func36, Tryz.ntmps36
 exact Wr
set_option maxRecDepth 100000 in
set_option maxHeartbeats 2000000 in
theorem rd15no (m : Mc) (rd ra rb imm x y z u : Int) (W : World) (hm : m.Ok W) (i0 : -2147483648 ≤ imm) (i1 : imm < 2147483648) (hx : M.reg m.c ra = x) (hy : M.reg m.c rb = y) (hz : M.reg m.c rd = z) (hu : M.iw imm = u) (hb : M.tk 15 z x = false) (m' : Mc) (hm' : m' = { m with c := M.adv (M.setreg m.c 0 0) 4 }) :
   Calls Tryz.prog 36 #[.agg (mach m), .agg (ins 15 rd ra rb imm)] W fun e W' => e = .returned (.tuple #[.agg (mach m'), .agg #[.int .i64 0, .int .u32 0]]) ∧ Dn W W' := by
 have hl := hm.len
 have hc := hm.core
 have G1 := Lib.hid fun w => (by have h := refGet (m.c.take 16) ra w (take16 hl); rw [M.reg_take m.c hl, hx] at h; exact h : Calls Tryz.prog 49 #[.agg (ints .u32 (m.c.take 16)), .int .i64 ra] w fun e W' => e = .returned (.int .u32 x) ∧ Dn w W')
 have G2 := Lib.hid fun w => (by have h := refGet (m.c.take 16) rb w (take16 hl); rw [M.reg_take m.c hl, hy] at h; exact h : Calls Tryz.prog 49 #[.agg (ints .u32 (m.c.take 16)), .int .i64 rb] w fun e W' => e = .returned (.int .u32 y) ∧ Dn w W')
 have G3 := Lib.hid fun w => (by have h := refGet (m.c.take 16) rd w (take16 hl); rw [M.reg_take m.c hl, hz] at h; exact h : Calls Tryz.prog 49 #[.agg (ints .u32 (m.c.take 16)), .int .i64 rd] w fun e W' => e = .returned (.int .u32 z) ∧ Dn w W')
 have xr : 0 ≤ x ∧ x < 4294967296 := by rw [← hx]; exact M.reg_rng hc _
 have yr : 0 ≤ y ∧ y < 4294967296 := by rw [← hy]; exact M.reg_rng hc _
 have zr : 0 ≤ z ∧ z < 4294967296 := by rw [← hz]; exact M.reg_rng hc _
 have ur : 0 ≤ u ∧ u < 4294967296 := by rw [← hu]; exact M.iw_rng _
 have G4 := Lib.hid (rTimes imm 1 u i0 i1 (by decide) (by decide) (by rw [← hu]; unfold M.iw; omega))
 have C1 := Lib.hid fun w => (by have h := refTaken 15 z x w ⟨zr.1, zr.2⟩ ⟨xr.1, xr.2⟩; rw [hb] at h; exact h : Calls Tryz.prog 58 #[.int .i64 15, .int .u32 z, .int .u32 x] w fun e W' => e = .returned (.bool false) ∧ Dn w W')
 have hl' : m'.c.length = 29 := by rw [hm']; exact ((hc.setreg 0 (⟨by decide, by decide⟩ : (0 : Int) ≤ 0 ∧ (0 : Int) < 4294967296)).adv 4).len
 have C2 := Lib.hid fun w => fun (ow : m.Ok w) => rPut m 0 0 4 w ow (⟨by decide, by decide⟩ : (0 : Int) ≤ 0 ∧ (0 : Int) < 4294967296).1 (⟨by decide, by decide⟩ : (0 : Int) ≤ 0 ∧ (0 : Int) < 4294967296).2 (by decide) (by decide) _ _ rfl rfl m' hm'
 clear hm'
 clear hb
 clear hx hy hz
 have D1 := Lib.hid fun w (d : Dn W w) => G1.out w
 have D2 := Lib.hid fun w (d : Dn W w) => G2.out w
 have D3 := Lib.hid fun w (d : Dn W w) => G3.out w
 have D4 := Lib.hid fun w (d : Dn W w) => G4.out w
 have D5 := Lib.hid fun w (d : Dn W w) => C1.out w
 have D6 := Lib.hid fun w (d : Dn W w) => C2.out w (hm.dn d)
 have R1 : Hid (Rg [1, 2] [0, 1, 2] [[3], [4]]) := Lib.hid trivial
 have S : Hid (Sw W W []) := Lib.hid (Dn.refl W)
 go_enter Tryz.func36, Tryz.ntmps36
 exact Wr
set_option maxRecDepth 100000 in
set_option maxHeartbeats 2000000 in
theorem rd16yes (m : Mc) (rd ra rb imm x y z u : Int) (W : World) (hm : m.Ok W) (i0 : -2147483648 ≤ imm) (i1 : imm < 2147483648) (hx : M.reg m.c ra = x) (hy : M.reg m.c rb = y) (hz : M.reg m.c rd = z) (hu : M.iw imm = u) (hb : M.tk 16 z x = true) (m' : Mc) (hm' : m' = { m with c := M.adv (M.setreg m.c 0 0) (M.far imm) }) :
   Calls Tryz.prog 36 #[.agg (mach m), .agg (ins 16 rd ra rb imm)] W fun e W' => e = .returned (.tuple #[.agg (mach m'), .agg #[.int .i64 0, .int .u32 0]]) ∧ Dn W W' := by
 have hl := hm.len
 have hc := hm.core
 have G1 := Lib.hid fun w => (by have h := refGet (m.c.take 16) ra w (take16 hl); rw [M.reg_take m.c hl, hx] at h; exact h : Calls Tryz.prog 49 #[.agg (ints .u32 (m.c.take 16)), .int .i64 ra] w fun e W' => e = .returned (.int .u32 x) ∧ Dn w W')
 have G2 := Lib.hid fun w => (by have h := refGet (m.c.take 16) rb w (take16 hl); rw [M.reg_take m.c hl, hy] at h; exact h : Calls Tryz.prog 49 #[.agg (ints .u32 (m.c.take 16)), .int .i64 rb] w fun e W' => e = .returned (.int .u32 y) ∧ Dn w W')
 have G3 := Lib.hid fun w => (by have h := refGet (m.c.take 16) rd w (take16 hl); rw [M.reg_take m.c hl, hz] at h; exact h : Calls Tryz.prog 49 #[.agg (ints .u32 (m.c.take 16)), .int .i64 rd] w fun e W' => e = .returned (.int .u32 z) ∧ Dn w W')
 have xr : 0 ≤ x ∧ x < 4294967296 := by rw [← hx]; exact M.reg_rng hc _
 have yr : 0 ≤ y ∧ y < 4294967296 := by rw [← hy]; exact M.reg_rng hc _
 have zr : 0 ≤ z ∧ z < 4294967296 := by rw [← hz]; exact M.reg_rng hc _
 have ur : 0 ≤ u ∧ u < 4294967296 := by rw [← hu]; exact M.iw_rng _
 have G4 := Lib.hid (rTimes imm 1 u i0 i1 (by decide) (by decide) (by rw [← hu]; unfold M.iw; omega))
 have C1 := Lib.hid fun w => (by have h := refTaken 16 z x w ⟨zr.1, zr.2⟩ ⟨xr.1, xr.2⟩; rw [hb] at h; exact h : Calls Tryz.prog 58 #[.int .i64 16, .int .u32 z, .int .u32 x] w fun e W' => e = .returned (.bool true) ∧ Dn w W')
 have fr := M.far_rng imm
 have C3 := Lib.hid (rTimes imm 4 (M.far imm) i0 i1 (by decide) (by decide) (by unfold M.far M.iw; omega))
 have hl' : m'.c.length = 29 := by rw [hm']; exact ((hc.setreg 0 (⟨by decide, by decide⟩ : (0 : Int) ≤ 0 ∧ (0 : Int) < 4294967296)).adv (M.far imm)).len
 have C2 := Lib.hid fun w => fun (ow : m.Ok w) => rPut m 0 0 (M.far imm) w ow (⟨by decide, by decide⟩ : (0 : Int) ≤ 0 ∧ (0 : Int) < 4294967296).1 (⟨by decide, by decide⟩ : (0 : Int) ≤ 0 ∧ (0 : Int) < 4294967296).2 fr.1 fr.2 _ _ rfl rfl m' hm'
 clear hm'
 generalize M.far imm = f at C2 C3 fr
 clear hb
 clear hx hy hz
 have D1 := Lib.hid fun w (d : Dn W w) => G1.out w
 have D2 := Lib.hid fun w (d : Dn W w) => G2.out w
 have D3 := Lib.hid fun w (d : Dn W w) => G3.out w
 have D4 := Lib.hid fun w (d : Dn W w) => G4.out w
 have D5 := Lib.hid fun w (d : Dn W w) => C1.out w
 have D6 := Lib.hid fun w (d : Dn W w) => C3.out w
 have D7 := Lib.hid fun w (d : Dn W w) => C2.out w (hm.dn d)
 have R1 : Hid (Rg [1, 2] [0, 1, 2, 3, 4, 5] [[6], [7]]) := Lib.hid trivial
 have S : Hid (Sw W W []) := Lib.hid (Dn.refl W)
 go_enter Tryz.func36, Tryz.ntmps36
 exact Wr
set_option maxRecDepth 100000 in
set_option maxHeartbeats 2000000 in
theorem rd16no (m : Mc) (rd ra rb imm x y z u : Int) (W : World) (hm : m.Ok W) (i0 : -2147483648 ≤ imm) (i1 : imm < 2147483648) (hx : M.reg m.c ra = x) (hy : M.reg m.c rb = y) (hz : M.reg m.c rd = z) (hu : M.iw imm = u) (hb : M.tk 16 z x = false) (m' : Mc) (hm' : m' = { m with c := M.adv (M.setreg m.c 0 0) 4 }) :
   Calls Tryz.prog 36 #[.agg (mach m), .agg (ins 16 rd ra rb imm)] W fun e W' => e = .returned (.tuple #[.agg (mach m'), .agg #[.int .i64 0, .int .u32 0]]) ∧ Dn W W' := by
 have hl := hm.len
 have hc := hm.core
 have G1 := Lib.hid fun w => (by have h := refGet (m.c.take 16) ra w (take16 hl); rw [M.reg_take m.c hl, hx] at h; exact h : Calls Tryz.prog 49 #[.agg (ints .u32 (m.c.take 16)), .int .i64 ra] w fun e W' => e = .returned (.int .u32 x) ∧ Dn w W')
 have G2 := Lib.hid fun w => (by have h := refGet (m.c.take 16) rb w (take16 hl); rw [M.reg_take m.c hl, hy] at h; exact h : Calls Tryz.prog 49 #[.agg (ints .u32 (m.c.take 16)), .int .i64 rb] w fun e W' => e = .returned (.int .u32 y) ∧ Dn w W')
 have G3 := Lib.hid fun w => (by have h := refGet (m.c.take 16) rd w (take16 hl); rw [M.reg_take m.c hl, hz] at h; exact h : Calls Tryz.prog 49 #[.agg (ints .u32 (m.c.take 16)), .int .i64 rd] w fun e W' => e = .returned (.int .u32 z) ∧ Dn w W')
 have xr : 0 ≤ x ∧ x < 4294967296 := by rw [← hx]; exact M.reg_rng hc _
 have yr : 0 ≤ y ∧ y < 4294967296 := by rw [← hy]; exact M.reg_rng hc _
 have zr : 0 ≤ z ∧ z < 4294967296 := by rw [← hz]; exact M.reg_rng hc _
 have ur : 0 ≤ u ∧ u < 4294967296 := by rw [← hu]; exact M.iw_rng _
 have G4 := Lib.hid (rTimes imm 1 u i0 i1 (by decide) (by decide) (by rw [← hu]; unfold M.iw; omega))
 have C1 := Lib.hid fun w => (by have h := refTaken 16 z x w ⟨zr.1, zr.2⟩ ⟨xr.1, xr.2⟩; rw [hb] at h; exact h : Calls Tryz.prog 58 #[.int .i64 16, .int .u32 z, .int .u32 x] w fun e W' => e = .returned (.bool false) ∧ Dn w W')
 have hl' : m'.c.length = 29 := by rw [hm']; exact ((hc.setreg 0 (⟨by decide, by decide⟩ : (0 : Int) ≤ 0 ∧ (0 : Int) < 4294967296)).adv 4).len
 have C2 := Lib.hid fun w => fun (ow : m.Ok w) => rPut m 0 0 4 w ow (⟨by decide, by decide⟩ : (0 : Int) ≤ 0 ∧ (0 : Int) < 4294967296).1 (⟨by decide, by decide⟩ : (0 : Int) ≤ 0 ∧ (0 : Int) < 4294967296).2 (by decide) (by decide) _ _ rfl rfl m' hm'
 clear hm'
 clear hb
 clear hx hy hz
 have D1 := Lib.hid fun w (d : Dn W w) => G1.out w
 have D2 := Lib.hid fun w (d : Dn W w) => G2.out w
 have D3 := Lib.hid fun w (d : Dn W w) => G3.out w
 have D4 := Lib.hid fun w (d : Dn W w) => G4.out w
 have D5 := Lib.hid fun w (d : Dn W w) => C1.out w
 have D6 := Lib.hid fun w (d : Dn W w) => C2.out w (hm.dn d)
 have R1 : Hid (Rg [1, 2] [0, 1, 2] [[3], [4]]) := Lib.hid trivial
 have S : Hid (Sw W W []) := Lib.hid (Dn.refl W)
 go_enter Tryz.func36, Tryz.ntmps36
 exact Wr
set_option maxRecDepth 100000 in
set_option maxHeartbeats 2000000 in
theorem rd17yes (m : Mc) (rd ra rb imm x y z u : Int) (W : World) (hm : m.Ok W) (i0 : -2147483648 ≤ imm) (i1 : imm < 2147483648) (hx : M.reg m.c ra = x) (hy : M.reg m.c rb = y) (hz : M.reg m.c rd = z) (hu : M.iw imm = u) (hb : M.tk 17 z x = true) (m' : Mc) (hm' : m' = { m with c := M.adv (M.setreg m.c 0 0) (M.far imm) }) :
   Calls Tryz.prog 36 #[.agg (mach m), .agg (ins 17 rd ra rb imm)] W fun e W' => e = .returned (.tuple #[.agg (mach m'), .agg #[.int .i64 0, .int .u32 0]]) ∧ Dn W W' := by
 have hl := hm.len
 have hc := hm.core
 have G1 := Lib.hid fun w => (by have h := refGet (m.c.take 16) ra w (take16 hl); rw [M.reg_take m.c hl, hx] at h; exact h : Calls Tryz.prog 49 #[.agg (ints .u32 (m.c.take 16)), .int .i64 ra] w fun e W' => e = .returned (.int .u32 x) ∧ Dn w W')
 have G2 := Lib.hid fun w => (by have h := refGet (m.c.take 16) rb w (take16 hl); rw [M.reg_take m.c hl, hy] at h; exact h : Calls Tryz.prog 49 #[.agg (ints .u32 (m.c.take 16)), .int .i64 rb] w fun e W' => e = .returned (.int .u32 y) ∧ Dn w W')
 have G3 := Lib.hid fun w => (by have h := refGet (m.c.take 16) rd w (take16 hl); rw [M.reg_take m.c hl, hz] at h; exact h : Calls Tryz.prog 49 #[.agg (ints .u32 (m.c.take 16)), .int .i64 rd] w fun e W' => e = .returned (.int .u32 z) ∧ Dn w W')
 have xr : 0 ≤ x ∧ x < 4294967296 := by rw [← hx]; exact M.reg_rng hc _
 have yr : 0 ≤ y ∧ y < 4294967296 := by rw [← hy]; exact M.reg_rng hc _
 have zr : 0 ≤ z ∧ z < 4294967296 := by rw [← hz]; exact M.reg_rng hc _
 have ur : 0 ≤ u ∧ u < 4294967296 := by rw [← hu]; exact M.iw_rng _
 have G4 := Lib.hid (rTimes imm 1 u i0 i1 (by decide) (by decide) (by rw [← hu]; unfold M.iw; omega))
 have C1 := Lib.hid fun w => (by have h := refTaken 17 z x w ⟨zr.1, zr.2⟩ ⟨xr.1, xr.2⟩; rw [hb] at h; exact h : Calls Tryz.prog 58 #[.int .i64 17, .int .u32 z, .int .u32 x] w fun e W' => e = .returned (.bool true) ∧ Dn w W')
 have fr := M.far_rng imm
 have C3 := Lib.hid (rTimes imm 4 (M.far imm) i0 i1 (by decide) (by decide) (by unfold M.far M.iw; omega))
 have hl' : m'.c.length = 29 := by rw [hm']; exact ((hc.setreg 0 (⟨by decide, by decide⟩ : (0 : Int) ≤ 0 ∧ (0 : Int) < 4294967296)).adv (M.far imm)).len
 have C2 := Lib.hid fun w => fun (ow : m.Ok w) => rPut m 0 0 (M.far imm) w ow (⟨by decide, by decide⟩ : (0 : Int) ≤ 0 ∧ (0 : Int) < 4294967296).1 (⟨by decide, by decide⟩ : (0 : Int) ≤ 0 ∧ (0 : Int) < 4294967296).2 fr.1 fr.2 _ _ rfl rfl m' hm'
 clear hm'
 generalize M.far imm = f at C2 C3 fr
 clear hb
 clear hx hy hz
 have D1 := Lib.hid fun w (d : Dn W w) => G1.out w
 have D2 := Lib.hid fun w (d : Dn W w) => G2.out w
 have D3 := Lib.hid fun w (d : Dn W w) => G3.out w
 have D4 := Lib.hid fun w (d : Dn W w) => G4.out w
 have D5 := Lib.hid fun w (d : Dn W w) => C1.out w
 have D6 := Lib.hid fun w (d : Dn W w) => C3.out w
 have D7 := Lib.hid fun w (d : Dn W w) => C2.out w (hm.dn d)
 have R1 : Hid (Rg [1, 2] [0, 1, 2, 3, 4, 5] [[6], [7]]) := Lib.hid trivial
 have S : Hid (Sw W W []) := Lib.hid (Dn.refl W)
 go_enter Tryz.func36, Tryz.ntmps36
 exact Wr
set_option maxRecDepth 100000 in
set_option maxHeartbeats 2000000 in
theorem rd17no (m : Mc) (rd ra rb imm x y z u : Int) (W : World) (hm : m.Ok W) (i0 : -2147483648 ≤ imm) (i1 : imm < 2147483648) (hx : M.reg m.c ra = x) (hy : M.reg m.c rb = y) (hz : M.reg m.c rd = z) (hu : M.iw imm = u) (hb : M.tk 17 z x = false) (m' : Mc) (hm' : m' = { m with c := M.adv (M.setreg m.c 0 0) 4 }) :
   Calls Tryz.prog 36 #[.agg (mach m), .agg (ins 17 rd ra rb imm)] W fun e W' => e = .returned (.tuple #[.agg (mach m'), .agg #[.int .i64 0, .int .u32 0]]) ∧ Dn W W' := by
 have hl := hm.len
 have hc := hm.core
 have G1 := Lib.hid fun w => (by have h := refGet (m.c.take 16) ra w (take16 hl); rw [M.reg_take m.c hl, hx] at h; exact h : Calls Tryz.prog 49 #[.agg (ints .u32 (m.c.take 16)), .int .i64 ra] w fun e W' => e = .returned (.int .u32 x) ∧ Dn w W')
 have G2 := Lib.hid fun w => (by have h := refGet (m.c.take 16) rb w (take16 hl); rw [M.reg_take m.c hl, hy] at h; exact h : Calls Tryz.prog 49 #[.agg (ints .u32 (m.c.take 16)), .int .i64 rb] w fun e W' => e = .returned (.int .u32 y) ∧ Dn w W')
 have G3 := Lib.hid fun w => (by have h := refGet (m.c.take 16) rd w (take16 hl); rw [M.reg_take m.c hl, hz] at h; exact h : Calls Tryz.prog 49 #[.agg (ints .u32 (m.c.take 16)), .int .i64 rd] w fun e W' => e = .returned (.int .u32 z) ∧ Dn w W')
 have xr : 0 ≤ x ∧ x < 4294967296 := by rw [← hx]; exact M.reg_rng hc _
 have yr : 0 ≤ y ∧ y < 4294967296 := by rw [← hy]; exact M.reg_rng hc _
 have zr : 0 ≤ z ∧ z < 4294967296 := by rw [← hz]; exact M.reg_rng hc _
 have ur : 0 ≤ u ∧ u < 4294967296 := by rw [← hu]; exact M.iw_rng _
 have G4 := Lib.hid (rTimes imm 1 u i0 i1 (by decide) (by decide) (by rw [← hu]; unfold M.iw; omega))
 have C1 := Lib.hid fun w => (by have h := refTaken 17 z x w ⟨zr.1, zr.2⟩ ⟨xr.1, xr.2⟩; rw [hb] at h; exact h : Calls Tryz.prog 58 #[.int .i64 17, .int .u32 z, .int .u32 x] w fun e W' => e = .returned (.bool false) ∧ Dn w W')
 have hl' : m'.c.length = 29 := by rw [hm']; exact ((hc.setreg 0 (⟨by decide, by decide⟩ : (0 : Int) ≤ 0 ∧ (0 : Int) < 4294967296)).adv 4).len
 have C2 := Lib.hid fun w => fun (ow : m.Ok w) => rPut m 0 0 4 w ow (⟨by decide, by decide⟩ : (0 : Int) ≤ 0 ∧ (0 : Int) < 4294967296).1 (⟨by decide, by decide⟩ : (0 : Int) ≤ 0 ∧ (0 : Int) < 4294967296).2 (by decide) (by decide) _ _ rfl rfl m' hm'
 clear hm'
 clear hb
 clear hx hy hz
 have D1 := Lib.hid fun w (d : Dn W w) => G1.out w
 have D2 := Lib.hid fun w (d : Dn W w) => G2.out w
 have D3 := Lib.hid fun w (d : Dn W w) => G3.out w
 have D4 := Lib.hid fun w (d : Dn W w) => G4.out w
 have D5 := Lib.hid fun w (d : Dn W w) => C1.out w
 have D6 := Lib.hid fun w (d : Dn W w) => C2.out w (hm.dn d)
 have R1 : Hid (Rg [1, 2] [0, 1, 2] [[3], [4]]) := Lib.hid trivial
 have S : Hid (Sw W W []) := Lib.hid (Dn.refl W)
 go_enter Tryz.func36, Tryz.ntmps36
 exact Wr
end Go.Proofs.YtclpdjpaaagkdaaGreatDoor
