/-
  Contracts over the translated program and the plain facts behind them, of the texts: ExRdE, ExRefDo. Conditions: those that stand in each theorem.
-/
import Derived.Test.YtclpdjpaaagkdaaGreatDoorPmS
import Derived.Test.YtclpdjpaaagkdaaGreatDoorPmX
import Derived.Test.YtclpdjpaaagkdaaGreatDoorPmK
import Derived.Test.YtclpdjpaaagkdaaGreatDoorPmL
import Derived.Test.YtclpdjpaaagkdaaGreatDoorPmM
import Derived.Test.YtclpdjpaaagkdaaGreatDoorPmN
import Derived.Test.YtclpdjpaaagkdaaGreatDoorPmV
namespace Go.Proofs.YtclpdjpaaagkdaaGreatDoor
open Go.ChangeShapes Go.WideShapes Go.ChangeAt Go.RowKit Go.Sort
set_option linter.unusedVariables false

set_option maxRecDepth 100000 in
set_option maxHeartbeats 2000000 in
theorem rd18 (m : Mc) (rd ra rb imm x y z u : Int) (W : World) (hm : m.Ok W) (i0 : -2147483648 ≤ imm) (i1 : imm < 2147483648) (hx : M.reg m.c ra = x) (hy : M.reg m.c rb = y) (hz : M.reg m.c rd = z) (hu : M.iw imm = u) (m' : Mc) (hm' : m' = { m with c := M.adv (M.setreg m.c rd (M.nxt m.c)) (M.far imm) }) :
   Calls Tryz.prog 36 #[.agg (mach m), .agg (ins 18 rd ra rb imm)] W fun e W' => e = .returned (.tuple #[.agg (mach m'), .agg #[.int .i64 0, .int .u32 0]]) ∧ Dn W W' := by
 have hl := hm.len
 have hc := hm.core
 have G1 := Lib.hid fun w => (by have h := refGet (m.c.take 16) ra w (take16 hl); rw [M.reg_take m.c hl, hx] at h; exact h : Calls Tryz.prog 49 #[.agg (ints .u32 (m.c.take 16)), .int .i64 ra] w fun e W' => e = .returned (.int .u32 x) ∧ Dn w W')
 have G2 := Lib.hid fun w => (by have h := refGet (m.c.take 16) rb w (take16 hl); rw [M.reg_take m.c hl, hy] at h; exact h : Calls Tryz.prog 49 #[.agg (ints .u32 (m.c.take 16)), .int .i64 rb] w fun e W' => e = .returned (.int .u32 y) ∧ Dn w W')
 have G3 := Lib.hid fun w => (by have h := refGet (m.c.take 16) rd w (take16 hl); rw [M.reg_take m.c hl, hz] at h; exact h : Calls Tryz.prog 49 #[.agg (ints .u32 (m.c.take 16)), .int .i64 rd] w fun e W' => e = .returned (.int .u32 z) ∧ Dn w W')
 have xr : 0 ≤ x ∧ x < 4294967296 := by rw [← hx]; exact M.reg_rng hc _
 have yr : 0 ≤ y ∧ y < 4294967296 := by rw [← hy]; exact M.reg_rng hc _
 have zr : 0 ≤ z ∧ z < 4294967296 := by rw [← hz]; exact M.reg_rng hc _
 have ur : 0 ≤ u ∧ u < 4294967296 := by rw [← hu]; exact M.iw_rng _
 have G4 := Lib.hid (rTimes imm 1 u i0 i1 (by decide) (by decide) (by rw [← hu]; unfold M.iw; omega))
 have p0 := (M.core_pc hc).1
 have p1 := (M.core_pc hc).2
 have hpc : m.c.getD 16 0 = M.pc m.c := rfl
 have hnx : (M.pc m.c + 4) % 4294967296 = M.nxt m.c := rfl
 have nr := M.nxt_rng m.c
 have fr := M.far_rng imm
 have C3 := Lib.hid (rTimes imm 4 (M.far imm) i0 i1 (by decide) (by decide) (by unfold M.far M.iw; omega))
 have hl' : m'.c.length = 29 := by rw [hm']; exact ((hc.setreg rd nr).adv (M.far imm)).len
 have C2 := Lib.hid fun w => fun (ow : m.Ok w) => rPut m rd (M.nxt m.c) (M.far imm) w ow nr.1 nr.2 fr.1 fr.2 _ _ rfl rfl m' hm'
 clear hm'
 rw [← hnx] at C2 nr
 clear hnx
 generalize M.far imm = f at C2 C3 fr
 generalize M.pc m.c = p at hpc p0 p1 C2 nr
 have hwr : IntKind.u32.wrap (p + 4) = (p + 4) % 4294967296 := rfl
 clear hx hy hz
 have D1 := Lib.hid fun w (d : Dn W w) => G1.out w
 have D2 := Lib.hid fun w (d : Dn W w) => G2.out w
 have D3 := Lib.hid fun w (d : Dn W w) => G3.out w
 have D4 := Lib.hid fun w (d : Dn W w) => G4.out w
 have D5 := Lib.hid fun w (d : Dn W w) => C3.out w
 have D6 := Lib.hid fun w (d : Dn W w) => C2.out w (hm.dn d)
 have N1 : wd m.c 16 = _ := hpc
 have R1 : Hid (Rg [1, 2] [0, 1, 2, 3, 4, 5, 6, 7, 8, 9, 10, 11] [[12], [13]]) := Lib.hid trivial
 have S : Hid (Sw W W []) := Lib.hid (Dn.refl W)
 go_enter Tryz.func36, Tryz.ntmps36
 exact Wr
set_option maxRecDepth 100000 in
set_option maxHeartbeats 2000000 in
theorem rd19 (m : Mc) (rd ra rb imm x y z u : Int) (W : World) (hm : m.Ok W) (i0 : -2147483648 ≤ imm) (i1 : imm < 2147483648) (hx : M.reg m.c ra = x) (hy : M.reg m.c rb = y) (hz : M.reg m.c rd = z) (hu : M.iw imm = u) (m' : Mc) (hm' : m' = { m with c := (M.setreg m.c rd (M.nxt m.c)).set 16 ((x + u) % 4294967296) }) :
   Calls Tryz.prog 36 #[.agg (mach m), .agg (ins 19 rd ra rb imm)] W fun e W' => e = .returned (.tuple #[.agg (mach m'), .agg #[.int .i64 0, .int .u32 0]]) ∧ Dn W W' := by
 have hl := hm.len
 have hc := hm.core
 have G1 := Lib.hid fun w => (by have h := refGet (m.c.take 16) ra w (take16 hl); rw [M.reg_take m.c hl, hx] at h; exact h : Calls Tryz.prog 49 #[.agg (ints .u32 (m.c.take 16)), .int .i64 ra] w fun e W' => e = .returned (.int .u32 x) ∧ Dn w W')
 have G2 := Lib.hid fun w => (by have h := refGet (m.c.take 16) rb w (take16 hl); rw [M.reg_take m.c hl, hy] at h; exact h : Calls Tryz.prog 49 #[.agg (ints .u32 (m.c.take 16)), .int .i64 rb] w fun e W' => e = .returned (.int .u32 y) ∧ Dn w W')
 have G3 := Lib.hid fun w => (by have h := refGet (m.c.take 16) rd w (take16 hl); rw [M.reg_take m.c hl, hz] at h; exact h : Calls Tryz.prog 49 #[.agg (ints .u32 (m.c.take 16)), .int .i64 rd] w fun e W' => e = .returned (.int .u32 z) ∧ Dn w W')
 have xr : 0 ≤ x ∧ x < 4294967296 := by rw [← hx]; exact M.reg_rng hc _
 have yr : 0 ≤ y ∧ y < 4294967296 := by rw [← hy]; exact M.reg_rng hc _
 have zr : 0 ≤ z ∧ z < 4294967296 := by rw [← hz]; exact M.reg_rng hc _
 have ur : 0 ≤ u ∧ u < 4294967296 := by rw [← hu]; exact M.iw_rng _
 have G4 := Lib.hid (rTimes imm 1 u i0 i1 (by decide) (by decide) (by rw [← hu]; unfold M.iw; omega))
 have p0 := (M.core_pc hc).1
 have p1 := (M.core_pc hc).2
 have hpc : m.c.getD 16 0 = M.pc m.c := rfl
 have hnx : (M.pc m.c + 4) % 4294967296 = M.nxt m.c := rfl
 have nr := M.nxt_rng m.c
 have hl' : m'.c.length = 29 := by rw [hm']; exact ((hc.setreg rd nr).set _ _ (M.wrap_rng _).1 (M.wrap_rng _).2).len
 obtain ⟨c1, e1⟩ : ∃ c1, M.setreg m.c rd (M.nxt m.c) = c1 := ⟨_, rfl⟩
 have k1 : M.Core c1 := by rw [← e1]; exact hc.setreg rd nr
 obtain ⟨m1, hm1⟩ : ∃ m1 : Mc, m1 = { m with c := c1 } := ⟨_, rfl⟩
 have hl1 : m1.c.length = 29 := by rw [hm1]; exact k1.len
 have ea : M.adv c1 0 = c1 := M.adv_zero k1
 have C2 := Lib.hid fun w => fun (ow : m.Ok w) => rPut m rd (M.nxt m.c) 0 w ow nr.1 nr.2 (by decide) (by decide) c1 c1 e1 ea m1 hm1
 have HX : Hid (({ m1 with c := m1.c.set 16 ((x + u) % 4294967296) } : Mc) = m') := Lib.hid (by rw [hm', hm1, e1])
 clear e1 ea hm1 hm'
 rw [← hnx] at C2 nr
 clear hnx
 generalize M.pc m.c = p at hpc p0 p1 C2 nr
 clear hx hy hz
 have E1 := Lib.hid (HX.out)
 have D1 := Lib.hid fun w (d : Dn W w) => G1.out w
 have D2 := Lib.hid fun w (d : Dn W w) => G2.out w
 have D3 := Lib.hid fun w (d : Dn W w) => G3.out w
 have D4 := Lib.hid fun w (d : Dn W w) => G4.out w
 have D5 := Lib.hid fun w (d : Dn W w) => C2.out w (hm.dn d)
 have N1 : wd m.c 16 = _ := hpc
 have R1 : Hid (Rg [2, 3] [0, 1] [[2], [3]]) := Lib.hid trivial
 have S : Hid (Sw W W []) := Lib.hid (Dn.refl W)
 go_enter Tryz.func36, Tryz.ntmps36
 exact Wr
set_option maxRecDepth 100000 in
set_option maxHeartbeats 2000000 in
theorem rd20 (m : Mc) (rd ra rb imm x y z u : Int) (W : World) (hm : m.Ok W) (i0 : -2147483648 ≤ imm) (i1 : imm < 2147483648) (hx : M.reg m.c ra = x) (hy : M.reg m.c rb = y) (hz : M.reg m.c rd = z) (hu : M.iw imm = u) :
   Calls Tryz.prog 36 #[.agg (mach m), .agg (ins 20 rd ra rb imm)] W fun e W' => e = .returned (.tuple #[.agg (mach m), .agg #[.int .i64 5, .int .u32 0]]) ∧ Dn W W' := by
 have hl := hm.len
 have hc := hm.core
 have G1 := Lib.hid fun w => (by have h := refGet (m.c.take 16) ra w (take16 hl); rw [M.reg_take m.c hl, hx] at h; exact h : Calls Tryz.prog 49 #[.agg (ints .u32 (m.c.take 16)), .int .i64 ra] w fun e W' => e = .returned (.int .u32 x) ∧ Dn w W')
 have G2 := Lib.hid fun w => (by have h := refGet (m.c.take 16) rb w (take16 hl); rw [M.reg_take m.c hl, hy] at h; exact h : Calls Tryz.prog 49 #[.agg (ints .u32 (m.c.take 16)), .int .i64 rb] w fun e W' => e = .returned (.int .u32 y) ∧ Dn w W')
 have G3 := Lib.hid fun w => (by have h := refGet (m.c.take 16) rd w (take16 hl); rw [M.reg_take m.c hl, hz] at h; exact h : Calls Tryz.prog 49 #[.agg (ints .u32 (m.c.take 16)), .int .i64 rd] w fun e W' => e = .returned (.int .u32 z) ∧ Dn w W')
 have xr : 0 ≤ x ∧ x < 4294967296 := by rw [← hx]; exact M.reg_rng hc _
 have yr : 0 ≤ y ∧ y < 4294967296 := by rw [← hy]; exact M.reg_rng hc _
 have zr : 0 ≤ z ∧ z < 4294967296 := by rw [← hz]; exact M.reg_rng hc _
 have ur : 0 ≤ u ∧ u < 4294967296 := by rw [← hu]; exact M.iw_rng _
 have G4 := Lib.hid (rTimes imm 1 u i0 i1 (by decide) (by decide) (by rw [← hu]; unfold M.iw; omega))
 clear hx hy hz
 have D1 := Lib.hid fun w (d : Dn W w) => G1.out w
 have D2 := Lib.hid fun w (d : Dn W w) => G2.out w
 have D3 := Lib.hid fun w (d : Dn W w) => G3.out w
 have D4 := Lib.hid fun w (d : Dn W w) => G4.out w
 have S : Hid (Sw W W []) := Lib.hid (Dn.refl W)
 go_enter Tryz.func36, Tryz.ntmps36
 exact Wr

set_option maxRecDepth 100000 in
set_option maxHeartbeats 2000000 in
theorem refDo11 (m : Mc) (op rd ra rb imm : Int) (W : World) (hm : m.Ok W) (hs : m.xs.length ≤ 100000) (i0 : -2147483648 ≤ imm) (i1 : imm < 2147483648) (hv : Is.M.ok op rd ra rb imm = true) (hp : Is.M.priv op = false) :
   Calls Tryz.prog 36 #[.agg (mach m), .agg (ins op rd ra rb imm)] W fun e W' => ExRet W m (M.ex m.c m.xs op rd ra rb imm) e W' := by
 have hc := hm.core
 have hop : 1 ≤ op ∧ op ≤ 20 := Is.M.plain_op hv hp
 obtain ⟨o1, o2⟩ := hop
 have hall : op = 1 ∨ op = 2 ∨ op = 3 ∨ op = 4 ∨ op = 5 ∨ op = 6 ∨ op = 7 ∨ op = 8 ∨ op = 9 ∨ op = 10 ∨ op = 11 ∨ op = 12 ∨ op = 13 ∨ op = 14 ∨ op = 15 ∨ op = 16 ∨ op = 17 ∨ op = 18 ∨ op = 19 ∨ op = 20 := by omega
 clear o1 o2
 rcases hall with rfl | rfl | rfl | rfl | rfl | rfl | rfl | rfl | rfl | rfl | rfl | rfl | rfl | rfl | rfl | rfl | rfl | rfl | rfl | rfl
 · have hu := M.U.ev (op := 1) (M.U_reg hc ra) (M.U_reg hc rb)
   rw [M.ex_alu _ _ _ _ _ _ _ (by decide)]
   exact (rd1 m rd ra rb imm _ _ _ _ W hm i0 i1 rfl rfl rfl rfl _ rfl _ rfl).mono fun e w' h => ExRet.of hm ((hc.setreg rd ⟨hu.lo, hu.hi⟩).adv 4) rfl h
 · have hu := M.U.ev (op := 2) (M.U_reg hc ra) (M.U_reg hc rb)
   rw [M.ex_alu _ _ _ _ _ _ _ (by decide)]
   exact (rd2 m rd ra rb imm _ _ _ _ W hm i0 i1 rfl rfl rfl rfl _ rfl _ rfl).mono fun e w' h => ExRet.of hm ((hc.setreg rd ⟨hu.lo, hu.hi⟩).adv 4) rfl h
 · have hu := M.U.ev (op := 3) (M.U_reg hc ra) (M.U_reg hc rb)
   rw [M.ex_alu _ _ _ _ _ _ _ (by decide)]
   exact (rd3 m rd ra rb imm _ _ _ _ W hm i0 i1 rfl rfl rfl rfl _ rfl _ rfl).mono fun e w' h => ExRet.of hm ((hc.setreg rd ⟨hu.lo, hu.hi⟩).adv 4) rfl h
 · have hu := M.U.ev (op := 4) (M.U_reg hc ra) (M.U_reg hc rb)
   rw [M.ex_alu _ _ _ _ _ _ _ (by decide)]
   exact (rd4 m rd ra rb imm _ _ _ _ W hm i0 i1 rfl rfl rfl rfl _ rfl _ rfl).mono fun e w' h => ExRet.of hm ((hc.setreg rd ⟨hu.lo, hu.hi⟩).adv 4) rfl h
 · have hu := M.U.ev (op := 5) (M.U_reg hc ra) (M.U_reg hc rb)
   rw [M.ex_alu _ _ _ _ _ _ _ (by decide)]
   exact (rd5 m rd ra rb imm _ _ _ _ W hm i0 i1 rfl rfl rfl rfl _ rfl _ rfl).mono fun e w' h => ExRet.of hm ((hc.setreg rd ⟨hu.lo, hu.hi⟩).adv 4) rfl h
 · have hu := M.U.ev (op := 6) (M.U_reg hc ra) (M.U_reg hc rb)
   rw [M.ex_alu _ _ _ _ _ _ _ (by decide)]
   exact (rd6 m rd ra rb imm _ _ _ _ W hm i0 i1 rfl rfl rfl rfl _ rfl _ rfl).mono fun e w' h => ExRet.of hm ((hc.setreg rd ⟨hu.lo, hu.hi⟩).adv 4) rfl h
 · have hu := M.U.ev (op := 7) (M.U_reg hc ra) (M.U_reg hc rb)
   rw [M.ex_alu _ _ _ _ _ _ _ (by decide)]
   exact (rd7 m rd ra rb imm _ _ _ _ W hm i0 i1 rfl rfl rfl rfl _ rfl _ rfl).mono fun e w' h => ExRet.of hm ((hc.setreg rd ⟨hu.lo, hu.hi⟩).adv 4) rfl h
 · have hu := M.U.ev (op := 8) (M.U_reg hc ra) (M.U_reg hc rb)
   rw [M.ex_alu _ _ _ _ _ _ _ (by decide)]
   exact (rd8 m rd ra rb imm _ _ _ _ W hm i0 i1 rfl rfl rfl rfl _ rfl _ rfl).mono fun e w' h => ExRet.of hm ((hc.setreg rd ⟨hu.lo, hu.hi⟩).adv 4) rfl h
 · rw [M.ex_addi]
   exact (rd9 m rd ra rb imm _ _ _ _ W hm i0 i1 rfl rfl rfl rfl _ rfl).mono fun e w' h => ExRet.of hm ((hc.setreg rd (M.ea_rng _ _ _)).adv 4) rfl h
 · rw [M.ex_lui]
   exact (rd10 m rd ra rb imm _ _ _ _ W hm i0 i1 rfl rfl rfl rfl _ rfl _ rfl).mono fun e w' h => ExRet.of hm ((hc.setreg rd (M.wrap_rng _)).adv 4) rfl h
 · rw [M.ex_lw]
   have hu := alv_rng hm (M.ea m.c ra imm) 4 (by decide) (by decide)
   by_cases hk : M.acz m.c m.xs.length (M.ea m.c ra imm) 4 = 0
   · rw [M.exL_ok _ _ _ hk]
     exact (rd11ok m rd ra rb imm _ _ _ _ W hm i0 i1 rfl rfl rfl rfl hs _ hk rfl hu _ rfl).mono fun e w' h => ExRet.of hm ((hc.setreg rd hu).adv 4) rfl h
   · rw [M.exL_no _ _ _ hk]
     exact (rd11no m rd ra rb imm _ _ _ _ W hm i0 i1 rfl rfl rfl rfl hs _ _ rfl (M.atv_no hk) hk).mono fun e w' h => ExRet.of hm hc rfl h
 · rw [M.ex_sw]
   by_cases hk : M.acz m.c m.xs.length (M.ea m.c ra imm) 4 = 0
   · rw [M.exS_ok _ _ _ hk]
     exact rd12ok m rd ra rb imm _ _ _ _ W hm i0 i1 rfl rfl rfl rfl hs _ hk rfl _ rfl
   · rw [M.exS_no _ _ _ hk]
     exact (rd12no m rd ra rb imm _ _ _ _ W hm i0 i1 rfl rfl rfl rfl hs _ _ rfl (M.atv_no hk) hk).mono fun e w' h => ExRet.of hm hc rfl h
 · rw [M.ex_lb]
   have hu := alv_rng hm (M.ea m.c ra imm) 1 (by decide) (by decide)
   by_cases hk : M.acz m.c m.xs.length (M.ea m.c ra imm) 1 = 0
   · rw [M.exL_ok _ _ _ hk]
     exact (rd13ok m rd ra rb imm _ _ _ _ W hm i0 i1 rfl rfl rfl rfl hs _ hk rfl hu _ rfl).mono fun e w' h => ExRet.of hm ((hc.setreg rd hu).adv 4) rfl h
   · rw [M.exL_no _ _ _ hk]
     exact (rd13no m rd ra rb imm _ _ _ _ W hm i0 i1 rfl rfl rfl rfl hs _ _ rfl (M.atv_no hk) hk).mono fun e w' h => ExRet.of hm hc rfl h
 · rw [M.ex_sb]
   by_cases hk : M.acz m.c m.xs.length (M.ea m.c ra imm) 1 = 0
   · rw [M.exS_ok _ _ _ hk]
     exact rd14ok m rd ra rb imm _ _ _ _ W hm i0 i1 rfl rfl rfl rfl hs _ hk rfl _ rfl
   · rw [M.exS_no _ _ _ hk]
     exact (rd14no m rd ra rb imm _ _ _ _ W hm i0 i1 rfl rfl rfl rfl hs _ _ rfl (M.atv_no hk) hk).mono fun e w' h => ExRet.of hm hc rfl h
 · rw [M.ex_br _ _ _ _ _ _ _ (by decide)]
   cases hk : M.tk 15 (M.reg m.c rd) (M.reg m.c ra)
   · rw [if_neg (by decide)]
     exact (rd15no m rd ra rb imm _ _ _ _ W hm i0 i1 rfl rfl rfl rfl hk _ rfl).mono fun e w' h => ExRet.of hm (hc.adv _) rfl h
   · rw [if_pos rfl]
     exact (rd15yes m rd ra rb imm _ _ _ _ W hm i0 i1 rfl rfl rfl rfl hk _ rfl).mono fun e w' h => ExRet.of hm (hc.adv _) rfl h
 · rw [M.ex_br _ _ _ _ _ _ _ (by decide)]
   cases hk : M.tk 16 (M.reg m.c rd) (M.reg m.c ra)
   · rw [if_neg (by decide)]
     exact (rd16no m rd ra rb imm _ _ _ _ W hm i0 i1 rfl rfl rfl rfl hk _ rfl).mono fun e w' h => ExRet.of hm (hc.adv _) rfl h
   · rw [if_pos rfl]
     exact (rd16yes m rd ra rb imm _ _ _ _ W hm i0 i1 rfl rfl rfl rfl hk _ rfl).mono fun e w' h => ExRet.of hm (hc.adv _) rfl h
 · rw [M.ex_br _ _ _ _ _ _ _ (by decide)]
   cases hk : M.tk 17 (M.reg m.c rd) (M.reg m.c ra)
   · rw [if_neg (by decide)]
     exact (rd17no m rd ra rb imm _ _ _ _ W hm i0 i1 rfl rfl rfl rfl hk _ rfl).mono fun e w' h => ExRet.of hm (hc.adv _) rfl h
   · rw [if_pos rfl]
     exact (rd17yes m rd ra rb imm _ _ _ _ W hm i0 i1 rfl rfl rfl rfl hk _ rfl).mono fun e w' h => ExRet.of hm (hc.adv _) rfl h
 · rw [M.ex_jal]
   exact (rd18 m rd ra rb imm _ _ _ _ W hm i0 i1 rfl rfl rfl rfl _ rfl).mono fun e w' h => ExRet.of hm ((hc.setreg rd (M.nxt_rng _)).adv _) rfl h
 · rw [M.ex_jalr]
   exact (rd19 m rd ra rb imm _ _ _ _ W hm i0 i1 rfl rfl rfl rfl _ rfl).mono fun e w' h => ExRet.of hm ((hc.setreg rd (M.nxt_rng _)).set _ _ (M.ea_rng _ _ _).1 (M.ea_rng _ _ _).2) rfl h
 · rw [M.ex_ecall]
   exact (rd20 m rd ra rb imm _ _ _ _ W hm i0 i1 rfl rfl rfl rfl).mono fun e w' h => ExRet.of hm hc rfl h
end Go.Proofs.YtclpdjpaaagkdaaGreatDoor
