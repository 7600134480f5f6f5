/-
  Contracts over the translated program and the plain facts behind them, of the texts: ExDo, ExRefDo, ExLaw, ExAwake. Conditions: those that stand in each theorem.
-/
import Derived.Test.YthkhahfhbhgfhaaDoorPkF
import Derived.Test.YthkhahfhbhgfhaaDoorPkH
import Derived.Test.YthkhahfhbhgfhaaDoorPkK
import Derived.Test.YthkhahfhbhgfhaaDoorPkL
import Derived.Test.YthkhahfhbhgfhaaDoorPkM
import Derived.Test.YthkhahfhbhgfhaaDoorPkN
import Derived.Test.YthkhahfhbhgfhaaDoorPkO
import Derived.Test.YthkhahfhbhgfhaaDoorPkR
import Derived.Test.YthkhahfhbhgfhaaDoorPkA
namespace Go.Proofs.YthkhahfhbhgfhaaDoor
open Go.ChangeShapes Go.WideShapes Go.ChangeAt Go.RowKit Go.Sort
set_option linter.unusedVariables false

theorem index_ops (b k : Nat) (hk : k < 26) (v : Value) (hv : (opsOf b)[k]? = some v) (u : World) : (Instr.index 52 (.agg (opsOf b)) (.int .i64 (k : Int))).run Tryd.prog u = .ok v u := by
  have hi : (Tryd.prog.info? 51).map (·.size) = some 1 := by kernel_rfl
  have hs : (sizeOf 51).run Tryd.prog u = .ok 1 u := by
    cases hq : Tryd.prog.info? 51 with
    | none => rw [hq] at hi; cases hi
    | some i => rw [hq] at hi; simp only [Option.map_some, Option.some.injEq] at hi; simp [sizeOf, typeInfo, hq, hi]
  unfold Instr.index
  simp [go_sem, asIntOf, run_underlying Tryd.underlying52, run_underlying Tryd.underlying51, part, isAgg, hs, hv]
  omega
theorem Core_adv {c : List Int} (h : M.Core c) (d : Int) : M.Core (M.adv c d) := h.adv d
theorem sum_hid (c : List Int) (ra imm : Int) : Hid ((M.reg c ra + M.iw imm) % 4294967296 = M.ea c ra imm) := Lib.hid rfl
theorem alv_rng {w : World} {m : Mc} (hm : m.Ok w) (a n : Int) (n0 : 1 ≤ n) (n1 : n ≤ 4) : 0 ≤ M.alv m.c m.xs a n ∧ M.alv m.c m.xs a n < 4294967296 := by
  unfold M.alv
  split
  · unfold M.ld
    split
    · have hb : M.By (M.rd m.xs (M.ub m.c + a).toNat n.toNat) := fun x hx => hm.mem.2.1 x (by unfold M.rd at hx; exact List.mem_of_mem_drop (List.mem_of_mem_take hx))
      have h := M.leval_range hb
      have hl : (M.rd m.xs (M.ub m.c + a).toNat n.toNat).length ≤ 4 := by
        unfold M.rd
        rw [List.length_take]
        omega
      generalize (M.rd m.xs (M.ub m.c + a).toNat n.toNat).length = l at h hl
      refine ⟨h.1, Int.lt_of_lt_of_le h.2 ?_⟩
      rcases (by omega : l = 0 ∨ l = 1 ∨ l = 2 ∨ l = 3 ∨ l = 4) with rfl | rfl | rfl | rfl | rfl <;> decide
    · decide
  · decide
set_option maxRecDepth 100000 in
set_option maxHeartbeats 2000000 in
theorem xExec (m : Mc) (op rd ra rb imm : Int) (W : World) (hm : m.Ok W) (hs : m.xs.length ≤ 100000) (T : Is.Tabs W) (i0 : -2147483648 ≤ imm) (i1 : imm < 2147483648) (hv : Is.M.ok op rd ra rb imm = true) (hp : Is.M.priv op = false) :
    Calls Tryd.prog 12 #[.agg (mach m), .agg (ins op rd ra rb imm)] W fun e W' => ExRet W m (M.ex m.c m.xs op rd ra rb imm) e W' := by
  have hc := hm.core
  have hx := M.reg_rng hc ra
  have hy := M.reg_rng hc rb
  have hz := M.reg_rng hc rd
  have he := M.ea_rng m.c ra imm
  have hop : 1 ≤ op ∧ op ≤ 20 := Is.M.plain_op hv hp
  obtain ⟨o1, o2⟩ := hop
  have hall : op = 1 ∨ op = 2 ∨ op = 3 ∨ op = 4 ∨ op = 5 ∨ op = 6 ∨ op = 7 ∨ op = 8 ∨ op = 9 ∨ op = 10 ∨ op = 11 ∨ op = 12 ∨ op = 13 ∨ op = 14 ∨ op = 15 ∨ op = 16 ∨ op = 17 ∨ op = 18 ∨ op = 19 ∨ op = 20 := by omega
  clear o1 o2
  rcases hall with rfl | rfl | rfl | rfl | rfl | rfl | rfl | rfl | rfl | rfl | rfl | rfl | rfl | rfl | rfl | rfl | rfl | rfl | rfl | rfl
  · refine exBy m 1 rd ra rb imm W hm T i0 i1 hv hp 42 (fun b u => by go_simp) _ (fun b u => index_ops b 1 (by decide) _ rfl u) fun w b g ow => ?_
    have hu := M.U.ev (op := 1) (M.U_reg hc ra) (M.U_reg hc rb)
    rw [M.ex_alu _ _ _ _ _ _ _ (by decide)]
    exact (xCompute m 1 rd ra rb imm _ _ _ b w g ow _ hx.1 hx.2 hy.1 hy.2 rfl hu.lo hu.hi _ rfl).mono fun e w' h => ExRet.of ow ((hc.setreg rd ⟨hu.lo, hu.hi⟩).adv 4) rfl h
  · refine exBy m 2 rd ra rb imm W hm T i0 i1 hv hp 42 (fun b u => by go_simp) _ (fun b u => index_ops b 2 (by decide) _ rfl u) fun w b g ow => ?_
    have hu := M.U.ev (op := 2) (M.U_reg hc ra) (M.U_reg hc rb)
    rw [M.ex_alu _ _ _ _ _ _ _ (by decide)]
    exact (xCompute m 2 rd ra rb imm _ _ _ b w g ow _ hx.1 hx.2 hy.1 hy.2 rfl hu.lo hu.hi _ rfl).mono fun e w' h => ExRet.of ow ((hc.setreg rd ⟨hu.lo, hu.hi⟩).adv 4) rfl h
  · refine exBy m 3 rd ra rb imm W hm T i0 i1 hv hp 42 (fun b u => by go_simp) _ (fun b u => index_ops b 3 (by decide) _ rfl u) fun w b g ow => ?_
    have hu := M.U.ev (op := 3) (M.U_reg hc ra) (M.U_reg hc rb)
    rw [M.ex_alu _ _ _ _ _ _ _ (by decide)]
    exact (xCompute m 3 rd ra rb imm _ _ _ b w g ow _ hx.1 hx.2 hy.1 hy.2 rfl hu.lo hu.hi _ rfl).mono fun e w' h => ExRet.of ow ((hc.setreg rd ⟨hu.lo, hu.hi⟩).adv 4) rfl h
  · refine exBy m 4 rd ra rb imm W hm T i0 i1 hv hp 42 (fun b u => by go_simp) _ (fun b u => index_ops b 4 (by decide) _ rfl u) fun w b g ow => ?_
    have hu := M.U.ev (op := 4) (M.U_reg hc ra) (M.U_reg hc rb)
    rw [M.ex_alu _ _ _ _ _ _ _ (by decide)]
    exact (xCompute m 4 rd ra rb imm _ _ _ b w g ow _ hx.1 hx.2 hy.1 hy.2 rfl hu.lo hu.hi _ rfl).mono fun e w' h => ExRet.of ow ((hc.setreg rd ⟨hu.lo, hu.hi⟩).adv 4) rfl h
  · refine exBy m 5 rd ra rb imm W hm T i0 i1 hv hp 42 (fun b u => by go_simp) _ (fun b u => index_ops b 5 (by decide) _ rfl u) fun w b g ow => ?_
    have hu := M.U.ev (op := 5) (M.U_reg hc ra) (M.U_reg hc rb)
    rw [M.ex_alu _ _ _ _ _ _ _ (by decide)]
    exact (xCompute m 5 rd ra rb imm _ _ _ b w g ow _ hx.1 hx.2 hy.1 hy.2 rfl hu.lo hu.hi _ rfl).mono fun e w' h => ExRet.of ow ((hc.setreg rd ⟨hu.lo, hu.hi⟩).adv 4) rfl h
  · refine exBy m 6 rd ra rb imm W hm T i0 i1 hv hp 42 (fun b u => by go_simp) _ (fun b u => index_ops b 6 (by decide) _ rfl u) fun w b g ow => ?_
    have hu := M.U.ev (op := 6) (M.U_reg hc ra) (M.U_reg hc rb)
    rw [M.ex_alu _ _ _ _ _ _ _ (by decide)]
    exact (xCompute m 6 rd ra rb imm _ _ _ b w g ow _ hx.1 hx.2 hy.1 hy.2 rfl hu.lo hu.hi _ rfl).mono fun e w' h => ExRet.of ow ((hc.setreg rd ⟨hu.lo, hu.hi⟩).adv 4) rfl h
  · refine exBy m 7 rd ra rb imm W hm T i0 i1 hv hp 42 (fun b u => by go_simp) _ (fun b u => index_ops b 7 (by decide) _ rfl u) fun w b g ow => ?_
    have hu := M.U.ev (op := 7) (M.U_reg hc ra) (M.U_reg hc rb)
    rw [M.ex_alu _ _ _ _ _ _ _ (by decide)]
    exact (xCompute m 7 rd ra rb imm _ _ _ b w g ow _ hx.1 hx.2 hy.1 hy.2 rfl hu.lo hu.hi _ rfl).mono fun e w' h => ExRet.of ow ((hc.setreg rd ⟨hu.lo, hu.hi⟩).adv 4) rfl h
  · refine exBy m 8 rd ra rb imm W hm T i0 i1 hv hp 42 (fun b u => by go_simp) _ (fun b u => index_ops b 8 (by decide) _ rfl u) fun w b g ow => ?_
    have hu := M.U.ev (op := 8) (M.U_reg hc ra) (M.U_reg hc rb)
    rw [M.ex_alu _ _ _ _ _ _ _ (by decide)]
    exact (xCompute m 8 rd ra rb imm _ _ _ b w g ow _ hx.1 hx.2 hy.1 hy.2 rfl hu.lo hu.hi _ rfl).mono fun e w' h => ExRet.of ow ((hc.setreg rd ⟨hu.lo, hu.hi⟩).adv 4) rfl h
  · refine exBy m 9 rd ra rb imm W hm T i0 i1 hv hp 43 (fun b u => by go_simp) _ (fun b u => index_ops b 9 (by decide) _ rfl u) fun w b g ow => ?_
    rw [M.ex_addi]
    exact (xAddi m 9 rd ra rb imm _ _ _ b w g ow i0 i1 hx.1 hx.2 _ (sum_hid _ _ _) he.1 he.2 _ rfl).mono fun e w' h => ExRet.of ow ((hc.setreg rd he).adv 4) rfl h
  · refine exBy m 10 rd ra rb imm W hm T i0 i1 hv hp 44 (fun b u => by go_simp) _ (fun b u => index_ops b 10 (by decide) _ rfl u) fun w b g ow => ?_
    rw [M.ex_lui]
    have hu := M.wrap_rng (M.iw imm * 16384)
    exact (xLui m 10 rd ra rb imm _ _ _ b w g ow i0 i1 _ rfl hu.1 hu.2 _ rfl).mono fun e w' h => ExRet.of ow ((hc.setreg rd hu).adv 4) rfl h
  · refine exBy m 11 rd ra rb imm W hm T i0 i1 hv hp 45 (fun b u => by go_simp) _ (fun b u => index_ops b 11 (by decide) _ rfl u) fun w b g ow => ?_
    rw [M.ex_lw]
    have hu := alv_rng hm (M.ea m.c ra imm) 4 (by decide) (by decide)
    by_cases hk : M.acz m.c m.xs.length (M.ea m.c ra imm) 4 = 0
    · rw [M.exL_ok _ _ _ hk]
      exact (xLWOk m 11 rd ra rb imm _ _ _ b w g ow i0 i1 hx.1 hx.2 hs _ he.1 he.2 (sum_hid _ _ _) _ hu.1 hu.2 hk rfl _ rfl).mono fun e w' h => ExRet.of ow ((hc.setreg rd hu).adv 4) rfl h
    · rw [M.exL_no _ _ _ hk]
      exact (xLWNo m 11 rd ra rb imm _ _ _ b w g ow i0 i1 hx.1 hx.2 hs _ he.1 he.2 (sum_hid _ _ _) _ _ rfl (M.atv_no hk) hk).mono fun e w' h => ExRet.of ow hc rfl h
  · refine exBy m 12 rd ra rb imm W hm T i0 i1 hv hp 46 (fun b u => by go_simp) _ (fun b u => index_ops b 12 (by decide) _ rfl u) fun w b g ow => ?_
    rw [M.ex_sw]
    by_cases hk : M.acz m.c m.xs.length (M.ea m.c ra imm) 4 = 0
    · rw [M.exS_ok _ _ _ hk]
      exact xSWOk m 12 rd ra rb imm _ _ _ b w g ow i0 i1 hx.1 hx.2 hz.1 hz.2 hs _ he.1 he.2 (sum_hid _ _ _) _ hk rfl _ rfl
    · rw [M.exS_no _ _ _ hk]
      exact (xSWNo m 12 rd ra rb imm _ _ _ b w g ow i0 i1 hx.1 hx.2 hz.1 hz.2 hs _ he.1 he.2 (sum_hid _ _ _) _ _ rfl (M.atv_no hk) hk).mono fun e w' h => ExRet.of ow hc rfl h
  · refine exBy m 13 rd ra rb imm W hm T i0 i1 hv hp 47 (fun b u => by go_simp) _ (fun b u => index_ops b 13 (by decide) _ rfl u) fun w b g ow => ?_
    rw [M.ex_lb]
    have hu := alv_rng hm (M.ea m.c ra imm) 1 (by decide) (by decide)
    by_cases hk : M.acz m.c m.xs.length (M.ea m.c ra imm) 1 = 0
    · rw [M.exL_ok _ _ _ hk]
      exact (xLBOk m 13 rd ra rb imm _ _ _ b w g ow i0 i1 hx.1 hx.2 hs _ he.1 he.2 (sum_hid _ _ _) _ hu.1 hu.2 hk rfl _ rfl).mono fun e w' h => ExRet.of ow ((hc.setreg rd hu).adv 4) rfl h
    · rw [M.exL_no _ _ _ hk]
      exact (xLBNo m 13 rd ra rb imm _ _ _ b w g ow i0 i1 hx.1 hx.2 hs _ he.1 he.2 (sum_hid _ _ _) _ _ rfl (M.atv_no hk) hk).mono fun e w' h => ExRet.of ow hc rfl h
  · refine exBy m 14 rd ra rb imm W hm T i0 i1 hv hp 48 (fun b u => by go_simp) _ (fun b u => index_ops b 14 (by decide) _ rfl u) fun w b g ow => ?_
    rw [M.ex_sb]
    by_cases hk : M.acz m.c m.xs.length (M.ea m.c ra imm) 1 = 0
    · rw [M.exS_ok _ _ _ hk]
      exact xSBOk m 14 rd ra rb imm _ _ _ b w g ow i0 i1 hx.1 hx.2 hz.1 hz.2 hs _ he.1 he.2 (sum_hid _ _ _) _ hk rfl _ rfl
    · rw [M.exS_no _ _ _ hk]
      exact (xSBNo m 14 rd ra rb imm _ _ _ b w g ow i0 i1 hx.1 hx.2 hz.1 hz.2 hs _ he.1 he.2 (sum_hid _ _ _) _ _ rfl (M.atv_no hk) hk).mono fun e w' h => ExRet.of ow hc rfl h
  · refine exBy m 15 rd ra rb imm W hm T i0 i1 hv hp 49 (fun b u => by go_simp) _ (fun b u => index_ops b 15 (by decide) _ rfl u) fun w b g ow => ?_
    rw [M.ex_br _ _ _ _ _ _ _ (by decide)]
    cases hk : M.tk 15 (M.reg m.c rd) (M.reg m.c ra)
    · rw [if_neg (by decide)]
      exact (xBranchNo m 15 rd ra rb imm _ _ _ b w g ow i0 i1 hx.1 hx.2 hz.1 hz.2 hk _ rfl).mono fun e w' h => ExRet.of ow (hc.adv _) rfl h
    · rw [if_pos rfl]
      exact (xBranchYes m 15 rd ra rb imm _ _ _ b w g ow i0 i1 hx.1 hx.2 hz.1 hz.2 hk _ rfl).mono fun e w' h => ExRet.of ow (hc.adv _) rfl h
  · refine exBy m 16 rd ra rb imm W hm T i0 i1 hv hp 49 (fun b u => by go_simp) _ (fun b u => index_ops b 16 (by decide) _ rfl u) fun w b g ow => ?_
    rw [M.ex_br _ _ _ _ _ _ _ (by decide)]
    cases hk : M.tk 16 (M.reg m.c rd) (M.reg m.c ra)
    · rw [if_neg (by decide)]
      exact (xBranchNo m 16 rd ra rb imm _ _ _ b w g ow i0 i1 hx.1 hx.2 hz.1 hz.2 hk _ rfl).mono fun e w' h => ExRet.of ow (hc.adv _) rfl h
    · rw [if_pos rfl]
      exact (xBranchYes m 16 rd ra rb imm _ _ _ b w g ow i0 i1 hx.1 hx.2 hz.1 hz.2 hk _ rfl).mono fun e w' h => ExRet.of ow (hc.adv _) rfl h
  · refine exBy m 17 rd ra rb imm W hm T i0 i1 hv hp 49 (fun b u => by go_simp) _ (fun b u => index_ops b 17 (by decide) _ rfl u) fun w b g ow => ?_
    rw [M.ex_br _ _ _ _ _ _ _ (by decide)]
    cases hk : M.tk 17 (M.reg m.c rd) (M.reg m.c ra)
    · rw [if_neg (by decide)]
      exact (xBranchNo m 17 rd ra rb imm _ _ _ b w g ow i0 i1 hx.1 hx.2 hz.1 hz.2 hk _ rfl).mono fun e w' h => ExRet.of ow (hc.adv _) rfl h
    · rw [if_pos rfl]
      exact (xBranchYes m 17 rd ra rb imm _ _ _ b w g ow i0 i1 hx.1 hx.2 hz.1 hz.2 hk _ rfl).mono fun e w' h => ExRet.of ow (hc.adv _) rfl h
  · refine exBy m 18 rd ra rb imm W hm T i0 i1 hv hp 50 (fun b u => by go_simp) _ (fun b u => index_ops b 18 (by decide) _ rfl u) fun w b g ow => ?_
    rw [M.ex_jal]
    exact (xJump m 18 rd ra rb imm _ _ _ b w g ow i0 i1 _ rfl).mono fun e w' h => ExRet.of ow ((hc.setreg rd (M.nxt_rng _)).adv _) rfl h
  · refine exBy m 19 rd ra rb imm W hm T i0 i1 hv hp 51 (fun b u => by go_simp) _ (fun b u => index_ops b 19 (by decide) _ rfl u) fun w b g ow => ?_
    rw [M.ex_jalr]
    exact (xJalr m 19 rd ra rb imm _ _ _ b w g ow i0 i1 hx.1 hx.2 _ he.1 he.2 (sum_hid _ _ _) _ rfl).mono fun e w' h => ExRet.of ow ((hc.setreg rd (M.nxt_rng _)).set _ _ he.1 he.2) rfl h
  · refine exBy m 20 rd ra rb imm W hm T i0 i1 hv hp 52 (fun b u => by go_simp) _ (fun b u => index_ops b 20 (by decide) _ rfl u) fun w b g ow => ?_
    rw [M.ex_ecall]
    exact (xCall m 20 rd ra rb imm _ _ _ b w g ow).mono fun e w' h => ExRet.of ow hc rfl h
end Go.Proofs.YthkhahfhbhgfhaaDoor
namespace Go.Proofs.YthkhahfhbhgfhaaDoor
open Go.ChangeShapes Go.WideShapes Go.ChangeAt Go.RowKit Go.Sort
set_option linter.unusedVariables false

end Go.Proofs.YthkhahfhbhgfhaaDoor
namespace Go.Proofs.YthkhahfhbhgfhaaDoor
open Go.ChangeShapes Go.WideShapes Go.ChangeAt Go.RowKit Go.Sort
set_option linter.unusedVariables false

theorem M.ex_len (c xs : List Int) (op rd ra rb imm : Int) : (M.ex c xs op rd ra rb imm).z.length = xs.length := by
  unfold M.ex M.exL M.exS
  repeat' split
  all_goals first | rfl | exact M.asv_len _ _ _ _ _
/-- what the machine behind an instruction holds -/
structure Exd (m : Mc) (r : M.Res) (m1 : Mc) : Prop where
  c : m1.c = r.c
  xs : m1.xs = r.z
  t : m1.t = m.t
  ys : m1.ys = m.ys
  h : m1.h = m.h
theorem Mc.Up.exd {m m1 : Mc} {r : M.Res} (h : Mc.Up { m with c := r.c } r.z m1) : Exd m r m1 := by
  obtain ⟨A, k, rfl⟩ := h
  exact ⟨rfl, rfl, rfl, rfl, rfl⟩
theorem rsame_of {m m1 m2 : Mc} {r : M.Res} (W : World) (o1 : m1.Ok W) (o2 : m2.Ok W) (f1 : Exd m r m1) (f2 : Exd m r m2) (hz : r.z.length ≤ 100000) (hy : m.ys.length ≤ 100000) :
    Calls Tryd.prog 13 #[.agg (mach m1), .agg (mach m2)] W fun e W' => e = .returned (.bool true) ∧ Dn W W' :=
  rsame m1 m2 W o1 o2 (by rw [f1.xs]; exact hz) (by rw [f1.ys]; exact hy) (f1.c.trans f2.c.symm) (f1.xs.trans f2.xs.symm) (f1.t.trans f2.t.symm) (f1.ys.trans f2.ys.symm) (f1.h.trans f2.h.symm)
/-- Execute of an instruction whose result is known -/
theorem xRun (m : Mc) (op rd ra rb imm : Int) (c xs : List Int) (hc : m.c = c) (hx : m.xs = xs) (r : M.Res) (hr : M.ex c xs op rd ra rb imm = r) (hs : xs.length ≤ 100000) (i0 : -2147483648 ≤ imm) (i1 : imm < 2147483648) (hv : Is.M.ok op rd ra rb imm = true) (hp : Is.M.priv op = false) (W : World) (hm : m.Ok W) (T : Is.Tabs W) :
    Calls Tryd.prog 12 #[.agg (mach m), .agg #[.int .i64 op, .int .i64 rd, .int .i64 ra, .int .i64 rb, .int .i32 imm]] W fun e W' =>
      ∃ m1, e = .returned (.tuple #[.agg (mach m1), .agg #[.int .i64 r.k, .int .u32 r.v]]) ∧ Hid (m1.Ok W') ∧ Hid (Exd m r m1) ∧ Dn W W' := by
  subst hc
  subst hx
  subst hr
  exact (xExec m op rd ra rb imm W hm hs T i0 i1 hv hp).mono fun e w h => by
    obtain ⟨m1, he, ho, hu, hd⟩ := h
    exact ⟨m1, he, ho, Lib.hid hu.out.exd, hd⟩
theorem eqTrap_self (k v : Int) (w : World) : (Op.equalIn 10000 37 (.agg #[.int .i64 k, .int .u32 v]) (.agg #[.int .i64 k, .int .u32 v])).run Tryd.prog w = .ok true w := by
  rw [eqTrap]; simp
-- plain
set_option maxRecDepth 100000 in
set_option maxHeartbeats 2000000 in
theorem rPlainYes (op rd ra rb imm : Int) (W : World) (i0 : -2147483648 ≤ imm) (i1 : imm < 2147483648) (hv : Is.M.ok op rd ra rb imm = true) (hp : Is.M.priv op = false) :
    Calls Tryd.prog 11 #[.agg (ins op rd ra rb imm)] W fun e W' => e = .returned (.bool true) ∧ Dn W W' := by
  have C1 := Lib.hid (rMay op rd ra rb imm true i0 i1 hv)
  have C2 := Lib.hid (rPrivi op false hp)
  have HD := Lib.hid (Dn.refl W)
  go_enter Tryd.func11, Tryd.ntmps11
  go_wp2_with (first | ((with_reducible refine wpList_box (vs := (ins op rd ra rb imm)) ?_ ?_ ?_); rfl; rfl; intro b_v1 w' nn; refine Hid.out ?_))
  refine Lib.hid ?_
  have HL_v1 : Hid (W.heap.size ≤ b_v1) := Lib.hid (Blk.hi nn HD.out.size)
  have d' := nn.dn
  replace HD := Lib.hid (HD.out.trans d')
  have v1 := nn.blk
  clear d' nn
  go_wp2_with (first | ((with_reducible refine loadI v1 ?_ ?_ ?_); rfl; rfl) | (go_at_call 24; (with_reducible refine (C1.out _).mono ?_); rintro e w' ⟨rfl, d'⟩; refine Hid.out ?_))
  refine Lib.hid ?_
  replace v1 := v1.dn d'
  replace HD := Lib.hid (HD.out.trans d')
  clear d'
  have ck0 := v1.iop
  go_wp2_with (first | (go_at_call 25; (with_reducible refine (C2.out _).mono ?_); rintro e w' ⟨rfl, d'⟩; refine Hid.out ?_))
  refine Lib.hid ?_
  clear ck0
  replace v1 := v1.dn d'
  replace HD := Lib.hid (HD.out.trans d')
  clear d'
  go_wp2_with fail
  go_ret
  exact ⟨rfl, HD.out⟩
set_option maxRecDepth 100000 in
set_option maxHeartbeats 2000000 in
theorem rPlainPriv (op rd ra rb imm : Int) (W : World) (i0 : -2147483648 ≤ imm) (i1 : imm < 2147483648) (hv : Is.M.ok op rd ra rb imm = true) (hp : Is.M.priv op = true) :
    Calls Tryd.prog 11 #[.agg (ins op rd ra rb imm)] W fun e W' => e = .returned (.bool false) ∧ Dn W W' := by
  have C1 := Lib.hid (rMay op rd ra rb imm true i0 i1 hv)
  have C2 := Lib.hid (rPrivi op true hp)
  have HD := Lib.hid (Dn.refl W)
  go_enter Tryd.func11, Tryd.ntmps11
  go_wp2_with (first | ((with_reducible refine wpList_box (vs := (ins op rd ra rb imm)) ?_ ?_ ?_); rfl; rfl; intro b_v1 w' nn; refine Hid.out ?_))
  refine Lib.hid ?_
  have HL_v1 : Hid (W.heap.size ≤ b_v1) := Lib.hid (Blk.hi nn HD.out.size)
  have d' := nn.dn
  replace HD := Lib.hid (HD.out.trans d')
  have v1 := nn.blk
  clear d' nn
  go_wp2_with (first | ((with_reducible refine loadI v1 ?_ ?_ ?_); rfl; rfl) | (go_at_call 24; (with_reducible refine (C1.out _).mono ?_); rintro e w' ⟨rfl, d'⟩; refine Hid.out ?_))
  refine Lib.hid ?_
  replace v1 := v1.dn d'
  replace HD := Lib.hid (HD.out.trans d')
  clear d'
  have ck0 := v1.iop
  go_wp2_with (first | (go_at_call 25; (with_reducible refine (C2.out _).mono ?_); rintro e w' ⟨rfl, d'⟩; refine Hid.out ?_))
  refine Lib.hid ?_
  clear ck0
  replace v1 := v1.dn d'
  replace HD := Lib.hid (HD.out.trans d')
  clear d'
  go_wp2_with fail
  go_ret
  exact ⟨rfl, HD.out⟩
set_option maxRecDepth 100000 in
set_option maxHeartbeats 2000000 in
theorem rPlainNo (op rd ra rb imm : Int) (W : World) (i0 : -2147483648 ≤ imm) (i1 : imm < 2147483648) (hv : Is.M.ok op rd ra rb imm = false) :
    Calls Tryd.prog 11 #[.agg (ins op rd ra rb imm)] W fun e W' => e = .returned (.bool false) ∧ Dn W W' := by
  have C1 := Lib.hid (rMay op rd ra rb imm false i0 i1 hv)
  have HD := Lib.hid (Dn.refl W)
  go_enter Tryd.func11, Tryd.ntmps11
  go_wp2_with (first | ((with_reducible refine wpList_box (vs := (ins op rd ra rb imm)) ?_ ?_ ?_); rfl; rfl; intro b_v1 w' nn; refine Hid.out ?_))
  refine Lib.hid ?_
  have HL_v1 : Hid (W.heap.size ≤ b_v1) := Lib.hid (Blk.hi nn HD.out.size)
  have d' := nn.dn
  replace HD := Lib.hid (HD.out.trans d')
  have v1 := nn.blk
  clear d' nn
  go_wp2_with (first | ((with_reducible refine loadI v1 ?_ ?_ ?_); rfl; rfl) | (go_at_call 24; (with_reducible refine (C1.out _).mono ?_); rintro e w' ⟨rfl, d'⟩; refine Hid.out ?_))
  refine Lib.hid ?_
  replace v1 := v1.dn d'
  replace HD := Lib.hid (HD.out.trans d')
  clear d'
  go_wp2_with fail
  go_ret
  exact ⟨rfl, HD.out⟩
theorem rPlain (op rd ra rb imm : Int) (b : Bool) (i0 : -2147483648 ≤ imm) (i1 : imm < 2147483648) (hb : (Is.M.ok op rd ra rb imm && !Is.M.priv op) = b) (W : World) : Calls Tryd.prog 11 #[.agg (ins op rd ra rb imm)] W fun e W' => e = .returned (.bool b) ∧ Dn W W' := by
  subst hb
  cases hv : Is.M.ok op rd ra rb imm
  · exact rPlainNo op rd ra rb imm W i0 i1 hv
  · cases hp : Is.M.priv op
    · exact rPlainYes op rd ra rb imm W i0 i1 hv hp
    · exact rPlainPriv op rd ra rb imm W i0 i1 hv hp
end Go.Proofs.YthkhahfhbhgfhaaDoor
namespace Go.Proofs.YthkhahfhbhgfhaaDoor
open Go.ChangeShapes Go.WideShapes Go.ChangeAt Go.RowKit Go.Sort
set_option linter.unusedVariables false

theorem core_lit {c : List Int} (h : (decide (c.length = 29) && c.all fun x => decide (0 ≤ x ∧ x < 4294967296)) = true) : M.Core c := by
  simp only [Bool.and_eq_true, decide_eq_true_eq, List.all_eq_true] at h
  exact M.core_of h.1 h.2
/-- the machine of awake -/
def awN (g : Nat) (c : List Int) : Mc := ⟨c, some ⟨g, 0, none⟩, 32, List.replicate 32 0, 0, none, 0, [], false⟩
def awC0 : List Int := [0, 0, 0, 0, 0, 0, 0, 0, 0, 0, 0, 0, 0, 0, 0, 0, 8, 0, 0, 0, 0, 0, 0, 0, 0, 0, 0, 0, 0]
def awC1 : List Int := [0, 0, 0, 0, 0, 0, 0, 0, 0, 0, 0, 0, 0, 0, 0, 0, 8, 1, 0, 0, 0, 0, 0, 0, 0, 0, 0, 0, 0]
def awC : List Int := [0, 0, 20, 0, 0, 0, 0, 0, 0, 0, 0, 0, 0, 0, 0, 0, 8, 1, 0, 0, 0, 0, 0, 0, 0, 0, 0, 0, 0]
def awZ : List Int := [0, 0, 0, 0, 0, 0, 0, 0, 0, 0, 0, 0, 0, 0, 0, 0, 0, 0, 0, 0, 0, 0, 0, 0, 0, 0, 0, 0, 0, 0, 0, 0]
def aw_a : M.Res := ⟨[0, 12, 20, 0, 0, 0, 0, 0, 0, 0, 0, 0, 0, 0, 0, 0, 16, 1, 0, 0, 0, 0, 0, 0, 0, 0, 0, 0, 0], [0, 0, 0, 0, 0, 0, 0, 0, 0, 0, 0, 0, 0, 0, 0, 0, 0, 0, 0, 0, 0, 0, 0, 0, 0, 0, 0, 0, 0, 0, 0, 0], 0, 0⟩
def aw_b : M.Res := ⟨[0, 0, 20, 0, 0, 0, 0, 0, 0, 0, 0, 0, 0, 0, 0, 0, 12, 1, 0, 0, 0, 0, 0, 0, 0, 0, 0, 0, 0], [0, 0, 0, 0, 0, 0, 0, 0, 0, 0, 0, 0, 0, 0, 0, 0, 20, 0, 0, 0, 0, 0, 0, 0, 0, 0, 0, 0, 0, 0, 0, 0], 0, 0⟩
def aw_c : M.Res := ⟨[0, 0, 20, 20, 0, 0, 0, 0, 0, 0, 0, 0, 0, 0, 0, 0, 16, 1, 0, 0, 0, 0, 0, 0, 0, 0, 0, 0, 0], [0, 0, 0, 0, 0, 0, 0, 0, 0, 0, 0, 0, 0, 0, 0, 0, 20, 0, 0, 0, 0, 0, 0, 0, 0, 0, 0, 0, 0, 0, 0, 0], 0, 0⟩
def aw_u : M.Res := ⟨[0, 0, 20, 0, 0, 0, 0, 0, 0, 0, 0, 0, 0, 0, 0, 0, 8, 1, 0, 0, 0, 0, 0, 0, 0, 0, 0, 0, 0], [0, 0, 0, 0, 0, 0, 0, 0, 0, 0, 0, 0, 0, 0, 0, 0, 0, 0, 0, 0, 0, 0, 0, 0, 0, 0, 0, 0, 0, 0, 0, 0], 3, 32⟩
def aw_d : M.Res := ⟨[0, 0, 20, 0, 4294950912, 0, 0, 0, 0, 0, 0, 0, 0, 0, 0, 0, 12, 1, 0, 0, 0, 0, 0, 0, 0, 0, 0, 0, 0], [0, 0, 0, 0, 0, 0, 0, 0, 0, 0, 0, 0, 0, 0, 0, 0, 0, 0, 0, 0, 0, 0, 0, 0, 0, 0, 0, 0, 0, 0, 0, 0], 0, 0⟩
def aw_e : M.Res := ⟨[0, 0, 20, 0, 0, 0, 0, 0, 0, 0, 0, 0, 0, 0, 0, 0, 0, 1, 0, 0, 0, 0, 0, 0, 0, 0, 0, 0, 0], [0, 0, 0, 0, 0, 0, 0, 0, 0, 0, 0, 0, 0, 0, 0, 0, 0, 0, 0, 0, 0, 0, 0, 0, 0, 0, 0, 0, 0, 0, 0, 0], 0, 0⟩
def aw_f : M.Res := ⟨[0, 0, 20, 0, 0, 0, 0, 0, 0, 0, 0, 0, 0, 0, 0, 0, 8, 1, 0, 0, 0, 0, 0, 0, 0, 0, 0, 0, 0], [0, 0, 0, 0, 0, 0, 0, 0, 0, 0, 0, 0, 0, 0, 0, 0, 0, 0, 0, 0, 0, 0, 0, 0, 0, 0, 0, 0, 0, 0, 0, 0], 5, 0⟩
def aw_g : M.Res := ⟨[0, 0, 12, 0, 0, 0, 0, 0, 0, 0, 0, 0, 0, 0, 0, 0, 23, 1, 0, 0, 0, 0, 0, 0, 0, 0, 0, 0, 0], [0, 0, 0, 0, 0, 0, 0, 0, 0, 0, 0, 0, 0, 0, 0, 0, 0, 0, 0, 0, 0, 0, 0, 0, 0, 0, 0, 0, 0, 0, 0, 0], 0, 0⟩
theorem aw_a_is : M.ex awC awZ 18 1 0 0 2 = aw_a := by kernel_rfl
theorem aw_b_is : M.ex awC awZ 12 2 2 0 (-4) = aw_b := by kernel_rfl
theorem aw_c_is : M.ex aw_b.c aw_b.z 11 3 0 0 16 = aw_c := by kernel_rfl
theorem aw_u_is : M.ex awC awZ 11 3 2 0 12 = aw_u := by kernel_rfl
theorem aw_d_is : M.ex awC awZ 10 4 0 0 (-1) = aw_d := by kernel_rfl
theorem aw_e_is : M.ex awC awZ 16 2 0 0 (-2) = aw_e := by kernel_rfl
theorem aw_f_is : M.ex awC awZ 20 0 0 0 0 = aw_f := by kernel_rfl
theorem aw_g_is : M.ex awC awZ 19 2 2 0 3 = aw_g := by kernel_rfl
theorem awN_ok {w : World} {g : Nat} (hb : Bs w (some ⟨g, 0, none⟩) 32 (List.replicate 32 0)) : (awN g awC).Ok w := ⟨core_lit (c := awC) (by decide), hb, bs_nil w, (by decide : (0 : Int) ≤ 0), (by decide : (0 : Int) < 18446744073709551616)⟩
theorem awN_xs (g : Nat) (c : List Int) : (awN g c).xs = awZ := rfl
section
variable {ops : Array Oper} {rest : List Oper} {dst : Option Tmp} {x y : Operand} {ty : TypeId} {pos : String} {aft : Array Edge} {gd : Option (Nat × Bool)} {a : Act} {w : World} {Q : Exit → Act → World → Prop}
/-- make([]byte, n), the block a letter -/
theorem wpList_makeN {n : Nat} (hn : n ≤ 100000) (hw : Region.wanted ⟨dst, .makeSlice 27 x y, ty, pos, aft, gd⟩ (yielded ops a.tmps) = true) (hx : a.eval x = .int .i64 (n : Int)) (hy : a.eval y = .int .i64 (n : Int))
    (h : ∀ b w', New w w' b 5 (ints .u8 (List.replicate n 0)) → wpList Tryd.prog ops Q rest (a.put dst (.slice (some ⟨b, 0, none⟩) n n)) w') :
    wpList Tryd.prog ops Q (⟨dst, .makeSlice 27 x y, ty, pos, aft, gd⟩ :: rest) a w := wpList_make8 hn hw hx hy (h _ _ (New.mk' w _ _))
end
set_option maxRecDepth 100000 in
set_option maxHeartbeats 2000000 in
theorem awake (W : World) (T : Is.Tabs W) : Calls Tryd.prog 9 #[] W fun e W' => e = .returned (.bool true) ∧ Dn W W' := by
  have q0 := eqTrap_self 0 0
  have q1 := eqTrap_self 3 32
  have q2 := eqTrap_self 5 0
  have qz := fun w => field_pc (c := M.adv awC 4294967288) rfl w
  have nz : (M.adv awC 4294967288).getD 16 0 = 0 := by kernel_rfl
  rw [nz] at qz
  clear nz
  have HD := Lib.hid (Dn.refl W)
  go_enter Tryd.func9, Tryd.ntmps9
  go_wp2_with (first | ((with_reducible refine wpList_makeN (n := 32) (by decide) ?_ ?_ ?_ ?_); rfl; rfl; rfl; intro b_g w' nn; refine Hid.out ?_))
  refine Lib.hid ?_
  replace HD := Lib.hid (HD.out.trans nn.dn)
  have oz : Hid (Bs w' (some ⟨b_g, 0, none⟩) 32 (List.replicate 32 0)) := Lib.hid (Bs.of_row nn.blk.row (by_lit rfl))
  clear nn
  go_wp2_with (first | ((with_reducible refine wpList_alloc zeroMach ?_ ?_); rfl; intro b_v1 w' nn; refine Hid.out ?_))
  refine Lib.hid ?_
  have HL_v1 : Hid (W.heap.size ≤ b_v1) := Lib.hid (Blk.hi nn HD.out.size)
  have d' := nn.dn
  replace oz := Lib.hid (oz.out.dn d')
  replace HD := Lib.hid (HD.out.trans d')
  have v1 := nn.blk
  clear d' nn
  go_wp2_with (first | ((with_reducible refine store33 (awN b_g (zeros 29)) rfl v1 zlen ?_ ?_ ?_ ?_); rfl; rfl; rfl; intro w' r' t'; refine Hid.out ?_))
  refine Lib.hid ?_
  replace oz := Lib.hid (oz.out.trn v1 (NoU8.mach _) t')
  replace HD := Lib.hid (HD.out.trn HL_v1.out t')
  clear t' v1
  have v1 := r'
  clear r'
  go_wp2_with (first | ((with_reducible refine storeWord (i := 16) (u := 8) v1 rfl ?_ ?_ ?_ ?_ ?_); rfl; rfl; rfl; rfl; intro w' r' t'; refine Hid.out ?_))
  refine Lib.hid ?_
  replace oz := Lib.hid (oz.out.trn v1 (NoU8.mach _) t')
  replace r' : Blk w' b_v1 30 (mach (awN b_g awC0)) := r'
  replace HD := Lib.hid (HD.out.trn HL_v1.out t')
  clear t' v1
  have v1 := r'
  clear r'
  go_wp2_with (first | ((with_reducible refine storeWord (i := 17) (u := 1) v1 rfl ?_ ?_ ?_ ?_ ?_); rfl; rfl; rfl; rfl; intro w' r' t'; refine Hid.out ?_))
  refine Lib.hid ?_
  replace oz := Lib.hid (oz.out.trn v1 (NoU8.mach _) t')
  replace r' : Blk w' b_v1 30 (mach (awN b_g awC1)) := r'
  replace HD := Lib.hid (HD.out.trn HL_v1.out t')
  clear t' v1
  have v1 := r'
  clear r'
  go_wp2_with (first | ((with_reducible refine storeWord (i := 2) (u := 20) v1 rfl ?_ ?_ ?_ ?_ ?_); rfl; rfl; rfl; rfl; intro w' r' t'; refine Hid.out ?_))
  refine Lib.hid ?_
  replace oz := Lib.hid (oz.out.trn v1 (NoU8.mach _) t')
  replace r' : Blk w' b_v1 30 (mach (awN b_g awC)) := r'
  replace HD := Lib.hid (HD.out.trn HL_v1.out t')
  clear t' v1
  have v1 := r'
  clear r'
  have Ca := Lib.hid fun (w : World) (hb : Bs w (some ⟨b_g, 0, none⟩) 32 (List.replicate 32 0)) => xRun (awN b_g awC) 18 1 0 0 2 awC awZ rfl rfl aw_a aw_a_is (by decide) (by decide) (by decide) (by decide) (by decide) w (awN_ok hb)
  have Cb := Lib.hid fun (w : World) (hb : Bs w (some ⟨b_g, 0, none⟩) 32 (List.replicate 32 0)) => xRun (awN b_g awC) 12 2 2 0 (-4) awC awZ rfl rfl aw_b aw_b_is (by decide) (by decide) (by decide) (by decide) (by decide) w (awN_ok hb)
  have Cc := Lib.hid fun (w : World) (mb : Mc) (e : Exd (awN b_g awC) aw_b mb) => xRun mb 11 3 0 0 16 aw_b.c aw_b.z e.c e.xs aw_c aw_c_is (by decide) (by decide) (by decide) (by decide) (by decide) w
  have Cu := Lib.hid fun (w : World) (hb : Bs w (some ⟨b_g, 0, none⟩) 32 (List.replicate 32 0)) => xRun (awN b_g awC) 11 3 2 0 12 awC awZ rfl rfl aw_u aw_u_is (by decide) (by decide) (by decide) (by decide) (by decide) w (awN_ok hb)
  have Cd := Lib.hid fun (w : World) (hb : Bs w (some ⟨b_g, 0, none⟩) 32 (List.replicate 32 0)) => xRun (awN b_g awC) 10 4 0 0 (-1) awC awZ rfl rfl aw_d aw_d_is (by decide) (by decide) (by decide) (by decide) (by decide) w (awN_ok hb)
  have Ce := Lib.hid fun (w : World) (hb : Bs w (some ⟨b_g, 0, none⟩) 32 (List.replicate 32 0)) => xRun (awN b_g awC) 16 2 0 0 (-2) awC awZ rfl rfl aw_e aw_e_is (by decide) (by decide) (by decide) (by decide) (by decide) w (awN_ok hb)
  have Cf := Lib.hid fun (w : World) (hb : Bs w (some ⟨b_g, 0, none⟩) 32 (List.replicate 32 0)) => xRun (awN b_g awC) 20 0 0 0 0 awC awZ rfl rfl aw_f aw_f_is (by decide) (by decide) (by decide) (by decide) (by decide) w (awN_ok hb)
  have Cg := Lib.hid fun (w : World) (hb : Bs w (some ⟨b_g, 0, none⟩) 32 (List.replicate 32 0)) => xRun (awN b_g awC) 19 2 2 0 3 awC awZ rfl rfl aw_g aw_g_is (by decide) (by decide) (by decide) (by decide) (by decide) w (awN_ok hb)
  have Cz := Lib.hid fun w => (by exact xAdv awC 4294967288 (M.adv awC 4294967288) w (core_lit (by decide)) (by decide) (by decide) rfl : Calls Tryd.prog 23 #[.agg (ints .u32 (awN b_g awC).c), .int .u32 4294967288] w fun e W' => e = .returned (.agg (ints .u32 (M.adv awC 4294967288))) ∧ Dn w W')
  go_wp2_with (first | ((with_reducible refine load33 v1 rfl ?_ ?_ ?_); rfl; rfl) | (go_at_call 12; (with_reducible refine (Ca.out _ oz.out (T.dn HD.out)).mono ?_); rintro e w' ⟨ma, rfl, oa, ea, d'⟩; refine Hid.out ?_))
  refine Lib.hid ?_
  replace v1 := v1.dn d'
  replace oz := Lib.hid (oz.out.dn d')
  replace HD := Lib.hid (HD.out.trans d')
  clear d'
  have la := oa.out.len
  have na1 : ma.c.getD 1 0 = 12 := by rw [ea.out.c]; rfl
  have na16 : ma.c.getD 16 0 = 16 := by rw [ea.out.c]; rfl
  clear Ca oa ea
  go_wp2_with (first | ((with_reducible refine wpList_alloc zeroMach ?_ ?_); rfl; intro b_v2 w' nn; refine Hid.out ?_))
  refine Lib.hid ?_
  have n_v1_v2 := Lib.hid (nn.ne _ v1.lt)
  have HL_v2 : Hid (W.heap.size ≤ b_v2) := Lib.hid (Blk.hi nn HD.out.size)
  have d' := nn.dn
  replace v1 := v1.dn d'
  replace oz := Lib.hid (oz.out.dn d')
  replace HD := Lib.hid (HD.out.trans d')
  have v2 := nn.blk
  clear d' nn
  go_wp2_with (first | ((with_reducible refine wpList_alloc zeroTrap ?_ ?_); rfl; intro b_v3 w' nn; refine Hid.out ?_))
  refine Lib.hid ?_
  have n_v1_v3 := Lib.hid (nn.ne _ v1.lt)
  have n_v2_v3 := Lib.hid (nn.ne _ v2.lt)
  have HL_v3 : Hid (W.heap.size ≤ b_v3) := Lib.hid (Blk.hi nn HD.out.size)
  have d' := nn.dn
  replace v1 := v1.dn d'
  replace v2 := v2.dn d'
  replace oz := Lib.hid (oz.out.dn d')
  replace HD := Lib.hid (HD.out.trans d')
  have v3 := nn.blk
  clear d' nn
  go_wp2_with (first | ((with_reducible refine store33 ma la v2 zlen ?_ ?_ ?_ ?_); rfl; rfl; rfl; intro w' r' t'; refine Hid.out ?_))
  refine Lib.hid ?_
  replace oz := Lib.hid (oz.out.trn v2 (NoU8.mach _) t')
  replace v1 := v1.trn t' n_v1_v2.out
  replace v3 := v3.trn t' n_v2_v3.out.symm
  replace HD := Lib.hid (HD.out.trn HL_v2.out t')
  clear t' v2
  have v2 := r'
  clear r'
  go_wp2_with (first | ((with_reducible refine storeTrap (k := 0) (v := 0) v3 ?_ ?_ ?_ ?_); rfl; rfl; rfl; intro w' r' t'; refine Hid.out ?_))
  refine Lib.hid ?_
  replace oz := Lib.hid (oz.out.trn v3 (NoU8.trap _ _) t')
  replace v1 := v1.trn t' n_v1_v3.out
  replace v2 := v2.trn t' n_v2_v3.out
  replace HD := Lib.hid (HD.out.trn HL_v3.out t')
  clear t' v3
  have v3 := r'
  clear r'
  go_wp2_with (first | ((with_reducible refine load33 v1 rfl ?_ ?_ ?_); rfl; rfl) | (go_at_call 12; (with_reducible refine (Cb.out _ oz.out (T.dn HD.out)).mono ?_); rintro e w' ⟨mb, rfl, ob, eb, d'⟩; refine Hid.out ?_))
  refine Lib.hid ?_
  replace v1 := v1.dn d'
  replace v2 := v2.dn d'
  replace v3 := v3.dn d'
  replace oz := Lib.hid (oz.out.dn d')
  replace HD := Lib.hid (HD.out.trans d')
  clear d'
  have lb := ob.out.len
  clear Cb
  have ob := Lib.hid ob.out
  go_wp2_with (first | ((with_reducible refine wpList_alloc zeroMach ?_ ?_); rfl; intro b_v4 w' nn; refine Hid.out ?_))
  refine Lib.hid ?_
  have n_v1_v4 := Lib.hid (nn.ne _ v1.lt)
  have n_v2_v4 := Lib.hid (nn.ne _ v2.lt)
  have n_v3_v4 := Lib.hid (nn.ne _ v3.lt)
  have HL_v4 : Hid (W.heap.size ≤ b_v4) := Lib.hid (Blk.hi nn HD.out.size)
  have d' := nn.dn
  replace v1 := v1.dn d'
  replace v2 := v2.dn d'
  replace v3 := v3.dn d'
  replace ob := Lib.hid (ob.out.dn d')
  replace oz := Lib.hid (oz.out.dn d')
  replace HD := Lib.hid (HD.out.trans d')
  have v4 := nn.blk
  clear d' nn
  go_wp2_with (first | ((with_reducible refine wpList_alloc zeroTrap ?_ ?_); rfl; intro b_v5 w' nn; refine Hid.out ?_))
  refine Lib.hid ?_
  have n_v1_v5 := Lib.hid (nn.ne _ v1.lt)
  have n_v2_v5 := Lib.hid (nn.ne _ v2.lt)
  have n_v3_v5 := Lib.hid (nn.ne _ v3.lt)
  have n_v4_v5 := Lib.hid (nn.ne _ v4.lt)
  have HL_v5 : Hid (W.heap.size ≤ b_v5) := Lib.hid (Blk.hi nn HD.out.size)
  have d' := nn.dn
  replace v1 := v1.dn d'
  replace v2 := v2.dn d'
  replace v3 := v3.dn d'
  replace v4 := v4.dn d'
  replace ob := Lib.hid (ob.out.dn d')
  replace oz := Lib.hid (oz.out.dn d')
  replace HD := Lib.hid (HD.out.trans d')
  have v5 := nn.blk
  clear d' nn
  go_wp2_with (first | ((with_reducible refine store33 mb lb v4 zlen ?_ ?_ ?_ ?_); rfl; rfl; rfl; intro w' r' t'; refine Hid.out ?_))
  refine Lib.hid ?_
  replace ob := Lib.hid (ob.out.trn v4 (NoU8.mach _) t')
  replace oz := Lib.hid (oz.out.trn v4 (NoU8.mach _) t')
  replace v1 := v1.trn t' n_v1_v4.out
  replace v2 := v2.trn t' n_v2_v4.out
  replace v3 := v3.trn t' n_v3_v4.out
  replace v5 := v5.trn t' n_v4_v5.out.symm
  replace HD := Lib.hid (HD.out.trn HL_v4.out t')
  clear t' v4
  have v4 := r'
  clear r'
  go_wp2_with (first | ((with_reducible refine storeTrap (k := 0) (v := 0) v5 ?_ ?_ ?_ ?_); rfl; rfl; rfl; intro w' r' t'; refine Hid.out ?_))
  refine Lib.hid ?_
  replace ob := Lib.hid (ob.out.trn v5 (NoU8.trap _ _) t')
  replace oz := Lib.hid (oz.out.trn v5 (NoU8.trap _ _) t')
  replace v1 := v1.trn t' n_v1_v5.out
  replace v2 := v2.trn t' n_v2_v5.out
  replace v3 := v3.trn t' n_v3_v5.out
  replace v4 := v4.trn t' n_v4_v5.out
  replace HD := Lib.hid (HD.out.trn HL_v5.out t')
  clear t' v5
  have v5 := r'
  clear r'
  go_wp2_with (first | ((with_reducible refine load33 v4 lb ?_ ?_ ?_); rfl; rfl) | (go_at_call 12; (with_reducible refine (Cc.out _ mb eb.out ob.out (T.dn HD.out)).mono ?_); rintro e w' ⟨mc, rfl, oc, ec, d'⟩; refine Hid.out ?_))
  refine Lib.hid ?_
  replace v1 := v1.dn d'
  replace v2 := v2.dn d'
  replace v3 := v3.dn d'
  replace v4 := v4.dn d'
  replace v5 := v5.dn d'
  replace ob := Lib.hid (ob.out.dn d')
  replace oz := Lib.hid (oz.out.dn d')
  replace HD := Lib.hid (HD.out.trans d')
  clear d'
  have lc := oc.out.len
  have nc3 : mc.c.getD 3 0 = 20 := by rw [ec.out.c]; rfl
  have nc16 : mc.c.getD 16 0 = 16 := by rw [ec.out.c]; rfl
  clear Cc oc ec
  go_wp2_with (first | ((with_reducible refine wpList_alloc zeroMach ?_ ?_); rfl; intro b_v6 w' nn; refine Hid.out ?_))
  refine Lib.hid ?_
  have n_v1_v6 := Lib.hid (nn.ne _ v1.lt)
  have n_v2_v6 := Lib.hid (nn.ne _ v2.lt)
  have n_v3_v6 := Lib.hid (nn.ne _ v3.lt)
  have n_v4_v6 := Lib.hid (nn.ne _ v4.lt)
  have n_v5_v6 := Lib.hid (nn.ne _ v5.lt)
  have HL_v6 : Hid (W.heap.size ≤ b_v6) := Lib.hid (Blk.hi nn HD.out.size)
  have d' := nn.dn
  replace v1 := v1.dn d'
  replace v2 := v2.dn d'
  replace v3 := v3.dn d'
  replace v4 := v4.dn d'
  replace v5 := v5.dn d'
  replace ob := Lib.hid (ob.out.dn d')
  replace oz := Lib.hid (oz.out.dn d')
  replace HD := Lib.hid (HD.out.trans d')
  have v6 := nn.blk
  clear d' nn
  go_wp2_with (first | ((with_reducible refine wpList_alloc zeroTrap ?_ ?_); rfl; intro b_v7 w' nn; refine Hid.out ?_))
  refine Lib.hid ?_
  have n_v1_v7 := Lib.hid (nn.ne _ v1.lt)
  have n_v2_v7 := Lib.hid (nn.ne _ v2.lt)
  have n_v3_v7 := Lib.hid (nn.ne _ v3.lt)
  have n_v4_v7 := Lib.hid (nn.ne _ v4.lt)
  have n_v5_v7 := Lib.hid (nn.ne _ v5.lt)
  have n_v6_v7 := Lib.hid (nn.ne _ v6.lt)
  have HL_v7 : Hid (W.heap.size ≤ b_v7) := Lib.hid (Blk.hi nn HD.out.size)
  have d' := nn.dn
  replace v1 := v1.dn d'
  replace v2 := v2.dn d'
  replace v3 := v3.dn d'
  replace v4 := v4.dn d'
  replace v5 := v5.dn d'
  replace v6 := v6.dn d'
  replace ob := Lib.hid (ob.out.dn d')
  replace oz := Lib.hid (oz.out.dn d')
  replace HD := Lib.hid (HD.out.trans d')
  have v7 := nn.blk
  clear d' nn
  go_wp2_with (first | ((with_reducible refine store33 mc lc v6 zlen ?_ ?_ ?_ ?_); rfl; rfl; rfl; intro w' r' t'; refine Hid.out ?_))
  refine Lib.hid ?_
  replace ob := Lib.hid (ob.out.trn v6 (NoU8.mach _) t')
  replace oz := Lib.hid (oz.out.trn v6 (NoU8.mach _) t')
  replace v1 := v1.trn t' n_v1_v6.out
  replace v2 := v2.trn t' n_v2_v6.out
  replace v3 := v3.trn t' n_v3_v6.out
  replace v4 := v4.trn t' n_v4_v6.out
  replace v5 := v5.trn t' n_v5_v6.out
  replace v7 := v7.trn t' n_v6_v7.out.symm
  replace HD := Lib.hid (HD.out.trn HL_v6.out t')
  clear t' v6
  have v6 := r'
  clear r'
  go_wp2_with (first | ((with_reducible refine storeTrap (k := 0) (v := 0) v7 ?_ ?_ ?_ ?_); rfl; rfl; rfl; intro w' r' t'; refine Hid.out ?_))
  refine Lib.hid ?_
  replace ob := Lib.hid (ob.out.trn v7 (NoU8.trap _ _) t')
  replace oz := Lib.hid (oz.out.trn v7 (NoU8.trap _ _) t')
  replace v1 := v1.trn t' n_v1_v7.out
  replace v2 := v2.trn t' n_v2_v7.out
  replace v3 := v3.trn t' n_v3_v7.out
  replace v4 := v4.trn t' n_v4_v7.out
  replace v5 := v5.trn t' n_v5_v7.out
  replace v6 := v6.trn t' n_v6_v7.out
  replace HD := Lib.hid (HD.out.trn HL_v7.out t')
  clear t' v7
  have v7 := r'
  clear r'
  go_wp2_with (first | ((with_reducible refine load33 v1 rfl ?_ ?_ ?_); rfl; rfl) | (go_at_call 12; (with_reducible refine (Cu.out _ oz.out (T.dn HD.out)).mono ?_); rintro e w' ⟨mu, rfl, ou, eu, d'⟩; refine Hid.out ?_))
  refine Lib.hid ?_
  replace v1 := v1.dn d'
  replace v2 := v2.dn d'
  replace v3 := v3.dn d'
  replace v4 := v4.dn d'
  replace v5 := v5.dn d'
  replace v6 := v6.dn d'
  replace v7 := v7.dn d'
  replace ob := Lib.hid (ob.out.dn d')
  replace oz := Lib.hid (oz.out.dn d')
  replace HD := Lib.hid (HD.out.trans d')
  clear d'
  have lu := ou.out.len
  clear Cu ou eu
  go_wp2_with (first | ((with_reducible refine wpList_alloc zeroMach ?_ ?_); rfl; intro b_v8 w' nn; refine Hid.out ?_))
  refine Lib.hid ?_
  have n_v1_v8 := Lib.hid (nn.ne _ v1.lt)
  have n_v2_v8 := Lib.hid (nn.ne _ v2.lt)
  have n_v3_v8 := Lib.hid (nn.ne _ v3.lt)
  have n_v4_v8 := Lib.hid (nn.ne _ v4.lt)
  have n_v5_v8 := Lib.hid (nn.ne _ v5.lt)
  have n_v6_v8 := Lib.hid (nn.ne _ v6.lt)
  have n_v7_v8 := Lib.hid (nn.ne _ v7.lt)
  have HL_v8 : Hid (W.heap.size ≤ b_v8) := Lib.hid (Blk.hi nn HD.out.size)
  have d' := nn.dn
  replace v1 := v1.dn d'
  replace v2 := v2.dn d'
  replace v3 := v3.dn d'
  replace v4 := v4.dn d'
  replace v5 := v5.dn d'
  replace v6 := v6.dn d'
  replace v7 := v7.dn d'
  replace ob := Lib.hid (ob.out.dn d')
  replace oz := Lib.hid (oz.out.dn d')
  replace HD := Lib.hid (HD.out.trans d')
  have v8 := nn.blk
  clear d' nn
  go_wp2_with (first | ((with_reducible refine wpList_alloc zeroTrap ?_ ?_); rfl; intro b_v9 w' nn; refine Hid.out ?_))
  refine Lib.hid ?_
  have n_v1_v9 := Lib.hid (nn.ne _ v1.lt)
  have n_v2_v9 := Lib.hid (nn.ne _ v2.lt)
  have n_v3_v9 := Lib.hid (nn.ne _ v3.lt)
  have n_v4_v9 := Lib.hid (nn.ne _ v4.lt)
  have n_v5_v9 := Lib.hid (nn.ne _ v5.lt)
  have n_v6_v9 := Lib.hid (nn.ne _ v6.lt)
  have n_v7_v9 := Lib.hid (nn.ne _ v7.lt)
  have n_v8_v9 := Lib.hid (nn.ne _ v8.lt)
  have HL_v9 : Hid (W.heap.size ≤ b_v9) := Lib.hid (Blk.hi nn HD.out.size)
  have d' := nn.dn
  replace v1 := v1.dn d'
  replace v2 := v2.dn d'
  replace v3 := v3.dn d'
  replace v4 := v4.dn d'
  replace v5 := v5.dn d'
  replace v6 := v6.dn d'
  replace v7 := v7.dn d'
  replace v8 := v8.dn d'
  replace ob := Lib.hid (ob.out.dn d')
  replace oz := Lib.hid (oz.out.dn d')
  replace HD := Lib.hid (HD.out.trans d')
  have v9 := nn.blk
  clear d' nn
  go_wp2_with (first | ((with_reducible refine store33 mu lu v8 zlen ?_ ?_ ?_ ?_); rfl; rfl; rfl; intro w' r' t'; refine Hid.out ?_))
  refine Lib.hid ?_
  replace ob := Lib.hid (ob.out.trn v8 (NoU8.mach _) t')
  replace oz := Lib.hid (oz.out.trn v8 (NoU8.mach _) t')
  replace v1 := v1.trn t' n_v1_v8.out
  replace v2 := v2.trn t' n_v2_v8.out
  replace v3 := v3.trn t' n_v3_v8.out
  replace v4 := v4.trn t' n_v4_v8.out
  replace v5 := v5.trn t' n_v5_v8.out
  replace v6 := v6.trn t' n_v6_v8.out
  replace v7 := v7.trn t' n_v7_v8.out
  replace v9 := v9.trn t' n_v8_v9.out.symm
  replace HD := Lib.hid (HD.out.trn HL_v8.out t')
  clear t' v8
  have v8 := r'
  clear r'
  go_wp2_with (first | ((with_reducible refine storeTrap (k := 3) (v := 32) v9 ?_ ?_ ?_ ?_); rfl; rfl; rfl; intro w' r' t'; refine Hid.out ?_))
  refine Lib.hid ?_
  replace ob := Lib.hid (ob.out.trn v9 (NoU8.trap _ _) t')
  replace oz := Lib.hid (oz.out.trn v9 (NoU8.trap _ _) t')
  replace v1 := v1.trn t' n_v1_v9.out
  replace v2 := v2.trn t' n_v2_v9.out
  replace v3 := v3.trn t' n_v3_v9.out
  replace v4 := v4.trn t' n_v4_v9.out
  replace v5 := v5.trn t' n_v5_v9.out
  replace v6 := v6.trn t' n_v6_v9.out
  replace v7 := v7.trn t' n_v7_v9.out
  replace v8 := v8.trn t' n_v8_v9.out
  replace HD := Lib.hid (HD.out.trn HL_v9.out t')
  clear t' v9
  have v9 := r'
  clear r'
  go_wp2_with (first | ((with_reducible refine load33 v1 rfl ?_ ?_ ?_); rfl; rfl) | (go_at_call 12; (with_reducible refine (Cd.out _ oz.out (T.dn HD.out)).mono ?_); rintro e w' ⟨md, rfl, od, ed, d'⟩; refine Hid.out ?_))
  refine Lib.hid ?_
  replace v1 := v1.dn d'
  replace v2 := v2.dn d'
  replace v3 := v3.dn d'
  replace v4 := v4.dn d'
  replace v5 := v5.dn d'
  replace v6 := v6.dn d'
  replace v7 := v7.dn d'
  replace v8 := v8.dn d'
  replace v9 := v9.dn d'
  replace ob := Lib.hid (ob.out.dn d')
  replace oz := Lib.hid (oz.out.dn d')
  replace HD := Lib.hid (HD.out.trans d')
  clear d'
  have ld := od.out.len
  have nd4 : md.c.getD 4 0 = 4294950912 := by rw [ed.out.c]; rfl
  clear Cd od ed
  go_wp2_with (first | ((with_reducible refine wpList_alloc zeroMach ?_ ?_); rfl; intro b_v10 w' nn; refine Hid.out ?_))
  refine Lib.hid ?_
  have n_v1_v10 := Lib.hid (nn.ne _ v1.lt)
  have n_v2_v10 := Lib.hid (nn.ne _ v2.lt)
  have n_v3_v10 := Lib.hid (nn.ne _ v3.lt)
  have n_v4_v10 := Lib.hid (nn.ne _ v4.lt)
  have n_v5_v10 := Lib.hid (nn.ne _ v5.lt)
  have n_v6_v10 := Lib.hid (nn.ne _ v6.lt)
  have n_v7_v10 := Lib.hid (nn.ne _ v7.lt)
  have n_v8_v10 := Lib.hid (nn.ne _ v8.lt)
  have n_v9_v10 := Lib.hid (nn.ne _ v9.lt)
  have HL_v10 : Hid (W.heap.size ≤ b_v10) := Lib.hid (Blk.hi nn HD.out.size)
  have d' := nn.dn
  replace v1 := v1.dn d'
  replace v2 := v2.dn d'
  replace v3 := v3.dn d'
  replace v4 := v4.dn d'
  replace v5 := v5.dn d'
  replace v6 := v6.dn d'
  replace v7 := v7.dn d'
  replace v8 := v8.dn d'
  replace v9 := v9.dn d'
  replace ob := Lib.hid (ob.out.dn d')
  replace oz := Lib.hid (oz.out.dn d')
  replace HD := Lib.hid (HD.out.trans d')
  have v10 := nn.blk
  clear d' nn
  go_wp2_with (first | ((with_reducible refine wpList_alloc zeroTrap ?_ ?_); rfl; intro b_v11 w' nn; refine Hid.out ?_))
  refine Lib.hid ?_
  have n_v1_v11 := Lib.hid (nn.ne _ v1.lt)
  have n_v2_v11 := Lib.hid (nn.ne _ v2.lt)
  have n_v3_v11 := Lib.hid (nn.ne _ v3.lt)
  have n_v4_v11 := Lib.hid (nn.ne _ v4.lt)
  have n_v5_v11 := Lib.hid (nn.ne _ v5.lt)
  have n_v6_v11 := Lib.hid (nn.ne _ v6.lt)
  have n_v7_v11 := Lib.hid (nn.ne _ v7.lt)
  have n_v8_v11 := Lib.hid (nn.ne _ v8.lt)
  have n_v9_v11 := Lib.hid (nn.ne _ v9.lt)
  have n_v10_v11 := Lib.hid (nn.ne _ v10.lt)
  have HL_v11 : Hid (W.heap.size ≤ b_v11) := Lib.hid (Blk.hi nn HD.out.size)
  have d' := nn.dn
  replace v1 := v1.dn d'
  replace v2 := v2.dn d'
  replace v3 := v3.dn d'
  replace v4 := v4.dn d'
  replace v5 := v5.dn d'
  replace v6 := v6.dn d'
  replace v7 := v7.dn d'
  replace v8 := v8.dn d'
  replace v9 := v9.dn d'
  replace v10 := v10.dn d'
  replace ob := Lib.hid (ob.out.dn d')
  replace oz := Lib.hid (oz.out.dn d')
  replace HD := Lib.hid (HD.out.trans d')
  have v11 := nn.blk
  clear d' nn
  go_wp2_with (first | ((with_reducible refine store33 md ld v10 zlen ?_ ?_ ?_ ?_); rfl; rfl; rfl; intro w' r' t'; refine Hid.out ?_))
  refine Lib.hid ?_
  replace ob := Lib.hid (ob.out.trn v10 (NoU8.mach _) t')
  replace oz := Lib.hid (oz.out.trn v10 (NoU8.mach _) t')
  replace v1 := v1.trn t' n_v1_v10.out
  replace v2 := v2.trn t' n_v2_v10.out
  replace v3 := v3.trn t' n_v3_v10.out
  replace v4 := v4.trn t' n_v4_v10.out
  replace v5 := v5.trn t' n_v5_v10.out
  replace v6 := v6.trn t' n_v6_v10.out
  replace v7 := v7.trn t' n_v7_v10.out
  replace v8 := v8.trn t' n_v8_v10.out
  replace v9 := v9.trn t' n_v9_v10.out
  replace v11 := v11.trn t' n_v10_v11.out.symm
  replace HD := Lib.hid (HD.out.trn HL_v10.out t')
  clear t' v10
  have v10 := r'
  clear r'
  go_wp2_with (first | ((with_reducible refine storeTrap (k := 0) (v := 0) v11 ?_ ?_ ?_ ?_); rfl; rfl; rfl; intro w' r' t'; refine Hid.out ?_))
  refine Lib.hid ?_
  replace ob := Lib.hid (ob.out.trn v11 (NoU8.trap _ _) t')
  replace oz := Lib.hid (oz.out.trn v11 (NoU8.trap _ _) t')
  replace v1 := v1.trn t' n_v1_v11.out
  replace v2 := v2.trn t' n_v2_v11.out
  replace v3 := v3.trn t' n_v3_v11.out
  replace v4 := v4.trn t' n_v4_v11.out
  replace v5 := v5.trn t' n_v5_v11.out
  replace v6 := v6.trn t' n_v6_v11.out
  replace v7 := v7.trn t' n_v7_v11.out
  replace v8 := v8.trn t' n_v8_v11.out
  replace v9 := v9.trn t' n_v9_v11.out
  replace v10 := v10.trn t' n_v10_v11.out
  replace HD := Lib.hid (HD.out.trn HL_v11.out t')
  clear t' v11
  have v11 := r'
  clear r'
  go_wp2_with (first | ((with_reducible refine load33 v1 rfl ?_ ?_ ?_); rfl; rfl) | (go_at_call 12; (with_reducible refine (Ce.out _ oz.out (T.dn HD.out)).mono ?_); rintro e w' ⟨me, rfl, oe, ee, d'⟩; refine Hid.out ?_))
  refine Lib.hid ?_
  replace v1 := v1.dn d'
  replace v2 := v2.dn d'
  replace v3 := v3.dn d'
  replace v4 := v4.dn d'
  replace v5 := v5.dn d'
  replace v6 := v6.dn d'
  replace v7 := v7.dn d'
  replace v8 := v8.dn d'
  replace v9 := v9.dn d'
  replace v10 := v10.dn d'
  replace v11 := v11.dn d'
  replace ob := Lib.hid (ob.out.dn d')
  replace oz := Lib.hid (oz.out.dn d')
  replace HD := Lib.hid (HD.out.trans d')
  clear d'
  have le := oe.out.len
  have ne16 : me.c.getD 16 0 = 0 := by rw [ee.out.c]; rfl
  clear Ce oe ee
  go_wp2_with (first | ((with_reducible refine wpList_alloc zeroMach ?_ ?_); rfl; intro b_v12 w' nn; refine Hid.out ?_))
  refine Lib.hid ?_
  have n_v1_v12 := Lib.hid (nn.ne _ v1.lt)
  have n_v2_v12 := Lib.hid (nn.ne _ v2.lt)
  have n_v3_v12 := Lib.hid (nn.ne _ v3.lt)
  have n_v4_v12 := Lib.hid (nn.ne _ v4.lt)
  have n_v5_v12 := Lib.hid (nn.ne _ v5.lt)
  have n_v6_v12 := Lib.hid (nn.ne _ v6.lt)
  have n_v7_v12 := Lib.hid (nn.ne _ v7.lt)
  have n_v8_v12 := Lib.hid (nn.ne _ v8.lt)
  have n_v9_v12 := Lib.hid (nn.ne _ v9.lt)
  have n_v10_v12 := Lib.hid (nn.ne _ v10.lt)
  have n_v11_v12 := Lib.hid (nn.ne _ v11.lt)
  have HL_v12 : Hid (W.heap.size ≤ b_v12) := Lib.hid (Blk.hi nn HD.out.size)
  have d' := nn.dn
  replace v1 := v1.dn d'
  replace v2 := v2.dn d'
  replace v3 := v3.dn d'
  replace v4 := v4.dn d'
  replace v5 := v5.dn d'
  replace v6 := v6.dn d'
  replace v7 := v7.dn d'
  replace v8 := v8.dn d'
  replace v9 := v9.dn d'
  replace v10 := v10.dn d'
  replace v11 := v11.dn d'
  replace ob := Lib.hid (ob.out.dn d')
  replace oz := Lib.hid (oz.out.dn d')
  replace HD := Lib.hid (HD.out.trans d')
  have v12 := nn.blk
  clear d' nn
  go_wp2_with (first | ((with_reducible refine wpList_alloc zeroTrap ?_ ?_); rfl; intro b_v13 w' nn; refine Hid.out ?_))
  refine Lib.hid ?_
  have n_v1_v13 := Lib.hid (nn.ne _ v1.lt)
  have n_v2_v13 := Lib.hid (nn.ne _ v2.lt)
  have n_v3_v13 := Lib.hid (nn.ne _ v3.lt)
  have n_v4_v13 := Lib.hid (nn.ne _ v4.lt)
  have n_v5_v13 := Lib.hid (nn.ne _ v5.lt)
  have n_v6_v13 := Lib.hid (nn.ne _ v6.lt)
  have n_v7_v13 := Lib.hid (nn.ne _ v7.lt)
  have n_v8_v13 := Lib.hid (nn.ne _ v8.lt)
  have n_v9_v13 := Lib.hid (nn.ne _ v9.lt)
  have n_v10_v13 := Lib.hid (nn.ne _ v10.lt)
  have n_v11_v13 := Lib.hid (nn.ne _ v11.lt)
  have n_v12_v13 := Lib.hid (nn.ne _ v12.lt)
  have HL_v13 : Hid (W.heap.size ≤ b_v13) := Lib.hid (Blk.hi nn HD.out.size)
  have d' := nn.dn
  replace v1 := v1.dn d'
  replace v2 := v2.dn d'
  replace v3 := v3.dn d'
  replace v4 := v4.dn d'
  replace v5 := v5.dn d'
  replace v6 := v6.dn d'
  replace v7 := v7.dn d'
  replace v8 := v8.dn d'
  replace v9 := v9.dn d'
  replace v10 := v10.dn d'
  replace v11 := v11.dn d'
  replace v12 := v12.dn d'
  replace ob := Lib.hid (ob.out.dn d')
  replace oz := Lib.hid (oz.out.dn d')
  replace HD := Lib.hid (HD.out.trans d')
  have v13 := nn.blk
  clear d' nn
  go_wp2_with (first | ((with_reducible refine store33 me le v12 zlen ?_ ?_ ?_ ?_); rfl; rfl; rfl; intro w' r' t'; refine Hid.out ?_))
  refine Lib.hid ?_
  replace ob := Lib.hid (ob.out.trn v12 (NoU8.mach _) t')
  replace oz := Lib.hid (oz.out.trn v12 (NoU8.mach _) t')
  replace v1 := v1.trn t' n_v1_v12.out
  replace v2 := v2.trn t' n_v2_v12.out
  replace v3 := v3.trn t' n_v3_v12.out
  replace v4 := v4.trn t' n_v4_v12.out
  replace v5 := v5.trn t' n_v5_v12.out
  replace v6 := v6.trn t' n_v6_v12.out
  replace v7 := v7.trn t' n_v7_v12.out
  replace v8 := v8.trn t' n_v8_v12.out
  replace v9 := v9.trn t' n_v9_v12.out
  replace v10 := v10.trn t' n_v10_v12.out
  replace v11 := v11.trn t' n_v11_v12.out
  replace v13 := v13.trn t' n_v12_v13.out.symm
  replace HD := Lib.hid (HD.out.trn HL_v12.out t')
  clear t' v12
  have v12 := r'
  clear r'
  go_wp2_with (first | ((with_reducible refine storeTrap (k := 0) (v := 0) v13 ?_ ?_ ?_ ?_); rfl; rfl; rfl; intro w' r' t'; refine Hid.out ?_))
  refine Lib.hid ?_
  replace ob := Lib.hid (ob.out.trn v13 (NoU8.trap _ _) t')
  replace oz := Lib.hid (oz.out.trn v13 (NoU8.trap _ _) t')
  replace v1 := v1.trn t' n_v1_v13.out
  replace v2 := v2.trn t' n_v2_v13.out
  replace v3 := v3.trn t' n_v3_v13.out
  replace v4 := v4.trn t' n_v4_v13.out
  replace v5 := v5.trn t' n_v5_v13.out
  replace v6 := v6.trn t' n_v6_v13.out
  replace v7 := v7.trn t' n_v7_v13.out
  replace v8 := v8.trn t' n_v8_v13.out
  replace v9 := v9.trn t' n_v9_v13.out
  replace v10 := v10.trn t' n_v10_v13.out
  replace v11 := v11.trn t' n_v11_v13.out
  replace v12 := v12.trn t' n_v12_v13.out
  replace HD := Lib.hid (HD.out.trn HL_v13.out t')
  clear t' v13
  have v13 := r'
  clear r'
  go_wp2_with (first | ((with_reducible refine load33 v1 rfl ?_ ?_ ?_); rfl; rfl) | (go_at_call 12; (with_reducible refine (Cf.out _ oz.out (T.dn HD.out)).mono ?_); rintro e w' ⟨mf, rfl, of, ef, d'⟩; refine Hid.out ?_))
  refine Lib.hid ?_
  replace v1 := v1.dn d'
  replace v2 := v2.dn d'
  replace v3 := v3.dn d'
  replace v4 := v4.dn d'
  replace v5 := v5.dn d'
  replace v6 := v6.dn d'
  replace v7 := v7.dn d'
  replace v8 := v8.dn d'
  replace v9 := v9.dn d'
  replace v10 := v10.dn d'
  replace v11 := v11.dn d'
  replace v12 := v12.dn d'
  replace v13 := v13.dn d'
  replace ob := Lib.hid (ob.out.dn d')
  replace oz := Lib.hid (oz.out.dn d')
  replace HD := Lib.hid (HD.out.trans d')
  clear d'
  have lf := of.out.len
  have qf : ∀ w, (Op.equalIn 10000 26 (.agg (ints .u32 mf.c)) (.agg (ints .u32 (awN b_g awC).c))).run Tryd.prog w = .ok true w := fun w => by rw [ef.out.c]; exact eq29_self (c := awC) rfl w
  clear Cf of ef
  go_wp2_with (first | ((with_reducible refine wpList_alloc zeroMach ?_ ?_); rfl; intro b_v14 w' nn; refine Hid.out ?_))
  refine Lib.hid ?_
  have n_v1_v14 := Lib.hid (nn.ne _ v1.lt)
  have n_v2_v14 := Lib.hid (nn.ne _ v2.lt)
  have n_v3_v14 := Lib.hid (nn.ne _ v3.lt)
  have n_v4_v14 := Lib.hid (nn.ne _ v4.lt)
  have n_v5_v14 := Lib.hid (nn.ne _ v5.lt)
  have n_v6_v14 := Lib.hid (nn.ne _ v6.lt)
  have n_v7_v14 := Lib.hid (nn.ne _ v7.lt)
  have n_v8_v14 := Lib.hid (nn.ne _ v8.lt)
  have n_v9_v14 := Lib.hid (nn.ne _ v9.lt)
  have n_v10_v14 := Lib.hid (nn.ne _ v10.lt)
  have n_v11_v14 := Lib.hid (nn.ne _ v11.lt)
  have n_v12_v14 := Lib.hid (nn.ne _ v12.lt)
  have n_v13_v14 := Lib.hid (nn.ne _ v13.lt)
  have HL_v14 : Hid (W.heap.size ≤ b_v14) := Lib.hid (Blk.hi nn HD.out.size)
  have d' := nn.dn
  replace v1 := v1.dn d'
  replace v2 := v2.dn d'
  replace v3 := v3.dn d'
  replace v4 := v4.dn d'
  replace v5 := v5.dn d'
  replace v6 := v6.dn d'
  replace v7 := v7.dn d'
  replace v8 := v8.dn d'
  replace v9 := v9.dn d'
  replace v10 := v10.dn d'
  replace v11 := v11.dn d'
  replace v12 := v12.dn d'
  replace v13 := v13.dn d'
  replace ob := Lib.hid (ob.out.dn d')
  replace oz := Lib.hid (oz.out.dn d')
  replace HD := Lib.hid (HD.out.trans d')
  have v14 := nn.blk
  clear d' nn
  go_wp2_with (first | ((with_reducible refine wpList_alloc zeroTrap ?_ ?_); rfl; intro b_v15 w' nn; refine Hid.out ?_))
  refine Lib.hid ?_
  have n_v1_v15 := Lib.hid (nn.ne _ v1.lt)
  have n_v2_v15 := Lib.hid (nn.ne _ v2.lt)
  have n_v3_v15 := Lib.hid (nn.ne _ v3.lt)
  have n_v4_v15 := Lib.hid (nn.ne _ v4.lt)
  have n_v5_v15 := Lib.hid (nn.ne _ v5.lt)
  have n_v6_v15 := Lib.hid (nn.ne _ v6.lt)
  have n_v7_v15 := Lib.hid (nn.ne _ v7.lt)
  have n_v8_v15 := Lib.hid (nn.ne _ v8.lt)
  have n_v9_v15 := Lib.hid (nn.ne _ v9.lt)
  have n_v10_v15 := Lib.hid (nn.ne _ v10.lt)
  have n_v11_v15 := Lib.hid (nn.ne _ v11.lt)
  have n_v12_v15 := Lib.hid (nn.ne _ v12.lt)
  have n_v13_v15 := Lib.hid (nn.ne _ v13.lt)
  have n_v14_v15 := Lib.hid (nn.ne _ v14.lt)
  have HL_v15 : Hid (W.heap.size ≤ b_v15) := Lib.hid (Blk.hi nn HD.out.size)
  have d' := nn.dn
  replace v1 := v1.dn d'
  replace v2 := v2.dn d'
  replace v3 := v3.dn d'
  replace v4 := v4.dn d'
  replace v5 := v5.dn d'
  replace v6 := v6.dn d'
  replace v7 := v7.dn d'
  replace v8 := v8.dn d'
  replace v9 := v9.dn d'
  replace v10 := v10.dn d'
  replace v11 := v11.dn d'
  replace v12 := v12.dn d'
  replace v13 := v13.dn d'
  replace v14 := v14.dn d'
  replace ob := Lib.hid (ob.out.dn d')
  replace oz := Lib.hid (oz.out.dn d')
  replace HD := Lib.hid (HD.out.trans d')
  have v15 := nn.blk
  clear d' nn
  go_wp2_with (first | ((with_reducible refine store33 mf lf v14 zlen ?_ ?_ ?_ ?_); rfl; rfl; rfl; intro w' r' t'; refine Hid.out ?_))
  refine Lib.hid ?_
  replace ob := Lib.hid (ob.out.trn v14 (NoU8.mach _) t')
  replace oz := Lib.hid (oz.out.trn v14 (NoU8.mach _) t')
  replace v1 := v1.trn t' n_v1_v14.out
  replace v2 := v2.trn t' n_v2_v14.out
  replace v3 := v3.trn t' n_v3_v14.out
  replace v4 := v4.trn t' n_v4_v14.out
  replace v5 := v5.trn t' n_v5_v14.out
  replace v6 := v6.trn t' n_v6_v14.out
  replace v7 := v7.trn t' n_v7_v14.out
  replace v8 := v8.trn t' n_v8_v14.out
  replace v9 := v9.trn t' n_v9_v14.out
  replace v10 := v10.trn t' n_v10_v14.out
  replace v11 := v11.trn t' n_v11_v14.out
  replace v12 := v12.trn t' n_v12_v14.out
  replace v13 := v13.trn t' n_v13_v14.out
  replace v15 := v15.trn t' n_v14_v15.out.symm
  replace HD := Lib.hid (HD.out.trn HL_v14.out t')
  clear t' v14
  have v14 := r'
  clear r'
  go_wp2_with (first | ((with_reducible refine storeTrap (k := 5) (v := 0) v15 ?_ ?_ ?_ ?_); rfl; rfl; rfl; intro w' r' t'; refine Hid.out ?_))
  refine Lib.hid ?_
  replace ob := Lib.hid (ob.out.trn v15 (NoU8.trap _ _) t')
  replace oz := Lib.hid (oz.out.trn v15 (NoU8.trap _ _) t')
  replace v1 := v1.trn t' n_v1_v15.out
  replace v2 := v2.trn t' n_v2_v15.out
  replace v3 := v3.trn t' n_v3_v15.out
  replace v4 := v4.trn t' n_v4_v15.out
  replace v5 := v5.trn t' n_v5_v15.out
  replace v6 := v6.trn t' n_v6_v15.out
  replace v7 := v7.trn t' n_v7_v15.out
  replace v8 := v8.trn t' n_v8_v15.out
  replace v9 := v9.trn t' n_v9_v15.out
  replace v10 := v10.trn t' n_v10_v15.out
  replace v11 := v11.trn t' n_v11_v15.out
  replace v12 := v12.trn t' n_v12_v15.out
  replace v13 := v13.trn t' n_v13_v15.out
  replace v14 := v14.trn t' n_v14_v15.out
  replace HD := Lib.hid (HD.out.trn HL_v15.out t')
  clear t' v15
  have v15 := r'
  clear r'
  go_wp2_with (first | ((with_reducible refine load33 v1 rfl ?_ ?_ ?_); rfl; rfl) | (go_at_call 12; (with_reducible refine (Cg.out _ oz.out (T.dn HD.out)).mono ?_); rintro e w' ⟨mg, rfl, og, eg, d'⟩; refine Hid.out ?_))
  refine Lib.hid ?_
  replace v1 := v1.dn d'
  replace v2 := v2.dn d'
  replace v3 := v3.dn d'
  replace v4 := v4.dn d'
  replace v5 := v5.dn d'
  replace v6 := v6.dn d'
  replace v7 := v7.dn d'
  replace v8 := v8.dn d'
  replace v9 := v9.dn d'
  replace v10 := v10.dn d'
  replace v11 := v11.dn d'
  replace v12 := v12.dn d'
  replace v13 := v13.dn d'
  replace v14 := v14.dn d'
  replace v15 := v15.dn d'
  replace ob := Lib.hid (ob.out.dn d')
  replace oz := Lib.hid (oz.out.dn d')
  replace HD := Lib.hid (HD.out.trans d')
  clear d'
  have lg := og.out.len
  have ng16 : mg.c.getD 16 0 = 23 := by rw [eg.out.c]; rfl
  have ng2 : mg.c.getD 2 0 = 12 := by rw [eg.out.c]; rfl
  clear Cg og eg
  go_wp2_with (first | ((with_reducible refine wpList_alloc zeroMach ?_ ?_); rfl; intro b_v16 w' nn; refine Hid.out ?_))
  refine Lib.hid ?_
  have n_v1_v16 := Lib.hid (nn.ne _ v1.lt)
  have n_v2_v16 := Lib.hid (nn.ne _ v2.lt)
  have n_v3_v16 := Lib.hid (nn.ne _ v3.lt)
  have n_v4_v16 := Lib.hid (nn.ne _ v4.lt)
  have n_v5_v16 := Lib.hid (nn.ne _ v5.lt)
  have n_v6_v16 := Lib.hid (nn.ne _ v6.lt)
  have n_v7_v16 := Lib.hid (nn.ne _ v7.lt)
  have n_v8_v16 := Lib.hid (nn.ne _ v8.lt)
  have n_v9_v16 := Lib.hid (nn.ne _ v9.lt)
  have n_v10_v16 := Lib.hid (nn.ne _ v10.lt)
  have n_v11_v16 := Lib.hid (nn.ne _ v11.lt)
  have n_v12_v16 := Lib.hid (nn.ne _ v12.lt)
  have n_v13_v16 := Lib.hid (nn.ne _ v13.lt)
  have n_v14_v16 := Lib.hid (nn.ne _ v14.lt)
  have n_v15_v16 := Lib.hid (nn.ne _ v15.lt)
  have HL_v16 : Hid (W.heap.size ≤ b_v16) := Lib.hid (Blk.hi nn HD.out.size)
  have d' := nn.dn
  replace v1 := v1.dn d'
  replace v2 := v2.dn d'
  replace v3 := v3.dn d'
  replace v4 := v4.dn d'
  replace v5 := v5.dn d'
  replace v6 := v6.dn d'
  replace v7 := v7.dn d'
  replace v8 := v8.dn d'
  replace v9 := v9.dn d'
  replace v10 := v10.dn d'
  replace v11 := v11.dn d'
  replace v12 := v12.dn d'
  replace v13 := v13.dn d'
  replace v14 := v14.dn d'
  replace v15 := v15.dn d'
  replace ob := Lib.hid (ob.out.dn d')
  replace oz := Lib.hid (oz.out.dn d')
  replace HD := Lib.hid (HD.out.trans d')
  have v16 := nn.blk
  clear d' nn
  go_wp2_with (first | ((with_reducible refine wpList_alloc zeroTrap ?_ ?_); rfl; intro b_v17 w' nn; refine Hid.out ?_))
  refine Lib.hid ?_
  have n_v1_v17 := Lib.hid (nn.ne _ v1.lt)
  have n_v2_v17 := Lib.hid (nn.ne _ v2.lt)
  have n_v3_v17 := Lib.hid (nn.ne _ v3.lt)
  have n_v4_v17 := Lib.hid (nn.ne _ v4.lt)
  have n_v5_v17 := Lib.hid (nn.ne _ v5.lt)
  have n_v6_v17 := Lib.hid (nn.ne _ v6.lt)
  have n_v7_v17 := Lib.hid (nn.ne _ v7.lt)
  have n_v8_v17 := Lib.hid (nn.ne _ v8.lt)
  have n_v9_v17 := Lib.hid (nn.ne _ v9.lt)
  have n_v10_v17 := Lib.hid (nn.ne _ v10.lt)
  have n_v11_v17 := Lib.hid (nn.ne _ v11.lt)
  have n_v12_v17 := Lib.hid (nn.ne _ v12.lt)
  have n_v13_v17 := Lib.hid (nn.ne _ v13.lt)
  have n_v14_v17 := Lib.hid (nn.ne _ v14.lt)
  have n_v15_v17 := Lib.hid (nn.ne _ v15.lt)
  have n_v16_v17 := Lib.hid (nn.ne _ v16.lt)
  have HL_v17 : Hid (W.heap.size ≤ b_v17) := Lib.hid (Blk.hi nn HD.out.size)
  have d' := nn.dn
  replace v1 := v1.dn d'
  replace v2 := v2.dn d'
  replace v3 := v3.dn d'
  replace v4 := v4.dn d'
  replace v5 := v5.dn d'
  replace v6 := v6.dn d'
  replace v7 := v7.dn d'
  replace v8 := v8.dn d'
  replace v9 := v9.dn d'
  replace v10 := v10.dn d'
  replace v11 := v11.dn d'
  replace v12 := v12.dn d'
  replace v13 := v13.dn d'
  replace v14 := v14.dn d'
  replace v15 := v15.dn d'
  replace v16 := v16.dn d'
  replace ob := Lib.hid (ob.out.dn d')
  replace oz := Lib.hid (oz.out.dn d')
  replace HD := Lib.hid (HD.out.trans d')
  have v17 := nn.blk
  clear d' nn
  go_wp2_with (first | ((with_reducible refine store33 mg lg v16 zlen ?_ ?_ ?_ ?_); rfl; rfl; rfl; intro w' r' t'; refine Hid.out ?_))
  refine Lib.hid ?_
  replace ob := Lib.hid (ob.out.trn v16 (NoU8.mach _) t')
  replace oz := Lib.hid (oz.out.trn v16 (NoU8.mach _) t')
  replace v1 := v1.trn t' n_v1_v16.out
  replace v2 := v2.trn t' n_v2_v16.out
  replace v3 := v3.trn t' n_v3_v16.out
  replace v4 := v4.trn t' n_v4_v16.out
  replace v5 := v5.trn t' n_v5_v16.out
  replace v6 := v6.trn t' n_v6_v16.out
  replace v7 := v7.trn t' n_v7_v16.out
  replace v8 := v8.trn t' n_v8_v16.out
  replace v9 := v9.trn t' n_v9_v16.out
  replace v10 := v10.trn t' n_v10_v16.out
  replace v11 := v11.trn t' n_v11_v16.out
  replace v12 := v12.trn t' n_v12_v16.out
  replace v13 := v13.trn t' n_v13_v16.out
  replace v14 := v14.trn t' n_v14_v16.out
  replace v15 := v15.trn t' n_v15_v16.out
  replace v17 := v17.trn t' n_v16_v17.out.symm
  replace HD := Lib.hid (HD.out.trn HL_v16.out t')
  clear t' v16
  have v16 := r'
  clear r'
  go_wp2_with (first | ((with_reducible refine storeTrap (k := 0) (v := 0) v17 ?_ ?_ ?_ ?_); rfl; rfl; rfl; intro w' r' t'; refine Hid.out ?_))
  refine Lib.hid ?_
  replace ob := Lib.hid (ob.out.trn v17 (NoU8.trap _ _) t')
  replace oz := Lib.hid (oz.out.trn v17 (NoU8.trap _ _) t')
  replace v1 := v1.trn t' n_v1_v17.out
  replace v2 := v2.trn t' n_v2_v17.out
  replace v3 := v3.trn t' n_v3_v17.out
  replace v4 := v4.trn t' n_v4_v17.out
  replace v5 := v5.trn t' n_v5_v17.out
  replace v6 := v6.trn t' n_v6_v17.out
  replace v7 := v7.trn t' n_v7_v17.out
  replace v8 := v8.trn t' n_v8_v17.out
  replace v9 := v9.trn t' n_v9_v17.out
  replace v10 := v10.trn t' n_v10_v17.out
  replace v11 := v11.trn t' n_v11_v17.out
  replace v12 := v12.trn t' n_v12_v17.out
  replace v13 := v13.trn t' n_v13_v17.out
  replace v14 := v14.trn t' n_v14_v17.out
  replace v15 := v15.trn t' n_v15_v17.out
  replace v16 := v16.trn t' n_v16_v17.out
  replace HD := Lib.hid (HD.out.trn HL_v17.out t')
  clear t' v17
  have v17 := r'
  clear r'
  go_upto_region 13 with (fail)
  simp only [List.append]
  have ck0 := v2.word la 1 rfl
  rw [na1] at ck0
  have ck1 := v2.word la 16 rfl
  rw [na16] at ck1
  have ck2 := v6.word lc 3 rfl
  rw [nc3] at ck2
  have ck3 := v6.word lc 16 rfl
  rw [nc16] at ck3
  have ck4 := v10.word ld 4 rfl
  rw [nd4] at ck4
  have ck5 := v12.word le 16 rfl
  rw [ne16] at ck5
  have ck6 := v16.word lg 16 rfl
  rw [ng16] at ck6
  have ck7 := v16.word lg 2 rfl
  rw [ng2] at ck7
  go_wp2_with (first | ((with_reducible refine loadTrap v3 ?_ ?_ ?_); rfl; rfl) | ((with_reducible refine loadTrap v9 ?_ ?_ ?_); rfl; rfl) | ((with_reducible refine loadTrap v15 ?_ ?_ ?_); rfl; rfl) | ((with_reducible refine loadCore v14 lf ?_ ?_ ?_); rfl; rfl) | ((with_reducible refine loadCore v1 rfl ?_ ?_ ?_); rfl; rfl) | (go_at_call 23; (with_reducible refine (Cz.out _).mono ?_); rintro e w' ⟨rfl, d'⟩; refine Hid.out ?_))
  refine Lib.hid ?_
  clear ck0 ck1 ck2 ck3 ck4 ck5 ck6 ck7
  replace v1 := v1.dn d'
  replace v2 := v2.dn d'
  replace v3 := v3.dn d'
  replace v4 := v4.dn d'
  replace v5 := v5.dn d'
  replace v6 := v6.dn d'
  replace v7 := v7.dn d'
  replace v8 := v8.dn d'
  replace v9 := v9.dn d'
  replace v10 := v10.dn d'
  replace v11 := v11.dn d'
  replace v12 := v12.dn d'
  replace v13 := v13.dn d'
  replace v14 := v14.dn d'
  replace v15 := v15.dn d'
  replace v16 := v16.dn d'
  replace v17 := v17.dn d'
  replace ob := Lib.hid (ob.out.dn d')
  replace oz := Lib.hid (oz.out.dn d')
  replace HD := Lib.hid (HD.out.trans d')
  clear d'
  go_wp2_with fail
  go_ret
  exact ⟨rfl, HD.out⟩
end Go.Proofs.YthkhahfhbhgfhaaDoor
