/-
  Contracts over the translated program and the plain facts behind them, of the texts: ExDo, StMath, StLaw, StConf, StBase, StCalls, StChk, StStep. Conditions: those that stand in each theorem.
-/
import Derived.Great.BuildSlice
import Derived.Test.YtclpdjpaaagkdaaGreatDoorPmG
import Derived.Test.YtclpdjpaaagkdaaGreatDoorPmH
import Derived.Test.YtclpdjpaaagkdaaGreatDoorPmT
import Derived.Test.YtclpdjpaaagkdaaGreatDoorPmB
import Derived.Test.YtclpdjpaaagkdaaGreatDoorPmC
import Derived.Test.YtclpdjpaaagkdaaGreatDoorPmA
import Derived.Test.YtclpdjpaaagkdaaGreatDoorPmU
import Derived.Test.YtclpdjpaaagkdaaGreatDoorPmX
namespace Go.Proofs.YtclpdjpaaagkdaaGreatDoor
open Go.ChangeShapes Go.WideShapes Go.ChangeAt Go.RowKit Go.Sort
set_option linter.unusedVariables false

theorem index_ops (b k : Nat) (hk : k < 26) (v : Value) (hv : (opsOf b)[k]? = some v) (u : World) : (Instr.index 114 (.agg (opsOf b)) (.int .i64 (k : Int))).run Tryz.prog u = .ok v u := by
 have hi : (Tryz.prog.info? 113).map (·.size) = some 1 := by kernel_rfl
 have hs : (sizeOf 113).run Tryz.prog u = .ok 1 u := by
   cases hq : Tryz.prog.info? 113 with
   | none => rw [hq] at hi; cases hi
   | some i => rw [hq] at hi; simp only [Option.map_some, Option.some.injEq] at hi; simp [sizeOf, typeInfo, hq, hi]
 unfold Instr.index
 simp [go_sem, asIntOf, run_underlying Tryz.underlying114, run_underlying Tryz.underlying113, part, isAgg, hs, hv]
 omega
theorem sum_hid (c : List Int) (ra imm : Int) : Hid ((M.reg c ra + M.iw imm) % 4294967296 = M.ea c ra imm) := Lib.hid rfl
theorem alv_rng {w : World} {m : Mc} (hm : m.Ok w) (a n : Int) (n0 : 1 ≤ n) (n1 : n ≤ 4) : 0 ≤ M.alv m.c m.xs a n ∧ M.alv m.c m.xs a n < 4294967296 := by
 unfold M.alv
 split
 · unfold M.ld
   split
   · have hb : M.By (M.rd m.xs (M.ub m.c + a).toNat n.toNat) := fun x hx => hm.mem.2.1 x (by unfold M.rd at hx; exact List.mem_of_mem_drop (List.mem_of_mem_take hx))
     have h := M.leval_range hb
     have hl : (M.rd m.xs (M.ub m.c + a).toNat n.toNat).length ≤ 4 := by
       unfold M.rd
       rw [List.length_take]
       omega
     generalize (M.rd m.xs (M.ub m.c + a).toNat n.toNat).length = l at h hl
     refine ⟨h.1, Int.lt_of_lt_of_le h.2 ?_⟩
     rcases (by omega : l = 0 ∨ l = 1 ∨ l = 2 ∨ l = 3 ∨ l = 4) with rfl | rfl | rfl | rfl | rfl <;> decide
   · decide
 · decide
set_option maxRecDepth 100000 in
set_option maxHeartbeats 2000000 in
theorem xExec (m : Mc) (op rd ra rb imm : Int) (W : World) (hm : m.Ok W) (hs : m.xs.length ≤ 100000) (T : Is.Tabs W) (i0 : -2147483648 ≤ imm) (i1 : imm < 2147483648) (hv : Is.M.ok op rd ra rb imm = true) (hp : Is.M.priv op = false) :
   Calls Tryz.prog 69 #[.agg (mach m), .agg (ins op rd ra rb imm)] W fun e W' => ExRet W m (M.ex m.c m.xs op rd ra rb imm) e W' := by
 have hc := hm.core
 have hx := M.reg_rng hc ra
 have hy := M.reg_rng hc rb
 have hz := M.reg_rng hc rd
 have he := M.ea_rng m.c ra imm
 have hop : 1 ≤ op ∧ op ≤ 20 := Is.M.plain_op hv hp
 obtain ⟨o1, o2⟩ := hop
 have hall : op = 1 ∨ op = 2 ∨ op = 3 ∨ op = 4 ∨ op = 5 ∨ op = 6 ∨ op = 7 ∨ op = 8 ∨ op = 9 ∨ op = 10 ∨ op = 11 ∨ op = 12 ∨ op = 13 ∨ op = 14 ∨ op = 15 ∨ op = 16 ∨ op = 17 ∨ op = 18 ∨ op = 19 ∨ op = 20 := by omega
 clear o1 o2
 rcases hall with rfl | rfl | rfl | rfl | rfl | rfl | rfl | rfl | rfl | rfl | rfl | rfl | rfl | rfl | rfl | rfl | rfl | rfl | rfl | rfl
 · refine exBy m 1 rd ra rb imm W hm T i0 i1 hv hp 114 (fun b u => by go_simp) _ (fun b u => index_ops b 1 (by decide) _ rfl u) fun w b g ow => ?_
   have hu := M.U.ev (op := 1) (M.U_reg hc ra) (M.U_reg hc rb)
   rw [M.ex_alu _ _ _ _ _ _ _ (by decide)]
   exact (xCompute m 1 rd ra rb imm _ _ _ b w g ow _ hx.1 hx.2 hy.1 hy.2 rfl hu.lo hu.hi _ rfl).mono fun e w' h => ExRet.of ow ((hc.setreg rd ⟨hu.lo, hu.hi⟩).adv 4) rfl h
 · refine exBy m 2 rd ra rb imm W hm T i0 i1 hv hp 114 (fun b u => by go_simp) _ (fun b u => index_ops b 2 (by decide) _ rfl u) fun w b g ow => ?_
   have hu := M.U.ev (op := 2) (M.U_reg hc ra) (M.U_reg hc rb)
   rw [M.ex_alu _ _ _ _ _ _ _ (by decide)]
   exact (xCompute m 2 rd ra rb imm _ _ _ b w g ow _ hx.1 hx.2 hy.1 hy.2 rfl hu.lo hu.hi _ rfl).mono fun e w' h => ExRet.of ow ((hc.setreg rd ⟨hu.lo, hu.hi⟩).adv 4) rfl h
 · refine exBy m 3 rd ra rb imm W hm T i0 i1 hv hp 114 (fun b u => by go_simp) _ (fun b u => index_ops b 3 (by decide) _ rfl u) fun w b g ow => ?_
   have hu := M.U.ev (op := 3) (M.U_reg hc ra) (M.U_reg hc rb)
   rw [M.ex_alu _ _ _ _ _ _ _ (by decide)]
   exact (xCompute m 3 rd ra rb imm _ _ _ b w g ow _ hx.1 hx.2 hy.1 hy.2 rfl hu.lo hu.hi _ rfl).mono fun e w' h => ExRet.of ow ((hc.setreg rd ⟨hu.lo, hu.hi⟩).adv 4) rfl h
 · refine exBy m 4 rd ra rb imm W hm T i0 i1 hv hp 114 (fun b u => by go_simp) _ (fun b u => index_ops b 4 (by decide) _ rfl u) fun w b g ow => ?_
   have hu := M.U.ev (op := 4) (M.U_reg hc ra) (M.U_reg hc rb)
   rw [M.ex_alu _ _ _ _ _ _ _ (by decide)]
   exact (xCompute m 4 rd ra rb imm _ _ _ b w g ow _ hx.1 hx.2 hy.1 hy.2 rfl hu.lo hu.hi _ rfl).mono fun e w' h => ExRet.of ow ((hc.setreg rd ⟨hu.lo, hu.hi⟩).adv 4) rfl h
 · refine exBy m 5 rd ra rb imm W hm T i0 i1 hv hp 114 (fun b u => by go_simp) _ (fun b u => index_ops b 5 (by decide) _ rfl u) fun w b g ow => ?_
   have hu := M.U.ev (op := 5) (M.U_reg hc ra) (M.U_reg hc rb)
   rw [M.ex_alu _ _ _ _ _ _ _ (by decide)]
   exact (xCompute m 5 rd ra rb imm _ _ _ b w g ow _ hx.1 hx.2 hy.1 hy.2 rfl hu.lo hu.hi _ rfl).mono fun e w' h => ExRet.of ow ((hc.setreg rd ⟨hu.lo, hu.hi⟩).adv 4) rfl h
 · refine exBy m 6 rd ra rb imm W hm T i0 i1 hv hp 114 (fun b u => by go_simp) _ (fun b u => index_ops b 6 (by decide) _ rfl u) fun w b g ow => ?_
   have hu := M.U.ev (op := 6) (M.U_reg hc ra) (M.U_reg hc rb)
   rw [M.ex_alu _ _ _ _ _ _ _ (by decide)]
   exact (xCompute m 6 rd ra rb imm _ _ _ b w g ow _ hx.1 hx.2 hy.1 hy.2 rfl hu.lo hu.hi _ rfl).mono fun e w' h => ExRet.of ow ((hc.setreg rd ⟨hu.lo, hu.hi⟩).adv 4) rfl h
 · refine exBy m 7 rd ra rb imm W hm T i0 i1 hv hp 114 (fun b u => by go_simp) _ (fun b u => index_ops b 7 (by decide) _ rfl u) fun w b g ow => ?_
   have hu := M.U.ev (op := 7) (M.U_reg hc ra) (M.U_reg hc rb)
   rw [M.ex_alu _ _ _ _ _ _ _ (by decide)]
   exact (xCompute m 7 rd ra rb imm _ _ _ b w g ow _ hx.1 hx.2 hy.1 hy.2 rfl hu.lo hu.hi _ rfl).mono fun e w' h => ExRet.of ow ((hc.setreg rd ⟨hu.lo, hu.hi⟩).adv 4) rfl h
 · refine exBy m 8 rd ra rb imm W hm T i0 i1 hv hp 114 (fun b u => by go_simp) _ (fun b u => index_ops b 8 (by decide) _ rfl u) fun w b g ow => ?_
   have hu := M.U.ev (op := 8) (M.U_reg hc ra) (M.U_reg hc rb)
   rw [M.ex_alu _ _ _ _ _ _ _ (by decide)]
   exact (xCompute m 8 rd ra rb imm _ _ _ b w g ow _ hx.1 hx.2 hy.1 hy.2 rfl hu.lo hu.hi _ rfl).mono fun e w' h => ExRet.of ow ((hc.setreg rd ⟨hu.lo, hu.hi⟩).adv 4) rfl h
 · refine exBy m 9 rd ra rb imm W hm T i0 i1 hv hp 115 (fun b u => by go_simp) _ (fun b u => index_ops b 9 (by decide) _ rfl u) fun w b g ow => ?_
   rw [M.ex_addi]
   exact (xAddi m 9 rd ra rb imm _ _ _ b w g ow i0 i1 hx.1 hx.2 _ (sum_hid _ _ _) he.1 he.2 _ rfl).mono fun e w' h => ExRet.of ow ((hc.setreg rd he).adv 4) rfl h
 · refine exBy m 10 rd ra rb imm W hm T i0 i1 hv hp 116 (fun b u => by go_simp) _ (fun b u => index_ops b 10 (by decide) _ rfl u) fun w b g ow => ?_
   rw [M.ex_lui]
   have hu := M.wrap_rng (M.iw imm * 16384)
   exact (xLui m 10 rd ra rb imm _ _ _ b w g ow i0 i1 _ rfl hu.1 hu.2 _ rfl).mono fun e w' h => ExRet.of ow ((hc.setreg rd hu).adv 4) rfl h
 · refine exBy m 11 rd ra rb imm W hm T i0 i1 hv hp 117 (fun b u => by go_simp) _ (fun b u => index_ops b 11 (by decide) _ rfl u) fun w b g ow => ?_
   rw [M.ex_lw]
   have hu := alv_rng hm (M.ea m.c ra imm) 4 (by decide) (by decide)
   by_cases hk : M.acz m.c m.xs.length (M.ea m.c ra imm) 4 = 0
   · rw [M.exL_ok _ _ _ hk]
     exact (xLWOk m 11 rd ra rb imm _ _ _ b w g ow i0 i1 hx.1 hx.2 hs _ he.1 he.2 (sum_hid _ _ _) _ hu.1 hu.2 hk rfl _ rfl).mono fun e w' h => ExRet.of ow ((hc.setreg rd hu).adv 4) rfl h
   · rw [M.exL_no _ _ _ hk]
     exact (xLWNo m 11 rd ra rb imm _ _ _ b w g ow i0 i1 hx.1 hx.2 hs _ he.1 he.2 (sum_hid _ _ _) _ _ rfl (M.atv_no hk) hk).mono fun e w' h => ExRet.of ow hc rfl h
 · refine exBy m 12 rd ra rb imm W hm T i0 i1 hv hp 118 (fun b u => by go_simp) _ (fun b u => index_ops b 12 (by decide) _ rfl u) fun w b g ow => ?_
   rw [M.ex_sw]
   by_cases hk : M.acz m.c m.xs.length (M.ea m.c ra imm) 4 = 0
   · rw [M.exS_ok _ _ _ hk]
     exact xSWOk m 12 rd ra rb imm _ _ _ b w g ow i0 i1 hx.1 hx.2 hz.1 hz.2 hs _ he.1 he.2 (sum_hid _ _ _) _ hk rfl _ rfl
   · rw [M.exS_no _ _ _ hk]
     exact (xSWNo m 12 rd ra rb imm _ _ _ b w g ow i0 i1 hx.1 hx.2 hz.1 hz.2 hs _ he.1 he.2 (sum_hid _ _ _) _ _ rfl (M.atv_no hk) hk).mono fun e w' h => ExRet.of ow hc rfl h
 · refine exBy m 13 rd ra rb imm W hm T i0 i1 hv hp 119 (fun b u => by go_simp) _ (fun b u => index_ops b 13 (by decide) _ rfl u) fun w b g ow => ?_
   rw [M.ex_lb]
   have hu := alv_rng hm (M.ea m.c ra imm) 1 (by decide) (by decide)
   by_cases hk : M.acz m.c m.xs.length (M.ea m.c ra imm) 1 = 0
   · rw [M.exL_ok _ _ _ hk]
     exact (xLBOk m 13 rd ra rb imm _ _ _ b w g ow i0 i1 hx.1 hx.2 hs _ he.1 he.2 (sum_hid _ _ _) _ hu.1 hu.2 hk rfl _ rfl).mono fun e w' h => ExRet.of ow ((hc.setreg rd hu).adv 4) rfl h
   · rw [M.exL_no _ _ _ hk]
     exact (xLBNo m 13 rd ra rb imm _ _ _ b w g ow i0 i1 hx.1 hx.2 hs _ he.1 he.2 (sum_hid _ _ _) _ _ rfl (M.atv_no hk) hk).mono fun e w' h => ExRet.of ow hc rfl h
 · refine exBy m 14 rd ra rb imm W hm T i0 i1 hv hp 120 (fun b u => by go_simp) _ (fun b u => index_ops b 14 (by decide) _ rfl u) fun w b g ow => ?_
   rw [M.ex_sb]
   by_cases hk : M.acz m.c m.xs.length (M.ea m.c ra imm) 1 = 0
   · rw [M.exS_ok _ _ _ hk]
     exact xSBOk m 14 rd ra rb imm _ _ _ b w g ow i0 i1 hx.1 hx.2 hz.1 hz.2 hs _ he.1 he.2 (sum_hid _ _ _) _ hk rfl _ rfl
   · rw [M.exS_no _ _ _ hk]
     exact (xSBNo m 14 rd ra rb imm _ _ _ b w g ow i0 i1 hx.1 hx.2 hz.1 hz.2 hs _ he.1 he.2 (sum_hid _ _ _) _ _ rfl (M.atv_no hk) hk).mono fun e w' h => ExRet.of ow hc rfl h
 · refine exBy m 15 rd ra rb imm W hm T i0 i1 hv hp 121 (fun b u => by go_simp) _ (fun b u => index_ops b 15 (by decide) _ rfl u) fun w b g ow => ?_
   rw [M.ex_br _ _ _ _ _ _ _ (by decide)]
   cases hk : M.tk 15 (M.reg m.c rd) (M.reg m.c ra)
   · rw [if_neg (by decide)]
     exact (xBranchNo m 15 rd ra rb imm _ _ _ b w g ow i0 i1 hx.1 hx.2 hz.1 hz.2 hk _ rfl).mono fun e w' h => ExRet.of ow (hc.adv _) rfl h
   · rw [if_pos rfl]
     exact (xBranchYes m 15 rd ra rb imm _ _ _ b w g ow i0 i1 hx.1 hx.2 hz.1 hz.2 hk _ rfl).mono fun e w' h => ExRet.of ow (hc.adv _) rfl h
 · refine exBy m 16 rd ra rb imm W hm T i0 i1 hv hp 121 (fun b u => by go_simp) _ (fun b u => index_ops b 16 (by decide) _ rfl u) fun w b g ow => ?_
   rw [M.ex_br _ _ _ _ _ _ _ (by decide)]
   cases hk : M.tk 16 (M.reg m.c rd) (M.reg m.c ra)
   · rw [if_neg (by decide)]
     exact (xBranchNo m 16 rd ra rb imm _ _ _ b w g ow i0 i1 hx.1 hx.2 hz.1 hz.2 hk _ rfl).mono fun e w' h => ExRet.of ow (hc.adv _) rfl h
   · rw [if_pos rfl]
     exact (xBranchYes m 16 rd ra rb imm _ _ _ b w g ow i0 i1 hx.1 hx.2 hz.1 hz.2 hk _ rfl).mono fun e w' h => ExRet.of ow (hc.adv _) rfl h
 · refine exBy m 17 rd ra rb imm W hm T i0 i1 hv hp 121 (fun b u => by go_simp) _ (fun b u => index_ops b 17 (by decide) _ rfl u) fun w b g ow => ?_
   rw [M.ex_br _ _ _ _ _ _ _ (by decide)]
   cases hk : M.tk 17 (M.reg m.c rd) (M.reg m.c ra)
   · rw [if_neg (by decide)]
     exact (xBranchNo m 17 rd ra rb imm _ _ _ b w g ow i0 i1 hx.1 hx.2 hz.1 hz.2 hk _ rfl).mono fun e w' h => ExRet.of ow (hc.adv _) rfl h
   · rw [if_pos rfl]
     exact (xBranchYes m 17 rd ra rb imm _ _ _ b w g ow i0 i1 hx.1 hx.2 hz.1 hz.2 hk _ rfl).mono fun e w' h => ExRet.of ow (hc.adv _) rfl h
 · refine exBy m 18 rd ra rb imm W hm T i0 i1 hv hp 122 (fun b u => by go_simp) _ (fun b u => index_ops b 18 (by decide) _ rfl u) fun w b g ow => ?_
   rw [M.ex_jal]
   exact (xJump m 18 rd ra rb imm _ _ _ b w g ow i0 i1 _ rfl).mono fun e w' h => ExRet.of ow ((hc.setreg rd (M.nxt_rng _)).adv _) rfl h
 · refine exBy m 19 rd ra rb imm W hm T i0 i1 hv hp 123 (fun b u => by go_simp) _ (fun b u => index_ops b 19 (by decide) _ rfl u) fun w b g ow => ?_
   rw [M.ex_jalr]
   exact (xJalr m 19 rd ra rb imm _ _ _ b w g ow i0 i1 hx.1 hx.2 _ he.1 he.2 (sum_hid _ _ _) _ rfl).mono fun e w' h => ExRet.of ow ((hc.setreg rd (M.nxt_rng _)).set _ _ he.1 he.2) rfl h
 · refine exBy m 20 rd ra rb imm W hm T i0 i1 hv hp 124 (fun b u => by go_simp) _ (fun b u => index_ops b 20 (by decide) _ rfl u) fun w b g ow => ?_
   rw [M.ex_ecall]
   exact (xCall m 20 rd ra rb imm _ _ _ b w g ow).mono fun e w' h => ExRet.of ow hc rfl h
end Go.Proofs.YtclpdjpaaagkdaaGreatDoor
namespace Go.Proofs.YtclpdjpaaagkdaaGreatDoor.M
open Go.RowKit
set_option linter.unusedVariables false

def fw (c xs : List Int) : Int := alv c xs (pc c) 4
def nowK (c xs : List Int) : Int :=
 if acz c xs.length (pc c) 4 ≠ 0 then acz c xs.length (pc c) 4
 else if Is.M.dok (fw c xs) = false then 1
 else if Is.M.priv (Is.M.dOp (fw c xs)) = true ∧ sup c = false then 2 else 0
def nowV (c xs : List Int) : Int := if acz c xs.length (pc c) 4 ≠ 0 then pc c else if nowK c xs = 0 then 0 else fw c xs
structure SRes where
 c : List Int
 z : List Int
 ys : List Int
 h : Bool
 t : Int
 k : Int
 v : Int
def tick (t : Int) : Int := (t + 1) % 18446744073709551616
def stp (c xs ys : List Int) (h : Bool) (t : Int) : SRes :=
 let w := fw c xs
 if nowK c xs ≠ 0 then ⟨enter c (nowK c xs) (nowV c xs), xs, ys, h, tick t, nowK c xs, nowV c xs⟩
 else if Is.M.priv (Is.M.dOp w) = true then
   let p := px c ys h t (Is.M.dOp w) (Is.M.dRd w) (Is.M.dRa w) (Is.M.dImm w)
   ⟨p.c, xs, p.ys, p.h, tick t, 0, 0⟩
 else
   let r := ex c xs (Is.M.dOp w) (Is.M.dRd w) (Is.M.dRa w) (Is.M.dRb w) (Is.M.dImm w)
   ⟨enter r.c r.k r.v, r.z, ys, h, tick t, r.k, r.v⟩
def stn (c xs ys : List Int) (h : Bool) (t : Int) : SRes := if h = true then ⟨c, xs, ys, h, t, 0, 0⟩ else stp c xs ys h t
def stS (c xs ys : List Int) (h : Bool) (t : Int) : SRes :=
 if h = false ∧ due c t = true then ⟨enter c 6 0, xs, ys, h, tick t, 6, 0⟩ else stn c xs ys h t

section
variable {c xs ys : List Int} {h : Bool} {t : Int}
theorem nowK_fetch (hk : acz c xs.length (pc c) 4 ≠ 0) : nowK c xs = acz c xs.length (pc c) 4 ∧ nowV c xs = pc c := by
 refine ⟨by unfold nowK; rw [if_pos hk], by unfold nowV; rw [if_pos hk]⟩
theorem nowK_bad (hk : acz c xs.length (pc c) 4 = 0) (hd : Is.M.dok (fw c xs) = false) : nowK c xs = 1 ∧ nowV c xs = fw c xs := by
 have e : nowK c xs = 1 := by unfold nowK; rw [if_neg (by omega), if_pos hd]
 exact ⟨e, by unfold nowV; rw [if_neg (by omega), e]; rfl⟩
theorem nowK_priv (hk : acz c xs.length (pc c) 4 = 0) (hd : Is.M.dok (fw c xs) = true) (hp : Is.M.priv (Is.M.dOp (fw c xs)) = true) (hs : sup c = false) : nowK c xs = 2 ∧ nowV c xs = fw c xs := by
 have e : nowK c xs = 2 := by unfold nowK; rw [if_neg (by omega), if_neg (by rw [hd]; decide), if_pos ⟨hp, hs⟩]
 exact ⟨e, by unfold nowV; rw [if_neg (by omega), e]; rfl⟩
theorem nowK_go (hk : acz c xs.length (pc c) 4 = 0) (hd : Is.M.dok (fw c xs) = true) (hp : Is.M.priv (Is.M.dOp (fw c xs)) = false ∨ sup c = true) : nowK c xs = 0 ∧ nowV c xs = 0 := by
 have e : nowK c xs = 0 := by
   unfold nowK
   rw [if_neg (by omega), if_neg (by rw [hd]; decide), if_neg]
   rintro ⟨h1, h2⟩
   rcases hp with hp | hp
   · rw [h1] at hp; cases hp
   · rw [h2] at hp; cases hp
 exact ⟨e, by unfold nowV; rw [if_neg (by omega), if_pos e]⟩
theorem stp_trap (hk : nowK c xs ≠ 0) : stp c xs ys h t = ⟨enter c (nowK c xs) (nowV c xs), xs, ys, h, tick t, nowK c xs, nowV c xs⟩ := by
 unfold stp
 simp only [if_pos hk]
theorem stp_priv (hk : nowK c xs = 0) (hp : Is.M.priv (Is.M.dOp (fw c xs)) = true) :
   stp c xs ys h t = ⟨(px c ys h t (Is.M.dOp (fw c xs)) (Is.M.dRd (fw c xs)) (Is.M.dRa (fw c xs)) (Is.M.dImm (fw c xs))).c, xs, (px c ys h t (Is.M.dOp (fw c xs)) (Is.M.dRd (fw c xs)) (Is.M.dRa (fw c xs)) (Is.M.dImm (fw c xs))).ys, (px c ys h t (Is.M.dOp (fw c xs)) (Is.M.dRd (fw c xs)) (Is.M.dRa (fw c xs)) (Is.M.dImm (fw c xs))).h, tick t, 0, 0⟩ := by
 unfold stp
 simp only [hk, hp, ne_eq, not_true_eq_false, if_false, if_true]
theorem stp_plain (hk : nowK c xs = 0) (hp : Is.M.priv (Is.M.dOp (fw c xs)) = false) :
   stp c xs ys h t = ⟨enter (ex c xs (Is.M.dOp (fw c xs)) (Is.M.dRd (fw c xs)) (Is.M.dRa (fw c xs)) (Is.M.dRb (fw c xs)) (Is.M.dImm (fw c xs))).c (ex c xs (Is.M.dOp (fw c xs)) (Is.M.dRd (fw c xs)) (Is.M.dRa (fw c xs)) (Is.M.dRb (fw c xs)) (Is.M.dImm (fw c xs))).k (ex c xs (Is.M.dOp (fw c xs)) (Is.M.dRd (fw c xs)) (Is.M.dRa (fw c xs)) (Is.M.dRb (fw c xs)) (Is.M.dImm (fw c xs))).v,
     (ex c xs (Is.M.dOp (fw c xs)) (Is.M.dRd (fw c xs)) (Is.M.dRa (fw c xs)) (Is.M.dRb (fw c xs)) (Is.M.dImm (fw c xs))).z, ys, h, tick t, (ex c xs (Is.M.dOp (fw c xs)) (Is.M.dRd (fw c xs)) (Is.M.dRa (fw c xs)) (Is.M.dRb (fw c xs)) (Is.M.dImm (fw c xs))).k, (ex c xs (Is.M.dOp (fw c xs)) (Is.M.dRd (fw c xs)) (Is.M.dRa (fw c xs)) (Is.M.dRb (fw c xs)) (Is.M.dImm (fw c xs))).v⟩ := by
 unfold stp
 simp only [hk, hp, ne_eq, not_true_eq_false, if_false, Bool.false_eq_true]
theorem stn_halted : stn c xs ys true t = ⟨c, xs, ys, true, t, 0, 0⟩ := rfl
theorem stn_on : stn c xs ys false t = stp c xs ys false t := rfl
theorem stS_halted : stS c xs ys true t = ⟨c, xs, ys, true, t, 0, 0⟩ := by unfold stS; rw [if_neg (by simp)]; rfl
theorem stS_due (hd : due c t = true) : stS c xs ys false t = ⟨enter c 6 0, xs, ys, false, tick t, 6, 0⟩ := by unfold stS; rw [if_pos ⟨rfl, hd⟩]
theorem stS_not (hd : due c t = false) : stS c xs ys h t = stn c xs ys h t := by unfold stS; rw [if_neg (by rw [hd]; simp)]
end
theorem dok_ok {w : Int} (h : Is.M.dok w = true) : Is.M.ok (Is.M.dOp w) (Is.M.dRd w) (Is.M.dRa w) (Is.M.dRb w) (Is.M.dImm w) = true := by
 unfold Is.M.dok at h
 rw [Bool.and_eq_true] at h
 exact h.1
theorem tick_rng (t : Int) : 0 ≤ tick t ∧ tick t < 18446744073709551616 := by unfold tick; omega
end Go.Proofs.YtclpdjpaaagkdaaGreatDoor.M
namespace Go.Proofs.YtclpdjpaaagkdaaGreatDoor.M
open Go.RowKit
set_option linter.unusedVariables false

theorem sSet16 (c : List Int) (i : Nat) (x : Int) (hi : i < 17) : (c.set i x).drop 17 = c.drop 17 := by rw [List.drop_set, if_pos hi]
theorem sAdv (c : List Int) (d : Int) : (adv c d).drop 17 = c.drop 17 := sSet16 _ _ _ (by decide)
theorem sReg (c : List Int) (r v : Int) : (setreg c r v).drop 17 = c.drop 17 := by
 unfold setreg
 split
 · rename_i h
   have := (stored_iff r).1 h
   exact sSet16 _ _ _ (by omega)
 · rfl
section
variable {c xs : List Int} {op rd ra rb imm : Int}
theorem ex_trap (hk : (ex c xs op rd ra rb imm).k ≠ 0) : (ex c xs op rd ra rb imm).c = c ∧ (ex c xs op rd ra rb imm).z = xs := by
 revert hk
 unfold ex exL exS
 repeat' split
 all_goals intro hk
 all_goals first | exact absurd rfl hk | exact ⟨rfl, rfl⟩
theorem ex_v0 (hk : (ex c xs op rd ra rb imm).k = 0) : (ex c xs op rd ra rb imm).v = 0 := by
 revert hk
 unfold ex exL exS
 repeat' split
 all_goals intro hk
 all_goals first | rfl | contradiction
theorem ex_k (c xs : List Int) (op rd ra rb imm : Int) : (ex c xs op rd ra rb imm).k = 0 ∨ (ex c xs op rd ra rb imm).k = 3 ∨ (ex c xs op rd ra rb imm).k = 4 ∨ (ex c xs op rd ra rb imm).k = 5 := by
 unfold ex exL exS
 repeat' split
 all_goals first
   | exact .inl rfl
   | exact .inr (.inr (.inr rfl))
   | exact (acz_three c xs.length (ea c ra imm) 4).imp_right (fun h => h.imp_right .inl)
   | exact (acz_three c xs.length (ea c ra imm) 1).imp_right (fun h => h.imp_right .inl)
theorem ex_vr (c xs : List Int) (op rd ra rb imm : Int) : 0 ≤ (ex c xs op rd ra rb imm).v ∧ (ex c xs op rd ra rb imm).v < 4294967296 := by
 have he := ea_rng c ra imm
 unfold ex exL exS
 repeat' split
 all_goals first | exact (show (0 : Int) ≤ 0 ∧ (0 : Int) < 4294967296 by decide) | exact he
theorem ex_csr (c xs : List Int) (op rd ra rb imm : Int) : (ex c xs op rd ra rb imm).c.drop 17 = c.drop 17 := by
 unfold ex exL exS
 repeat' split
 all_goals first
   | rfl
   | exact (sAdv _ _).trans (sReg _ _ _)
   | exact sAdv _ _
   | exact (sSet16 _ _ _ (by decide)).trans (sReg _ _ _)
theorem ex_zlen (c xs : List Int) (op rd ra rb imm : Int) : (ex c xs op rd ra rb imm).z.length = xs.length := by
 unfold ex exL exS
 repeat' split
 all_goals first | rfl | exact asv_len _ _ _ _ _
end
theorem nowK_vals (c xs : List Int) : nowK c xs = 0 ∨ nowK c xs = 1 ∨ nowK c xs = 2 ∨ nowK c xs = 3 ∨ nowK c xs = 4 := by
 unfold nowK
 have h := acz_three c xs.length (pc c) 4
 repeat' split
 all_goals omega
theorem nowV_rng {c xs : List Int} (hc : Core c) (hw : 0 ≤ fw c xs ∧ fw c xs < 4294967296) : 0 ≤ nowV c xs ∧ nowV c xs < 4294967296 := by
 have hp := hc.pc
 unfold nowV
 repeat' split
 all_goals first | exact hp | exact (show (0 : Int) ≤ 0 ∧ (0 : Int) < 4294967296 by decide) | exact hw
theorem nowV_zero {c xs : List Int} (hk : nowK c xs = 0) : nowV c xs = 0 := by
 unfold nowV
 split
 · rename_i h
   have := (nowK_fetch h).1
   omega
 · first | rfl | rw [if_pos hk]
theorem nowK_sup {c xs : List Int} (hk : nowK c xs = 0) (hp : Is.M.priv (Is.M.dOp (fw c xs)) = true) : sup c = true := by
 cases hs : sup c
 · by_cases ha : acz c xs.length (pc c) 4 = 0
   · cases hd : Is.M.dok (fw c xs)
     · have := (nowK_bad ha hd).1; omega
     · have := (nowK_priv ha hd hp hs).1; omega
   · have := (nowK_fetch ha).1; omega
 · rfl
theorem nowK_dok {c xs : List Int} (hk : nowK c xs = 0) : Is.M.dok (fw c xs) = true := by
 cases hd : Is.M.dok (fw c xs)
 · by_cases ha : acz c xs.length (pc c) 4 = 0
   · have := (nowK_bad ha hd).1; omega
   · have := (nowK_fetch ha).1; omega
 · rfl

structure StF (c xs ys : List Int) (t : Int) (r : SRes) : Prop where
 tk : r.t = tick t
 len : r.z.length = xs.length
 k0 : 0 ≤ r.k
 k6 : r.k ≤ 6
 trap : r.k ≠ 0 → r.c = enter c r.k r.v ∧ r.z = xs ∧ r.ys = ys ∧ r.h = false ∧ 0 ≤ r.v ∧ r.v < 4294967296
 go : r.k = 0 → r.v = 0 ∧ (sup c = false → r.c.drop 17 = c.drop 17 ∧ r.ys = ys ∧ r.h = false)
theorem stp_f {c xs ys : List Int} {t : Int} (hc : Core c) (hw : 0 ≤ fw c xs ∧ fw c xs < 4294967296) : StF c xs ys t (stp c xs ys false t) := by
 have hv := nowV_rng hc hw
 have hn := nowK_vals c xs
 by_cases hk : nowK c xs = 0
 · cases hp : Is.M.priv (Is.M.dOp (fw c xs))
   · rw [stp_plain hk hp]
     have h1 := ex_k c xs (Is.M.dOp (fw c xs)) (Is.M.dRd (fw c xs)) (Is.M.dRa (fw c xs)) (Is.M.dRb (fw c xs)) (Is.M.dImm (fw c xs))
     have h2 := ex_vr c xs (Is.M.dOp (fw c xs)) (Is.M.dRd (fw c xs)) (Is.M.dRa (fw c xs)) (Is.M.dRb (fw c xs)) (Is.M.dImm (fw c xs))
     have h3 := ex_csr c xs (Is.M.dOp (fw c xs)) (Is.M.dRd (fw c xs)) (Is.M.dRa (fw c xs)) (Is.M.dRb (fw c xs)) (Is.M.dImm (fw c xs))
     have h4 := ex_zlen c xs (Is.M.dOp (fw c xs)) (Is.M.dRd (fw c xs)) (Is.M.dRa (fw c xs)) (Is.M.dRb (fw c xs)) (Is.M.dImm (fw c xs))
     have h5 := @ex_trap c xs (Is.M.dOp (fw c xs)) (Is.M.dRd (fw c xs)) (Is.M.dRa (fw c xs)) (Is.M.dRb (fw c xs)) (Is.M.dImm (fw c xs))
     have h6 := @ex_v0 c xs (Is.M.dOp (fw c xs)) (Is.M.dRd (fw c xs)) (Is.M.dRa (fw c xs)) (Is.M.dRb (fw c xs)) (Is.M.dImm (fw c xs))
     generalize ex c xs (Is.M.dOp (fw c xs)) (Is.M.dRd (fw c xs)) (Is.M.dRa (fw c xs)) (Is.M.dRb (fw c xs)) (Is.M.dImm (fw c xs)) = r at *
     refine ⟨rfl, h4, by show 0 ≤ r.k; omega, by show r.k ≤ 6; omega, fun h => ⟨by show enter r.c r.k r.v = enter c r.k r.v; rw [(h5 h).1], (h5 h).2, rfl, rfl, h2.1, h2.2⟩, fun h => ⟨h6 h, fun _ => ⟨?_, rfl, rfl⟩⟩⟩
     show (enter r.c r.k r.v).drop 17 = c.drop 17
     rw [show r.k = 0 from h]
     exact h3
   · rw [stp_priv hk hp]
     have hs := nowK_sup hk hp
     exact ⟨rfl, rfl, Int.le_refl 0, (by decide : (0 : Int) ≤ 6), fun h => absurd rfl h, fun _ => ⟨rfl, fun h => by rw [hs] at h; cases h⟩⟩
 · rw [stp_trap hk]
   exact ⟨rfl, rfl, by show 0 ≤ nowK c xs; omega, by show nowK c xs ≤ 6; omega, fun _ => ⟨rfl, rfl, rfl, rfl, hv.1, hv.2⟩, fun h => absurd h hk⟩
theorem stS_f {c xs ys : List Int} {t : Int} (hc : Core c) (hw : 0 ≤ fw c xs ∧ fw c xs < 4294967296) : StF c xs ys t (stS c xs ys false t) := by
 cases hd : due c t
 · rw [stS_not hd, stn_on]
   exact stp_f hc hw
 · rw [stS_due hd]
   exact ⟨rfl, rfl, (by decide : (0 : Int) ≤ 6), Int.le_refl 6, fun _ => ⟨rfl, rfl, rfl, rfl, Int.le_refl 0, (by decide : (0 : Int) < 4294967296)⟩, fun h => absurd (show (6 : Int) = 0 from h) (by decide)⟩

end Go.Proofs.YtclpdjpaaagkdaaGreatDoor.M
namespace Go.Proofs.YtclpdjpaaagkdaaGreatDoor
open Go.ChangeShapes Go.WideShapes Go.ChangeAt Go.RowKit Go.Sort
set_option linter.unusedVariables false

theorem zeroI : (Tryz.prog.info? 63).map (fun i => (i.zero, i.size)) = some (some (.agg (ins 0 0 0 0 0)), (ins 0 0 0 0 0).size) := by kernel_rfl
theorem insOne (op rd ra rb imm : Int) : (ins op rd ra rb imm).all (·.oneCell') = true := by simp [ins, Value.oneCell']
theorem NoU8.one {v : Value} (h : ∀ x, v ≠ .int .u8 x) : NoU8 #[v] := by
 intro i x hx
 cases i with
 | zero => simp at hx; exact h x hx
 | succ n => simp at hx
section
variable {ops : Array Oper} {rest : List Oper} {dst : Option Tmp} {x y : Operand} {ty : TypeId} {pos : String} {aft : Array Edge} {gd : Option (Nat × Bool)} {a : Act} {w : World} {Q : Exit → Act → World → Prop} {b : Nat} {op rd ra rb imm op' rd' ra' rb' imm' : Int}
theorem storeI (r : Blk w b 63 (ins op' rd' ra' rb' imm')) (hw : Region.wanted ⟨none, .store 63 x y, ty, pos, aft, gd⟩ (yielded ops a.tmps) = true) (hx : a.eval x = .pointer (some ⟨b, 0, none⟩)) (hy : a.eval y = .agg (ins op rd ra rb imm))
   (h : ∀ w', Blk w' b 63 (ins op rd ra rb imm) → Trn b w w' → wpList Tryz.prog ops Q rest a w') : wpList Tryz.prog ops Q (⟨none, .store 63 x y, ty, pos, aft, gd⟩ :: rest) a w :=
 wpList_store_whole (ins op rd ra rb imm) r infoI rfl (insOne _ _ _ _ _) hw hx hy h
theorem wpList_box1 {P : Program} {t : TypeId} {v : Value} (hv : v.cells = #[v]) (hw : Region.wanted ⟨dst, .box t y, ty, pos, aft, gd⟩ (yielded ops a.tmps) = true) (hy : a.eval y = v)
   (h : ∀ b w', New w w' b t #[v] → wpList P ops Q rest (a.put dst (.pointer (some ⟨b, 0, none⟩))) w') : wpList P ops Q (⟨dst, .box t y, ty, pos, aft, gd⟩ :: rest) a w := by
 unfold wpList
 rw [if_pos hw]
 refine .inl ?_
 unfold Oper.wp execOp
 simp only [hy]
 simp only [Instr.box, newVar, newRow, Sem.run_bind, go_sem]
 exact h w.heap.size (w.alloc (.cells v.cells t)) (by rw [hv]; exact New.mk' w t #[v])
theorem infoChk : (Tryz.prog.info? 98).map (·.size) = some 1 := by kernel_rfl
theorem zeroChk : ((Tryz.prog.info? 98).bind (·.zero)).isSome = true := by kernel_rfl
theorem wpList_two {f g : Value} (hf : f.cells = #[f]) (hg : g.cells = #[g]) (hw : Region.wanted ⟨dst, .buildSlice 95 2 #[(0, x), (1, y)], ty, pos, aft, gd⟩ (yielded ops a.tmps) = true) (hx : a.eval x = f) (hy : a.eval y = g)
   (h : ∀ b w', New w w' b 98 #[f, g] → wpList Tryz.prog ops Q rest (a.put dst (.slice (some ⟨b, 0, none⟩) 2 2)) w') : wpList Tryz.prog ops Q (⟨dst, .buildSlice 95 2 #[(0, x), (1, y)], ty, pos, aft, gd⟩ :: rest) a w := by
 have hu : Tryz.prog.underlying 95 = some (.slice 98) := by kernel_rfl
 have hs := infoChk
 have hz := zeroChk
 cases hie : Tryz.prog.info? 98 with
 | none => rw [hie] at hs; cases hs
 | some ie =>
   rw [hie] at hs hz
   simp only [Option.map_some, Option.some.injEq, Option.bind_some] at hs hz
   obtain ⟨z, hzz⟩ := Option.isSome_iff_exists.1 hz
   have hfill : Instr.fill (fun i => some (i * ie.size, ie.size)) ((Array.range (2 * ie.size)).map (z.cells[· % z.cells.size]!)) [(0, f), (1, g)] = some #[f, g] := by
     rw [hs]
     exact Great.fill_flat [f, g] _ (fun v hv => by simp only [List.mem_cons, List.not_mem_nil, or_false] at hv; exact hv.elim (fun e => e ▸ hf) (fun e => e ▸ hg)) (by simp)
   unfold wpList
   rw [if_pos hw]
   refine .inl ?_
   unfold Oper.wp execOp
   have hp : (#[(0, x), (1, y)].map fun (p : Nat × Operand) => (p.1, a.eval p.2)) = #[(0, f), (1, g)] := by simp [hx, hy]
   simp only [hp, Sem.run_bind, run_buildSlice w 95 98 2 #[(0, f), (1, g)] #[f, g] ie z hu hie hzz (by rw [hs]; decide) (by rw [hs]; decide) hfill, Result.andThen_ok]
   exact h _ _ (New.mk' w _ _)
end
section
variable {fn : Func} {o p : Tmp} {act : Act} {w : World} {b b' : Nat} {op rd ra rb imm k v : Int} {Post : Ending → World → Prop}
theorem retIT (h : fn.results = #[.cell o 63, .cell p 46]) (ho : act.tmps.getD o undef = .pointer (some ⟨b', 0, none⟩)) (hp : act.tmps.getD p undef = .pointer (some ⟨b, 0, none⟩))
   (r : Blk w b' 63 (ins op rd ra rb imm)) (g : Blk w b 46 #[.int .i64 k, .int .u32 v])
   (K : Post (.returned (.tuple #[.agg (ins op rd ra rb imm), .agg #[.int .i64 k, .int .u32 v]])) w) (hd : act.defers = []) : bodyPost Tryz.prog fn Post .ret act w := by
 have hp' : act.tmps[p]?.getD undef = .pointer (some ⟨b, 0, none⟩) := by simpa using hp
 have ho' : act.tmps[o]?.getD undef = .pointer (some ⟨b', 0, none⟩) := by simpa using ho
 have hl1 := run_loadVar_row (P := Tryz.prog) w b 46 46 _ (0, 0) _ g Tryz.underlying46 rfl infoTrap
 have hl2 := run_loadVar_row (P := Tryz.prog) w b' 63 63 _ (0, 0) _ r Tryz.underlying63 rfl infoI
 refine bodyPost_ret ?_ hd K
 simp [results, h, hp', ho', asAddr, hl1, hl2]
end

set_option maxRecDepth 100000 in
set_option maxHeartbeats 2000000 in
theorem stTrapIfYes (k v : Int) (W : World) :
   Calls Tryz.prog 85 #[.bool true, .int .i64 k, .int .u32 v] W fun e W' => e = .returned (.agg #[.int .i64 k, .int .u32 v]) ∧ Dn W W' := by
 have S : Hid (Sw W W []) := Lib.hid (Dn.refl W)
 go_enter Tryz.func85, Tryz.ntmps85
 exact Wr
set_option maxRecDepth 100000 in
set_option maxHeartbeats 2000000 in
theorem stTrapIfNo (k v : Int) (W : World) :
   Calls Tryz.prog 85 #[.bool false, .int .i64 k, .int .u32 v] W fun e W' => e = .returned (.agg #[.int .i64 0, .int .u32 0]) ∧ Dn W W' := by
 have S : Hid (Sw W W []) := Lib.hid (Dn.refl W)
 go_enter Tryz.func85, Tryz.ntmps85
 exact Wr
set_option maxRecDepth 100000 in
set_option maxHeartbeats 2000000 in
theorem stTrapped (k v : Int) (b : Bool) (hb : (!(k == 0 && v == 0)) = b) (W : World) : Calls Tryz.prog 44 #[.agg #[.int .i64 k, .int .u32 v]] W fun e W' => e = .returned (.bool b) ∧ Dn W W' := by
 have q0 : ∀ w, (Op.equalIn 10000 46 (.agg #[.int .i64 k, .int .u32 v]) (.agg #[.int .i64 0, .int .u32 0])).run Tryz.prog w = .ok (!b) w := fun w => by rw [eqTrap, ← hb, Bool.not_not]
 have g0 := Blk.new W 46 #[.int .i64 k, .int .u32 v]
 clear hb
 go_enter Tryz.func44, Tryz.ntmps44
 go_wp2_with (first | ((with_reducible refine loadTrap g0 ?_ ?_ ?_); rfl; rfl))
 go_ret
 exact ⟨ret_bool (by simp), (Dn.refl W).alloc _⟩
set_option maxRecDepth 100000 in
set_option maxHeartbeats 2000000 in
theorem stClip (A : Option Addr) (n k : Nat) (hk : n ≤ k) (W : World) : Calls Tryz.prog 27 #[.slice A n k] W fun e W' => e = .returned (.slice A n n) ∧ W = W' := by
 have hk := Lib.hid hk
 go_enter Tryz.func27, Tryz.ntmps27
 go_wp2_with (first | ((with_reducible refine wpList_cut3 (l := n) hk.out ?_ ?_ ?_ ?_ ?_); rfl; rfl; rfl; rfl))
 go_ret
 exact ⟨rfl, rfl⟩
set_option maxRecDepth 100000 in
set_option maxHeartbeats 2000000 in
theorem stClosed (m : Mc) (W : World) (hm : m.Ok W) (m' : Mc) (hm' : m' = { m with k := m.xs.length, q := m.ys.length }) :
   Calls Tryz.prog 42 #[.agg (mach m)] W fun e W' => e = .returned (.agg (mach m')) ∧ Dn W W' := by
 have hl := hm.len
 have hl' : m'.c.length = 29 := by rw [hm']; exact hl
 replace hm' := Lib.hid hm'
 have CA := Lib.hid fun w => (stClip m.A m.xs.length m.k hm.mem.1 w).mono (fun e W' h => (⟨h.1, h.2 ▸ Dn.refl _⟩ : e = .returned (.slice m.A m.xs.length m.xs.length) ∧ Dn w W'))
 have CB := Lib.hid fun w => (stClip m.B m.ys.length m.q hm.out.1 w).mono (fun e W' h => (⟨h.1, h.2 ▸ Dn.refl _⟩ : e = .returned (.slice m.B m.ys.length m.ys.length) ∧ Dn w W'))
 have HD := Lib.hid (Dn.refl W)
 go_enter Tryz.func42, Tryz.ntmps42
 go_wp2_with (first | ((with_reducible refine wpList_box (vs := (mach m)) ?_ ?_ ?_); rfl; rfl; intro b_v1 w' nn; refine Hid.out ?_))
 refine Lib.hid ?_
 have HL_v1 : Hid (W.heap.size ≤ b_v1) := Lib.hid (Blk.hi nn HD.out.size)
 have d' := nn.dn
 replace HD := hT HD d'
 have v1 := nn.blk
 clear d' nn
 go_wp2_with (first | ((with_reducible refine wpList_alloc zeroMach ?_ ?_); rfl; intro b_v2 w' nn; refine Hid.out ?_))
 refine Lib.hid ?_
 have n_v1_v2 := Lib.hid (nn.ne _ v1.lt)
 have HL_v2 : Hid (W.heap.size ≤ b_v2) := Lib.hid (Blk.hi nn HD.out.size)
 have d' := nn.dn
 replace v1 := v1.dn d'
 replace HD := hT HD d'
 have v2 := nn.blk
 clear d' nn
 go_wp2_with fail
 have nx_v1 : b_v1 ∉ ([] : List Nat) := (by simp)
 have nx_v2 : b_v2 ∉ ([] : List Nat) := (by simp)
 have hbs : ∀ b ∈ ([] : List Nat), ∃ t cs, Blk w' b t cs ∧ NoU8 cs := fun b hb => absurd hb (by simp)
 have hbl : ∀ b ∈ ([] : List Nat), W.heap.size ≤ b := fun b hb => absurd hb (by simp)
 refine wp_region_picksY [b_v1] [7, 9] [] [0, 1, 2, 3, 4, 5, 6] 3 (by kernel_rfl) (by kernel_rfl) rfl (by kernel_rfl) (by kernel_rfl) (by kernel_rfl) ?_
 simp only [pickL, List.drop_succ_cons, List.drop_zero, List.take_succ_cons, List.take_zero, List.cons_append, List.nil_append]
 refine ⟨?_, ?_, ?_, ?_, ?_⟩
 rotate_left 1
 exact rfl
 rotate_left 1
 refine ⟨_, calx_pure (by rfl) (fun u => by go_simp; rfl), ?_⟩
 simp only [Act.put, tA, tS, tZ]
 refine ⟨_, calxSlice (v := .slice m.A m.xs.length m.k) v1 nx_v1 Tryz.underlying27 (by rfl) rfl (mach_tail hl (i := 0) (by decide)), ?_⟩
 simp only [Act.put, tA, tS, tZ]
 refine ⟨_, calx_call (fun u du => CA.out u) (by rfl) (fun u => by go_simp), ?_⟩
 simp only [Act.put, tA, tS, tZ]
 refine ⟨_, calx_pure (by rfl) (fun u => by go_simp; rfl), ?_⟩
 simp only [Act.put, tA, tS, tZ]
 refine ⟨_, calxSlice (v := .slice m.B m.ys.length m.q) v1 nx_v1 Tryz.underlying27 (by rfl) rfl (mach_tail hl (i := 2) (by decide)), ?_⟩
 simp only [Act.put, tA, tS, tZ]
 refine ⟨_, calx_call (fun u du => CB.out u) (by rfl) (fun u => by go_simp), ?_⟩
 simp only [Act.put, tA, tS, tZ]
 refine ⟨_, calx_pure (by rfl) (fun u => by go_simp; rfl), ?_⟩
 simp only [Act.put, tA, tS, tZ]
 exact rfl
 refine wpY_store (k := 7) 29 (v := .slice m.A m.xs.length m.xs.length) rfl (by kernel_rfl) rfl (by simp) (v1.dn (Dn.drawn w')) infoSl (by rw [mach_size hl]; exact (by decide : 29 + 1 ≤ 33)) (by simp [Value.cells, Value.oneCell']) rfl rfl fun u1 y1 du1 t1 g1 => ?_
 have e1 : lay (mach m) 29 (Value.slice m.A m.xs.length m.xs.length).cells = mach { m with k := m.xs.length } := (lay_one _ _ _ (by rw [mach_size hl]; decide)).trans (mach_put hl (.slice m.A m.xs.length m.xs.length) 0 (by decide))
 rw [e1] at g1
 have l1 : ({ m with k := m.xs.length } : Mc).c.length = 29 := hl
 refine wpY_calm (k := 8) rfl (by kernel_rfl) (calx_pure (by rfl) (fun u => by go_simp; rfl)) fun y3 dy3 => ?_
 simp only [Act.put, List.setIfInBounds_toArray]
 replace g1 := g1.dn dy3
 refine wpY_store (k := 9) 31 (v := .slice m.B m.ys.length m.ys.length) rfl (by kernel_rfl) rfl (by simp) g1 infoSl (by rw [mach_size l1]; exact (by decide : 31 + 1 ≤ 33)) (by simp [Value.cells, Value.oneCell']) rfl rfl fun u2 y2 du2 t2 g2 => ?_
 have e2 : lay (mach { m with k := m.xs.length }) 31 (Value.slice m.B m.ys.length m.ys.length).cells = mach m' := by rw [hm'.out]; exact (lay_one _ _ _ (by rw [mach_size l1]; decide)).trans (mach_put l1 (.slice m.B m.ys.length m.ys.length) 2 (by decide))
 rw [e2] at g2
 refine wpY_end (by kernel_rfl) fun z' dz => ?_
 replace v2 := (((((v2.dn ((Dn.drawn w').trans du1)).trn t1 n_v1_v2.out.symm).dn dy3).dn du2).trn t2 n_v1_v2.out.symm).dn dz
 replace HD := Lib.hid ((((((HD.out.trans ((Dn.drawn w').trans du1)).trn HL_v1.out t1).trans dy3).trans du2).trn HL_v1.out t2).trans dz)
 clear v1
 have v1 := g2.dn dz
 clear g1 g2 t1 t2 du1 dy3 du2 dz e1 e2 hbs hbl nx_v1 nx_v2
 go_wp2_with (first | ((with_reducible refine load33 v1 hl' ?_ ?_ ?_); rfl; rfl) | ((with_reducible refine store33 m' hl' v2 zlen ?_ ?_ ?_ ?_); rfl; rfl; rfl; intro w' r' t'; refine Hid.out ?_))
 refine Lib.hid ?_
 replace v1 := v1.trn t' n_v1_v2.out
 replace HD := Lib.hid (HD.out.trn HL_v2.out t')
 clear t' v2
 have v2 := r'
 clear r'
 go_wp2_with fail
 exact retM rfl rfl v2 hl' ⟨rfl, HD.out⟩ rfl
set_option maxRecDepth 100000 in
set_option maxHeartbeats 2000000 in
theorem stFinish (m : Mc) (W : World) (hm : m.Ok W) (k v : Int) (k0 : -9223372036854775808 ≤ k) (k1 : k < 9223372036854775808) (v0 : 0 ≤ v) (v1_ : v < 4294967296) (m' : Mc) (hm' : m' = { m with c := M.enter m.c k v, t := M.tick m.t, k := m.xs.length, q := m.ys.length }) :
   Calls Tryz.prog 29 #[.agg (mach m), .agg #[.int .i64 k, .int .u32 v]] W fun e W' => e = .returned (.tuple #[.agg (mach m'), .agg #[.int .i64 k, .int .u32 v]]) ∧ Dn W W' := by
 have hl := hm.len
 have hc := hm.core
 obtain ⟨c1, h1⟩ : ∃ c1, M.enter m.c k v = c1 := ⟨_, rfl⟩
 have k1' : M.Core c1 := by rw [← h1]; exact hc.enter v0 v1_
 have l1 : c1.length = 29 := k1'.len
 obtain ⟨m1, hm1⟩ : ∃ m1 : Mc, m1 = { m with c := c1 } := ⟨_, rfl⟩
 have l2 : m1.c.length = 29 := by rw [hm1]; exact l1
 obtain ⟨m2, hm2⟩ : ∃ m2 : Mc, m2 = { m1 with t := M.tick m.t } := ⟨_, rfl⟩
 have l3 : m2.c.length = 29 := by rw [hm2]; exact l2
 have n30 : m1.t = m.t := by rw [hm1]
 have t0 := hm.t0
 have t1_ := hm.t1
 have ht : (m.t + 1) % 18446744073709551616 = M.tick m.t := rfl
 have hm2e : m2 = { m with c := M.enter m.c k v, t := M.tick m.t } := by rw [hm2, hm1, h1]
 have hl' : m'.c.length = 29 := by rw [hm']; show (M.enter m.c k v).length = 29; rw [h1]; exact l1
 have C1 := Lib.hid fun w => (by have h := trapEnter m.c k v w hc k0 k1 v0 v1_; rw [h1] at h; exact h : Calls Tryz.prog 41 #[.agg (ints .u32 m.c), .agg #[.int .i64 k, .int .u32 v]] w fun e W' => e = .returned (.agg (ints .u32 c1)) ∧ Dn w W')
 have C2 := Lib.hid fun (w : World) (ow : m.Ok w) => stClosed m2 w (by rw [hm2, hm1]; exact ⟨k1', ow.mem, ow.out, (M.tick_rng m.t).1, (M.tick_rng m.t).2⟩) m' (by rw [hm', hm2e])
 replace hm1 := Lib.hid hm1
 replace hm2 := Lib.hid hm2
 clear h1 hm' hm2e
 have Ht := Lib.hid ht
 clear ht
 have HT : ∀ T, T = m.t → (T + 1) % 18446744073709551616 = M.tick m.t := fun T h => by rw [h]; rfl
 replace HT := Lib.hid HT
 obtain ⟨tt, htt⟩ : ∃ tt, m.t = tt := ⟨_, rfl⟩
 rw [htt] at n30 t0 t1_
 have E1 := Lib.hid (hm1.out).symm
 have E2 := Lib.hid (HT.out tt htt.symm)
 have E3 := Lib.hid (hm2.out).symm
 have D1 := Lib.hid fun w (d : Dn W w) => C1.out w
 have D2 := Lib.hid fun w (d : Dn W w) => C2.out w (hm.dn d)
 have R1 : Hid (Rg [0, 1] [0, 1, 2] [[3], [4]]) := Lib.hid trivial
 have S : Hid (Sw W W []) := Lib.hid (Dn.refl W)
 go_enter Tryz.func29, Tryz.ntmps29
 exact Wr

theorem stDecYes (w : Int) (w0 : 0 ≤ w) (w1 : w < 4294967296) (hd : Is.M.dok w = true) (W : World) (T : Is.Tabs W) :
   Calls Tryz.prog 65 #[.int .u32 w] W fun e W' => e = .returned (.tuple #[.agg (ins (Is.M.dOp w) (Is.M.dRd w) (Is.M.dRa w) (Is.M.dRb w) (Is.M.dImm w)), .bool true]) ∧ Dn W W' :=
 (Is.decode_yes w W T w0 w1 hd).mono fun e W' h => ⟨h.1, dn_of_below h.2.below⟩
theorem stDecNo (w : Int) (w0 : 0 ≤ w) (w1 : w < 4294967296) (hd : Is.M.dok w = false) (W : World) (T : Is.Tabs W) :
   Calls Tryz.prog 65 #[.int .u32 w] W fun e W' => e = .returned (.tuple #[.agg (ins 0 0 0 0 0), .bool false]) ∧ Dn W W' :=
 (Is.decode_no w W T w0 w1 hd).mono fun e W' h => ⟨h.1, dn_of_below h.2.below⟩
set_option maxRecDepth 100000 in
set_option maxHeartbeats 2000000 in
theorem stChk1Yes (w : Int) (b_g3 b_g1 : Nat) (W : World) (g3 : Blk W b_g3 4 #[.bool true]) (g1 : Blk W b_g1 22 #[.int .u32 w]) :
   Calls Tryz.prog 84 #[.pointer (some ⟨b_g3, 0, none⟩), .pointer (some ⟨b_g1, 0, none⟩)] W fun e W' => e = .returned (.agg #[.int .i64 0, .int .u32 0]) ∧ Dn W W' := by
 have C1 := Lib.hid (stTrapIfNo 1 w)
 have D1 := Lib.hid fun w (d : Dn W w) => C1.out w
 have S : Hid (Sw W W []) := Lib.hid (Dn.refl W)
 go_enter Tryz.func84, Tryz.ntmps84
 exact Wr
set_option maxRecDepth 100000 in
set_option maxHeartbeats 2000000 in
theorem stChk1No (w : Int) (b_g3 b_g1 : Nat) (W : World) (g3 : Blk W b_g3 4 #[.bool false]) (g1 : Blk W b_g1 22 #[.int .u32 w]) :
   Calls Tryz.prog 84 #[.pointer (some ⟨b_g3, 0, none⟩), .pointer (some ⟨b_g1, 0, none⟩)] W fun e W' => e = .returned (.agg #[.int .i64 1, .int .u32 w]) ∧ Dn W W' := by
 have C1 := Lib.hid (stTrapIfYes 1 w)
 have D1 := Lib.hid fun w (d : Dn W w) => C1.out w
 have S : Hid (Sw W W []) := Lib.hid (Dn.refl W)
 go_enter Tryz.func84, Tryz.ntmps84
 exact Wr
set_option maxRecDepth 100000 in
set_option maxHeartbeats 2000000 in
theorem stChk2A (c : List Int) (w op rd ra rb imm : Int) (b_g2 b_g0 b_g1 : Nat) (W : World) (hc : M.Core c) (g2 : Blk W b_g2 63 (ins op rd ra rb imm)) (g0 : Blk W b_g0 26 (ints .u32 c)) (g1 : Blk W b_g1 22 #[.int .u32 w]) (hp : Is.M.priv op = false) :
   Calls Tryz.prog 86 #[.pointer (some ⟨b_g2, 0, none⟩), .pointer (some ⟨b_g0, 0, none⟩), .pointer (some ⟨b_g1, 0, none⟩)] W fun e W' => e = .returned (.agg #[.int .i64 0, .int .u32 0]) ∧ Dn W W' := by
 have hl := hc.len
 have C1 := Lib.hid (xPriv op false hp)
 have C3 := Lib.hid (stTrapIfNo 2 w)
 have D1 := Lib.hid fun w (d : Dn W w) => C1.out w
 have D2 := Lib.hid fun w (d : Dn W w) => C3.out w
 have R1 : Hid (Rg [0] [0, 1, 2, 3, 4, 5, 6, 7, 8, 9] [[10]]) := Lib.hid trivial
 have S : Hid (Sw W W []) := Lib.hid (Dn.refl W)
 go_enter Tryz.func86, Tryz.ntmps86
 exact Wr
set_option maxRecDepth 100000 in
set_option maxHeartbeats 2000000 in
theorem stChk2B (c : List Int) (w op rd ra rb imm : Int) (b_g2 b_g0 b_g1 : Nat) (W : World) (hc : M.Core c) (g2 : Blk W b_g2 63 (ins op rd ra rb imm)) (g0 : Blk W b_g0 26 (ints .u32 c)) (g1 : Blk W b_g1 22 #[.int .u32 w]) (hp : Is.M.priv op = true) (hs : M.sup c = true) :
   Calls Tryz.prog 86 #[.pointer (some ⟨b_g2, 0, none⟩), .pointer (some ⟨b_g0, 0, none⟩), .pointer (some ⟨b_g1, 0, none⟩)] W fun e W' => e = .returned (.agg #[.int .i64 0, .int .u32 0]) ∧ Dn W W' := by
 have hl := hc.len
 have C1 := Lib.hid (xPriv op true hp)
 have C2 := Lib.hid fun w => (by have h := trapSup c w hc; rw [hs] at h; exact h : Calls Tryz.prog 87 #[.agg (ints .u32 c)] w fun e W' => e = .returned (.bool true) ∧ Dn w W')
 have C3 := Lib.hid (stTrapIfNo 2 w)
 have D1 := Lib.hid fun w (d : Dn W w) => C1.out w
 have D2 := Lib.hid fun w (d : Dn W w) => C2.out w
 have D3 := Lib.hid fun w (d : Dn W w) => C3.out w
 have R1 : Hid (Rg [0] [0, 1, 2, 3, 4, 5, 6, 7, 8, 9] [[10]]) := Lib.hid trivial
 have S : Hid (Sw W W []) := Lib.hid (Dn.refl W)
 go_enter Tryz.func86, Tryz.ntmps86
 exact Wr
set_option maxRecDepth 100000 in
set_option maxHeartbeats 2000000 in
theorem stChk2C (c : List Int) (w op rd ra rb imm : Int) (b_g2 b_g0 b_g1 : Nat) (W : World) (hc : M.Core c) (g2 : Blk W b_g2 63 (ins op rd ra rb imm)) (g0 : Blk W b_g0 26 (ints .u32 c)) (g1 : Blk W b_g1 22 #[.int .u32 w]) (hp : Is.M.priv op = true) (hs : M.sup c = false) :
   Calls Tryz.prog 86 #[.pointer (some ⟨b_g2, 0, none⟩), .pointer (some ⟨b_g0, 0, none⟩), .pointer (some ⟨b_g1, 0, none⟩)] W fun e W' => e = .returned (.agg #[.int .i64 2, .int .u32 w]) ∧ Dn W W' := by
 have hl := hc.len
 have C1 := Lib.hid (xPriv op true hp)
 have C2 := Lib.hid fun w => (by have h := trapSup c w hc; rw [hs] at h; exact h : Calls Tryz.prog 87 #[.agg (ints .u32 c)] w fun e W' => e = .returned (.bool false) ∧ Dn w W')
 have C3 := Lib.hid (stTrapIfYes 2 w)
 have D1 := Lib.hid fun w (d : Dn W w) => C1.out w
 have D2 := Lib.hid fun w (d : Dn W w) => C2.out w
 have D3 := Lib.hid fun w (d : Dn W w) => C3.out w
 have R1 : Hid (Rg [0] [0, 1, 2, 3, 4, 5, 6, 7, 8, 9] [[10]]) := Lib.hid trivial
 have S : Hid (Sw W W []) := Lib.hid (Dn.refl W)
 go_enter Tryz.func86, Tryz.ntmps86
 exact Wr
set_option maxRecDepth 100000 in
set_option maxHeartbeats 2000000 in
theorem stChecks (c : List Int) (w op rd ra rb imm : Int) (ok : Bool) (hl : c.length = 29) (W : World) :
   Calls Tryz.prog 66 #[.agg (ints .u32 c), .int .u32 w, .agg (ins op rd ra rb imm), .bool ok] W fun e W' => ∃ bg b0 b1 b2 b3, e = .returned (.slice (some ⟨bg, 0, none⟩) 2 2) ∧ Hid (Blk W' bg 98 #[.func (.func 84) #[] #[.pointer (some ⟨b3, 0, none⟩), .pointer (some ⟨b1, 0, none⟩)], .func (.func 86) #[] #[.pointer (some ⟨b2, 0, none⟩), .pointer (some ⟨b0, 0, none⟩), .pointer (some ⟨b1, 0, none⟩)]]) ∧ Hid (Blk W' b0 26 (ints .u32 c)) ∧ Hid (Blk W' b1 22 #[.int .u32 w]) ∧ Hid (Blk W' b2 63 (ins op rd ra rb imm)) ∧ Hid (Blk W' b3 4 #[.bool ok]) ∧ Dn W W' := by
 have hmf : ∀ (fn : Fn) (first cap : Array Value) (w : World), (Instr.makeFunc fn first cap).run Tryz.prog w = .ok (.func fn first cap) w := fun _ _ _ _ => rfl
 have HD := Lib.hid (Dn.refl W)
 go_enter Tryz.func66, Tryz.ntmps66
 go_wp2_with (first | ((with_reducible refine wpList_box (vs := (ints .u32 c)) ?_ ?_ ?_); rfl; rfl; intro b_v4 w' nn; refine Hid.out ?_))
 refine Lib.hid ?_
 have d' := nn.dn
 replace HD := hT HD d'
 have v4 := nn.blk
 clear d' nn
 go_wp2_with (first | ((with_reducible refine wpList_box1 (v := .int .u32 w) rfl ?_ ?_ ?_); rfl; rfl; intro b_v5 w' nn; refine Hid.out ?_))
 refine Lib.hid ?_
 have d' := nn.dn
 replace v4 := v4.dn d'
 replace HD := hT HD d'
 have v5 := nn.blk
 clear d' nn
 go_wp2_with (first | ((with_reducible refine wpList_box (vs := (ins op rd ra rb imm)) ?_ ?_ ?_); rfl; rfl; intro b_v6 w' nn; refine Hid.out ?_))
 refine Lib.hid ?_
 have d' := nn.dn
 replace v4 := v4.dn d'
 replace v5 := v5.dn d'
 replace HD := hT HD d'
 have v6 := nn.blk
 clear d' nn
 go_wp2_with (first | ((with_reducible refine wpList_box1 (v := .bool ok) rfl ?_ ?_ ?_); rfl; rfl; intro b_v7 w' nn; refine Hid.out ?_))
 refine Lib.hid ?_
 have d' := nn.dn
 replace v4 := v4.dn d'
 replace v5 := v5.dn d'
 replace v6 := v6.dn d'
 replace HD := hT HD d'
 have v7 := nn.blk
 clear d' nn
 go_wp2_with (first | ((with_reducible refine wpList_two (f := .func (.func 84) #[] #[.pointer (some ⟨b_v7, 0, none⟩), .pointer (some ⟨b_v5, 0, none⟩)]) (g := .func (.func 86) #[] #[.pointer (some ⟨b_v6, 0, none⟩), .pointer (some ⟨b_v4, 0, none⟩), .pointer (some ⟨b_v5, 0, none⟩)]) rfl rfl ?_ ?_ ?_ ?_); rfl; rfl; rfl; intro b_g w' nn; refine Hid.out ?_))
 refine Lib.hid ?_
 have d' := nn.dn
 replace v4 := v4.dn d'
 replace v5 := v5.dn d'
 replace v6 := v6.dn d'
 replace v7 := v7.dn d'
 replace HD := hT HD d'
 have g := nn.blk
 clear d' nn
 go_wp2_with fail
 go_ret
 exact ⟨b_g, b_v4, b_v5, b_v6, b_v7, rfl, Lib.hid g, Lib.hid v4, Lib.hid v5, Lib.hid v6, Lib.hid v7, HD.out⟩

structure Sd (r : M.SRes) (m1 : Mc) : Prop where
 c : m1.c = r.c
 xs : m1.xs = r.z
 t : m1.t = r.t
 ys : m1.ys = r.ys
 h : m1.h = r.h
def StRet (W : World) (r : M.SRes) (e : Ending) (W' : World) : Prop :=
 ∃ m1, e = .returned (.tuple #[.agg (mach m1), .agg #[.int .i64 r.k, .int .u32 r.v]]) ∧ Hid (m1.Ok W') ∧ Hid (Sd r m1) ∧ Dn W W'
theorem Mc.Ok.fin {w : World} {m : Mc} (h : m.Ok w) {k v : Int} (v0 : 0 ≤ v) (v1 : v < 4294967296) : Mc.Ok w { m with c := M.enter m.c k v, t := M.tick m.t, k := m.xs.length, q := m.ys.length } :=
 ⟨h.core.enter v0 v1, h.mem.full, h.out.full, (M.tick_rng m.t).1, (M.tick_rng m.t).2⟩
set_option maxRecDepth 100000 in
set_option maxHeartbeats 2000000 in
theorem stExePv (m : Mc) (op rd ra rb imm : Int) (W : World) (hm : m.Ok W) (hp : Is.M.priv op = true) (T : Cs.CsrTabs W) (i0 : -2147483648 ≤ imm) (i1 : imm < 2147483648) (hy : m.ys.length ≤ 100000) (hop : op = 21 ∨ op = 22 ∨ op = 23 ∨ op = 24 ∨ op = 25) :
   Calls Tryz.prog 45 #[.agg (mach m), .agg (ins op rd ra rb imm)] W fun e W' => ∃ m1, e = .returned (.tuple #[.agg (mach m1), .agg #[.int .i64 0, .int .u32 0]]) ∧ Hid (m1.Ok W') ∧ Hid (∃ n, Pd m (M.px m.c m.ys m.h m.t op rd ra imm) n m1) ∧ Dn W W' := by
 have hl := hm.len
 have C1 := Lib.hid (xPriv op true hp)
 have C2 := Lib.hid fun w => fun (ow : m.Ok w) (t : Cs.CsrTabs w) => xPv m op rd ra rb imm w ow t i0 i1 hy hop
 generalize hr : M.px m.c m.ys m.h m.t op rd ra imm = r at C2 ⊢
 have HD := Lib.hid (Dn.refl W)
 go_enter Tryz.func45, Tryz.ntmps45
 go_wp2_with (first | ((with_reducible refine wpList_box (vs := (mach m)) ?_ ?_ ?_); rfl; rfl; intro b_v2 w' nn; refine Hid.out ?_))
 refine Lib.hid ?_
 have d' := nn.dn
 replace HD := hT HD d'
 have v2 := nn.blk
 clear d' nn
 go_wp2_with (first | ((with_reducible refine wpList_box (vs := (ins op rd ra rb imm)) ?_ ?_ ?_); rfl; rfl; intro b_v3 w' nn; refine Hid.out ?_))
 refine Lib.hid ?_
 have d' := nn.dn
 replace v2 := v2.dn d'
 replace HD := hT HD d'
 have v3 := nn.blk
 clear d' nn
 go_wp2_with (first | ((with_reducible refine wpList_alloc zeroMach ?_ ?_); rfl; intro b_v4 w' nn; refine Hid.out ?_))
 refine Lib.hid ?_
 have n_v2_v4 := Lib.hid (nn.ne _ v2.lt)
 have n_v3_v4 := Lib.hid (nn.ne _ v3.lt)
 have HL_v4 : Hid (W.heap.size ≤ b_v4) := Lib.hid (Blk.hi nn HD.out.size)
 have d' := nn.dn
 replace v2 := v2.dn d'
 replace v3 := v3.dn d'
 replace HD := hT HD d'
 have v4 := nn.blk
 clear d' nn
 go_wp2_with (first | ((with_reducible refine wpList_alloc zeroTrap ?_ ?_); rfl; intro b_v5 w' nn; refine Hid.out ?_))
 refine Lib.hid ?_
 have n_v2_v5 := Lib.hid (nn.ne _ v2.lt)
 have n_v3_v5 := Lib.hid (nn.ne _ v3.lt)
 have n_v4_v5 := Lib.hid (nn.ne _ v4.lt)
 have HL_v5 : Hid (W.heap.size ≤ b_v5) := Lib.hid (Blk.hi nn HD.out.size)
 have d' := nn.dn
 replace v2 := v2.dn d'
 replace v3 := v3.dn d'
 replace v4 := v4.dn d'
 replace HD := hT HD d'
 have v5 := nn.blk
 clear d' nn
 have ck0 := v3.iop
 go_wp2_with (first | (go_at_call 67; (with_reducible refine (C1.out _).mono ?_); rintro e w' ⟨rfl, d'⟩; refine Hid.out ?_))
 refine Lib.hid ?_
 clear ck0
 replace v2 := v2.dn d'
 replace v3 := v3.dn d'
 replace v4 := v4.dn d'
 replace v5 := v5.dn d'
 replace HD := hT HD d'
 clear d'
 go_wp2_with (first | ((with_reducible refine load33 v2 hl ?_ ?_ ?_); rfl; rfl) | ((with_reducible refine loadI v3 ?_ ?_ ?_); rfl; rfl) | (go_at_call 68; (with_reducible refine (C2.out _ (hm.dn HD.out) (T.dn HD.out)).mono ?_); rintro e w' ⟨m1, rfl, o1, u1, d'⟩; refine Hid.out ?_))
 refine Lib.hid ?_
 replace v2 := v2.dn d'
 replace v3 := v3.dn d'
 replace v4 := v4.dn d'
 replace v5 := v5.dn d'
 replace HD := hT HD d'
 clear d'
 have l1 := o1.out.len
 have o1 := Lib.hid o1.out
 go_wp2_with (first | ((with_reducible refine store33 m1 l1 v4 zlen ?_ ?_ ?_ ?_); rfl; rfl; rfl; intro w' r' t'; refine Hid.out ?_))
 refine Lib.hid ?_
 replace o1 := Lib.hid (o1.out.trn v4 (NoU8.mach _) t')
 replace v2 := v2.trn t' n_v2_v4.out
 replace v3 := v3.trn t' n_v3_v4.out
 replace v5 := v5.trn t' n_v4_v5.out.symm
 replace HD := Lib.hid (HD.out.trn HL_v4.out t')
 clear t' v4
 have v4 := r'
 clear r'
 go_wp2_with (first | ((with_reducible refine storeTrap (k := 0) (v := 0) v5 ?_ ?_ ?_ ?_); rfl; rfl; rfl; intro w' r' t'; refine Hid.out ?_))
 refine Lib.hid ?_
 replace o1 := Lib.hid (o1.out.trn v5 (NoU8.trap _ _) t')
 replace v2 := v2.trn t' n_v2_v5.out
 replace v3 := v3.trn t' n_v3_v5.out
 replace v4 := v4.trn t' n_v4_v5.out
 replace HD := Lib.hid (HD.out.trn HL_v5.out t')
 clear t' v5
 have v5 := r'
 clear r'
 go_wp2_with fail
 exact retMT rfl rfl rfl v4 l1 v5 ⟨m1, rfl, o1, Lib.hid ⟨_, u1.out⟩, HD.out⟩ rfl
set_option maxRecDepth 100000 in
set_option maxHeartbeats 2000000 in
theorem stExePl (m : Mc) (op rd ra rb imm : Int) (W : World) (hm : m.Ok W) (hs : m.xs.length ≤ 100000) (T : Is.Tabs W) (i0 : -2147483648 ≤ imm) (i1 : imm < 2147483648) (hv : Is.M.ok op rd ra rb imm = true) (hp : Is.M.priv op = false) :
   Calls Tryz.prog 45 #[.agg (mach m), .agg (ins op rd ra rb imm)] W fun e W' => ExRet W m (M.ex m.c m.xs op rd ra rb imm) e W' := by
 have hl := hm.len
 have C1 := Lib.hid (xPriv op false hp)
 have C2 := Lib.hid fun w => fun (ow : m.Ok w) (t : Is.Tabs w) => xExec m op rd ra rb imm w ow hs t i0 i1 hv hp
 generalize hr : M.ex m.c m.xs op rd ra rb imm = r at C2 ⊢
 clear hr
 have HD := Lib.hid (Dn.refl W)
 go_enter Tryz.func45, Tryz.ntmps45
 go_wp2_with (first | ((with_reducible refine wpList_box (vs := (mach m)) ?_ ?_ ?_); rfl; rfl; intro b_v2 w' nn; refine Hid.out ?_))
 refine Lib.hid ?_
 have d' := nn.dn
 replace HD := hT HD d'
 have v2 := nn.blk
 clear d' nn
 go_wp2_with (first | ((with_reducible refine wpList_box (vs := (ins op rd ra rb imm)) ?_ ?_ ?_); rfl; rfl; intro b_v3 w' nn; refine Hid.out ?_))
 refine Lib.hid ?_
 have d' := nn.dn
 replace v2 := v2.dn d'
 replace HD := hT HD d'
 have v3 := nn.blk
 clear d' nn
 go_wp2_with (first | ((with_reducible refine wpList_alloc zeroMach ?_ ?_); rfl; intro b_v4 w' nn; refine Hid.out ?_))
 refine Lib.hid ?_
 have n_v2_v4 := Lib.hid (nn.ne _ v2.lt)
 have n_v3_v4 := Lib.hid (nn.ne _ v3.lt)
 have HL_v4 : Hid (W.heap.size ≤ b_v4) := Lib.hid (Blk.hi nn HD.out.size)
 have d' := nn.dn
 replace v2 := v2.dn d'
 replace v3 := v3.dn d'
 replace HD := hT HD d'
 have v4 := nn.blk
 clear d' nn
 go_wp2_with (first | ((with_reducible refine wpList_alloc zeroTrap ?_ ?_); rfl; intro b_v5 w' nn; refine Hid.out ?_))
 refine Lib.hid ?_
 have n_v2_v5 := Lib.hid (nn.ne _ v2.lt)
 have n_v3_v5 := Lib.hid (nn.ne _ v3.lt)
 have n_v4_v5 := Lib.hid (nn.ne _ v4.lt)
 have HL_v5 : Hid (W.heap.size ≤ b_v5) := Lib.hid (Blk.hi nn HD.out.size)
 have d' := nn.dn
 replace v2 := v2.dn d'
 replace v3 := v3.dn d'
 replace v4 := v4.dn d'
 replace HD := hT HD d'
 have v5 := nn.blk
 clear d' nn
 have ck0 := v3.iop
 go_wp2_with (first | (go_at_call 67; (with_reducible refine (C1.out _).mono ?_); rintro e w' ⟨rfl, d'⟩; refine Hid.out ?_))
 refine Lib.hid ?_
 clear ck0
 replace v2 := v2.dn d'
 replace v3 := v3.dn d'
 replace v4 := v4.dn d'
 replace v5 := v5.dn d'
 replace HD := hT HD d'
 clear d'
 go_wp2_with (first | ((with_reducible refine load33 v2 hl ?_ ?_ ?_); rfl; rfl) | ((with_reducible refine loadI v3 ?_ ?_ ?_); rfl; rfl) | (go_at_call 69; (with_reducible refine (C2.out _ (hm.dn HD.out) (T.dn HD.out)).mono ?_); rintro e w' ⟨m1, rfl, o1, u1, d'⟩; refine Hid.out ?_))
 refine Lib.hid ?_
 replace v2 := v2.dn d'
 replace v3 := v3.dn d'
 replace v4 := v4.dn d'
 replace v5 := v5.dn d'
 replace HD := hT HD d'
 clear d'
 have l1 := o1.out.len
 have o1 := Lib.hid o1.out
 go_wp2_with (first | ((with_reducible refine store33 m1 l1 v4 zlen ?_ ?_ ?_ ?_); rfl; rfl; rfl; intro w' r' t'; refine Hid.out ?_))
 refine Lib.hid ?_
 replace o1 := Lib.hid (o1.out.trn v4 (NoU8.mach _) t')
 replace v2 := v2.trn t' n_v2_v4.out
 replace v3 := v3.trn t' n_v3_v4.out
 replace v5 := v5.trn t' n_v4_v5.out.symm
 replace HD := Lib.hid (HD.out.trn HL_v4.out t')
 clear t' v4
 have v4 := r'
 clear r'
 go_wp2_with (first | ((with_reducible refine storeTrap (k := r.k) (v := r.v) v5 ?_ ?_ ?_ ?_); rfl; rfl; rfl; intro w' r' t'; refine Hid.out ?_))
 refine Lib.hid ?_
 replace o1 := Lib.hid (o1.out.trn v5 (NoU8.trap _ _) t')
 replace v2 := v2.trn t' n_v2_v5.out
 replace v3 := v3.trn t' n_v3_v5.out
 replace v4 := v4.trn t' n_v4_v5.out
 replace HD := Lib.hid (HD.out.trn HL_v5.out t')
 clear t' v5
 have v5 := r'
 clear r'
 go_wp2_with fail
 exact retMT rfl rfl rfl v4 l1 v5 ⟨m1, rfl, o1, u1, HD.out⟩ rfl
def XeRet (W : World) (m : Mc) (c z ys : List Int) (h : Bool) (k v : Int) (e : Ending) (W' : World) : Prop :=
 ∃ m1, e = .returned (.tuple #[.agg (mach m1), .agg #[.int .i64 k, .int .u32 v]]) ∧ Hid (m1.Ok W') ∧ Hid (m1.c = c ∧ m1.xs = z ∧ m1.ys = ys ∧ m1.h = h ∧ m1.t = m.t) ∧ Dn W W'
structure Env2 (W : World) : Prop where
 isa : Is.Tabs W
 csr : Cs.CsrTabs W
theorem Env2.dn {W W' : World} (h : Env2 W) (k : Dn W W') : Env2 W' := ⟨h.isa.dn k, h.csr.dn k⟩
set_option maxRecDepth 100000 in
set_option maxHeartbeats 2000000 in
theorem stNtH (m : Mc) (W : World) (hm : m.Ok W) (hh : m.h = true) (m' : Mc) (hm' : m' = { m with k := m.xs.length, q := m.ys.length }) :
   Calls Tryz.prog 30 #[.agg (mach m)] W fun e W' => e = .returned (.tuple #[.agg (mach m'), .agg #[.int .i64 0, .int .u32 0]]) ∧ Dn W W' := by
 have hl := hm.len
 have hl' : m'.c.length = 29 := by rw [hm']; exact hl
 have C1 := Lib.hid fun w => fun (ow : m.Ok w) => stClosed m w ow m' hm'
 clear hm'
 have D1 := Lib.hid fun w (d : Dn W w) => C1.out w (hm.dn d)
 have S : Hid (Sw W W []) := Lib.hid (Dn.refl W)
 go_enter Tryz.func30, Tryz.ntmps30
 exact Wr
set_option maxRecDepth 100000 in
set_option maxHeartbeats 2000000 in
theorem stNtT (m : Mc) (W : World) (hm : m.Ok W) (hh : m.h = false) (k v : Int) (k0 : -9223372036854775808 ≤ k) (k1 : k < 9223372036854775808) (z0 : 0 ≤ v) (z1 : v < 4294967296) (hk : (!(k == 0 && v == 0)) = true) (T : Env2 W) (HC : ∀ w, m.Ok w → Env2 w → Calls Tryz.prog 43 #[.agg (mach m)] w fun e W' => e = .returned (.tuple #[.agg (ins 0 0 0 0 0), .agg #[.int .i64 k, .int .u32 v]]) ∧ Dn w W') (m' : Mc) (hm' : m' = { m with c := M.enter m.c k v, t := M.tick m.t, k := m.xs.length, q := m.ys.length }) :
   Calls Tryz.prog 30 #[.agg (mach m)] W fun e W' => e = .returned (.tuple #[.agg (mach m'), .agg #[.int .i64 k, .int .u32 v]]) ∧ Dn W W' := by
 have hl := hm.len
 have hc := hm.core
 have hl' : m'.c.length = 29 := by rw [hm']; exact (hc.enter (k := k) z0 z1).len
 have C1 := Lib.hid fun w => fun (ow : m.Ok w) (t : Env2 w) => HC w ow t
 have C2 := Lib.hid fun w => fun (ow : m.Ok w) => stFinish m w ow k v k0 k1 z0 z1 m' hm'
 have CT := Lib.hid (stTrapped k v true hk)
 clear hm' HC
 have D1 := Lib.hid fun w (d : Dn W w) => C1.out w (hm.dn d) (T.dn d)
 have D2 := Lib.hid fun w (d : Dn W w) => CT.out w
 have D3 := Lib.hid fun w (d : Dn W w) => C2.out w (hm.dn d)
 have S : Hid (Sw W W []) := Lib.hid (Dn.refl W)
 go_enter Tryz.func30, Tryz.ntmps30
 exact Wr
set_option maxRecDepth 100000 in
set_option maxHeartbeats 2000000 in
theorem stNtG (m : Mc) (W : World) (hm : m.Ok W) (hh : m.h = false) (T : Env2 W) (k v : Int) (k0 : -9223372036854775808 ≤ k) (k1 : k < 9223372036854775808) (z0 : 0 ≤ v) (z1 : v < 4294967296) (op rd ra rb imm : Int) (c z ys : List Int) (h : Bool) (HC : ∀ w, m.Ok w → Env2 w → Calls Tryz.prog 43 #[.agg (mach m)] w fun e W' => e = .returned (.tuple #[.agg (ins op rd ra rb imm), .agg #[.int .i64 0, .int .u32 0]]) ∧ Dn w W') (HX : ∀ w, m.Ok w → Env2 w → Calls Tryz.prog 45 #[.agg (mach m), .agg (ins op rd ra rb imm)] w fun e W' => XeRet w m c z ys h k v e W') :
   Calls Tryz.prog 30 #[.agg (mach m)] W fun e W' => StRet W ⟨M.enter c k v, z, ys, h, M.tick m.t, k, v⟩ e W' := by
 have hl := hm.len
 have hc := hm.core
 have C1 := Lib.hid fun w => fun (ow : m.Ok w) (t : Env2 w) => HC w ow t
 have C2 := Lib.hid fun w => fun (ow : m.Ok w) (t : Env2 w) => HX w ow t
 have C3 := Lib.hid fun (w : World) (m1 : Mc) (ow : m1.Ok w) => (stFinish m1 w ow k v k0 k1 z0 z1 _ rfl).mono fun e W' h => (⟨_, h.1, Lib.hid rfl, h.2⟩ : ∃ m2, e = .returned (.tuple #[.agg (mach m2), .agg #[.int .i64 k, .int .u32 v]]) ∧ Hid (m2 = { m1 with c := M.enter m1.c k v, t := M.tick m1.t, k := m1.xs.length, q := m1.ys.length }) ∧ Dn w W')
 have CT := Lib.hid (stTrapped 0 0 false rfl)
 clear HC HX
 have HD := Lib.hid (Dn.refl W)
 go_enter Tryz.func30, Tryz.ntmps30
 go_wp2_with (first | ((with_reducible refine wpList_box (vs := (mach m)) ?_ ?_ ?_); rfl; rfl; intro b_v1 w' nn; refine Hid.out ?_))
 refine Lib.hid ?_
 have d' := nn.dn
 replace HD := hT HD d'
 have v1 := nn.blk
 clear d' nn
 go_wp2_with (first | ((with_reducible refine wpList_alloc zeroMach ?_ ?_); rfl; intro b_v2 w' nn; refine Hid.out ?_))
 refine Lib.hid ?_
 have n_v1_v2 := Lib.hid (nn.ne _ v1.lt)
 have HL_v2 : Hid (W.heap.size ≤ b_v2) := Lib.hid (Blk.hi nn HD.out.size)
 have d' := nn.dn
 replace v1 := v1.dn d'
 replace HD := hT HD d'
 have v2 := nn.blk
 clear d' nn
 go_wp2_with (first | ((with_reducible refine wpList_alloc zeroTrap ?_ ?_); rfl; intro b_v3 w' nn; refine Hid.out ?_))
 refine Lib.hid ?_
 have n_v1_v3 := Lib.hid (nn.ne _ v1.lt)
 have n_v2_v3 := Lib.hid (nn.ne _ v2.lt)
 have HL_v3 : Hid (W.heap.size ≤ b_v3) := Lib.hid (Blk.hi nn HD.out.size)
 have d' := nn.dn
 replace v1 := v1.dn d'
 replace v2 := v2.dn d'
 replace HD := hT HD d'
 have v3 := nn.blk
 clear d' nn
 have ck0 := v1.halted hl
 rw [hh] at ck0
 go_wp2_with (first | ((with_reducible refine load33 v1 hl ?_ ?_ ?_); rfl; rfl) | (go_at_call 43; (with_reducible refine (C1.out _ (hm.dn HD.out) (T.dn HD.out)).mono ?_); rintro e w' ⟨rfl, d'⟩; refine Hid.out ?_))
 refine Lib.hid ?_
 clear ck0
 replace v1 := v1.dn d'
 replace v2 := v2.dn d'
 replace v3 := v3.dn d'
 replace HD := hT HD d'
 clear d'
 go_wp2_with (first | ((with_reducible refine wpList_alloc zeroI ?_ ?_); rfl; intro b_v4 w' nn; refine Hid.out ?_))
 refine Lib.hid ?_
 have n_v1_v4 := Lib.hid (nn.ne _ v1.lt)
 have n_v2_v4 := Lib.hid (nn.ne _ v2.lt)
 have n_v3_v4 := Lib.hid (nn.ne _ v3.lt)
 have HL_v4 : Hid (W.heap.size ≤ b_v4) := Lib.hid (Blk.hi nn HD.out.size)
 have d' := nn.dn
 replace v1 := v1.dn d'
 replace v2 := v2.dn d'
 replace v3 := v3.dn d'
 replace HD := hT HD d'
 have v4 := nn.blk
 clear d' nn
 go_wp2_with (first | ((with_reducible refine wpList_alloc zeroTrap ?_ ?_); rfl; intro b_v5 w' nn; refine Hid.out ?_))
 refine Lib.hid ?_
 have n_v1_v5 := Lib.hid (nn.ne _ v1.lt)
 have n_v2_v5 := Lib.hid (nn.ne _ v2.lt)
 have n_v3_v5 := Lib.hid (nn.ne _ v3.lt)
 have n_v4_v5 := Lib.hid (nn.ne _ v4.lt)
 have HL_v5 : Hid (W.heap.size ≤ b_v5) := Lib.hid (Blk.hi nn HD.out.size)
 have d' := nn.dn
 replace v1 := v1.dn d'
 replace v2 := v2.dn d'
 replace v3 := v3.dn d'
 replace v4 := v4.dn d'
 replace HD := hT HD d'
 have v5 := nn.blk
 clear d' nn
 go_wp2_with (first | ((with_reducible refine storeI (op := op) (rd := rd) (ra := ra) (rb := rb) (imm := imm) v4 ?_ ?_ ?_ ?_); rfl; rfl; rfl; intro w' r' t'; refine Hid.out ?_))
 refine Lib.hid ?_
 replace v1 := v1.trn t' n_v1_v4.out
 replace v2 := v2.trn t' n_v2_v4.out
 replace v3 := v3.trn t' n_v3_v4.out
 replace v5 := v5.trn t' n_v4_v5.out.symm
 replace HD := Lib.hid (HD.out.trn HL_v4.out t')
 clear t' v4
 have v4 := r'
 clear r'
 go_wp2_with (first | ((with_reducible refine storeTrap (k := 0) (v := 0) v5 ?_ ?_ ?_ ?_); rfl; rfl; rfl; intro w' r' t'; refine Hid.out ?_))
 refine Lib.hid ?_
 replace v1 := v1.trn t' n_v1_v5.out
 replace v2 := v2.trn t' n_v2_v5.out
 replace v3 := v3.trn t' n_v3_v5.out
 replace v4 := v4.trn t' n_v4_v5.out
 replace HD := Lib.hid (HD.out.trn HL_v5.out t')
 clear t' v5
 have v5 := r'
 clear r'
 go_wp2_with (first | ((with_reducible refine loadTrap v5 ?_ ?_ ?_); rfl; rfl) | (go_at_call 44; (with_reducible refine (CT.out _).mono ?_); rintro e w' ⟨rfl, d'⟩; refine Hid.out ?_))
 refine Lib.hid ?_
 replace v1 := v1.dn d'
 replace v2 := v2.dn d'
 replace v3 := v3.dn d'
 replace v4 := v4.dn d'
 replace v5 := v5.dn d'
 replace HD := hT HD d'
 clear d'
 go_wp2_with (first | ((with_reducible refine load33 v1 hl ?_ ?_ ?_); rfl; rfl) | ((with_reducible refine loadI v4 ?_ ?_ ?_); rfl; rfl) | (go_at_call 45; (with_reducible refine (C2.out _ (hm.dn HD.out) (T.dn HD.out)).mono ?_); rintro e w' ⟨m1, rfl, o1, u1, d'⟩; refine Hid.out ?_))
 refine Lib.hid ?_
 replace v1 := v1.dn d'
 replace v2 := v2.dn d'
 replace v3 := v3.dn d'
 replace v4 := v4.dn d'
 replace v5 := v5.dn d'
 replace HD := hT HD d'
 clear d'
 have l1 := o1.out.len
 have o1 := Lib.hid o1.out
 go_wp2_with (first | (go_at_call 29; (with_reducible refine (C3.out _ m1 o1.out).mono ?_); rintro e w' ⟨m2, rfl, hm2, d'⟩; refine Hid.out ?_))
 refine Lib.hid ?_
 replace v1 := v1.dn d'
 replace v2 := v2.dn d'
 replace v3 := v3.dn d'
 replace v4 := v4.dn d'
 replace v5 := v5.dn d'
 replace o1 := Lib.hid (o1.out.dn d')
 replace HD := hT HD d'
 clear d'
 have l2 : m2.c.length = 29 := by rw [hm2.out]; exact (o1.out.core.enter (k := k) z0 z1).len
 go_wp2_with (first | ((with_reducible refine store33 m2 l2 v2 zlen ?_ ?_ ?_ ?_); rfl; rfl; rfl; intro w' r' t'; refine Hid.out ?_))
 refine Lib.hid ?_
 replace o1 := Lib.hid (o1.out.trn v2 (NoU8.mach _) t')
 replace v1 := v1.trn t' n_v1_v2.out
 replace v3 := v3.trn t' n_v2_v3.out.symm
 replace v4 := v4.trn t' n_v2_v4.out.symm
 replace v5 := v5.trn t' n_v2_v5.out.symm
 replace HD := Lib.hid (HD.out.trn HL_v2.out t')
 clear t' v2
 have v2 := r'
 clear r'
 go_wp2_with (first | ((with_reducible refine storeTrap (k := k) (v := v) v3 ?_ ?_ ?_ ?_); rfl; rfl; rfl; intro w' r' t'; refine Hid.out ?_))
 refine Lib.hid ?_
 replace o1 := Lib.hid (o1.out.trn v3 (NoU8.trap _ _) t')
 replace v1 := v1.trn t' n_v1_v3.out
 replace v2 := v2.trn t' n_v2_v3.out
 replace v4 := v4.trn t' n_v3_v4.out.symm
 replace v5 := v5.trn t' n_v3_v5.out.symm
 replace HD := Lib.hid (HD.out.trn HL_v3.out t')
 clear t' v3
 have v3 := r'
 clear r'
 go_wp2_with fail
 obtain ⟨w1, w2, w3, w4, w5⟩ := u1.out
 exact retMT rfl rfl rfl v2 l2 v3 ⟨m2, rfl, Lib.hid (by rw [hm2.out]; exact o1.out.fin z0 z1), Lib.hid (by rw [hm2.out]; exact ⟨by show M.enter m1.c k v = _; rw [w1], w2, by show M.tick m1.t = _; rw [w5], w3, w4⟩), HD.out⟩ rfl
set_option maxRecDepth 100000 in
set_option maxHeartbeats 2000000 in
theorem stSD (m : Mc) (W : World) (hm : m.Ok W) (hh : m.h = false) (hd : M.due m.c m.t = true) (m' : Mc) (hm' : m' = { m with c := M.enter m.c 6 0, t := M.tick m.t, k := m.xs.length, q := m.ys.length }) :
   Calls Tryz.prog 23 #[.agg (mach m)] W fun e W' => e = .returned (.tuple #[.agg (mach m'), .agg #[.int .i64 6, .int .u32 0]]) ∧ Dn W W' := by
 have hl := hm.len
 have hc := hm.core
 have C1 := Lib.hid fun w => fun (ow : m.Ok w) => (by have h := fpend m w ow; rw [hd] at h; exact h : Calls Tryz.prog 28 #[.agg (mach m)] w fun e W' => e = .returned (.bool true) ∧ Dn w W')
 have hl' : m'.c.length = 29 := by rw [hm']; exact (hc.enter (k := 6) (v := 0) (by decide) (by decide)).len
 have C2 := Lib.hid fun w => fun (ow : m.Ok w) => stFinish m w ow 6 0 (by decide) (by decide) (by decide) (by decide) m' hm'
 clear hm' hd
 have D1 := Lib.hid fun w (d : Dn W w) => C1.out w (hm.dn d)
 have D2 := Lib.hid fun w (d : Dn W w) => C2.out w (hm.dn d)
 have S : Hid (Sw W W []) := Lib.hid (Dn.refl W)
 go_enter Tryz.func23, Tryz.ntmps23
 exact Wr
set_option maxRecDepth 100000 in
set_option maxHeartbeats 2000000 in
theorem stSNH (m : Mc) (W : World) (hm : m.Ok W) (hh : m.h = true) (T : Env2 W) (r : M.SRes) (HC : ∀ w, m.Ok w → Env2 w → Calls Tryz.prog 30 #[.agg (mach m)] w fun e W' => StRet w r e W') :
   Calls Tryz.prog 23 #[.agg (mach m)] W fun e W' => StRet W r e W' := by
 have hl := hm.len
 have hc := hm.core
 have C2 := Lib.hid fun w => fun (ow : m.Ok w) (t : Env2 w) => HC w ow t
 clear HC
 have HD := Lib.hid (Dn.refl W)
 go_enter Tryz.func23, Tryz.ntmps23
 go_wp2_with (first | ((with_reducible refine wpList_box (vs := (mach m)) ?_ ?_ ?_); rfl; rfl; intro b_v1 w' nn; refine Hid.out ?_))
 refine Lib.hid ?_
 have d' := nn.dn
 replace HD := hT HD d'
 have v1 := nn.blk
 clear d' nn
 go_wp2_with (first | ((with_reducible refine wpList_alloc zeroMach ?_ ?_); rfl; intro b_v2 w' nn; refine Hid.out ?_))
 refine Lib.hid ?_
 have n_v1_v2 := Lib.hid (nn.ne _ v1.lt)
 have HL_v2 : Hid (W.heap.size ≤ b_v2) := Lib.hid (Blk.hi nn HD.out.size)
 have d' := nn.dn
 replace v1 := v1.dn d'
 replace HD := hT HD d'
 have v2 := nn.blk
 clear d' nn
 go_wp2_with (first | ((with_reducible refine wpList_alloc zeroTrap ?_ ?_); rfl; intro b_v3 w' nn; refine Hid.out ?_))
 refine Lib.hid ?_
 have n_v1_v3 := Lib.hid (nn.ne _ v1.lt)
 have n_v2_v3 := Lib.hid (nn.ne _ v2.lt)
 have HL_v3 : Hid (W.heap.size ≤ b_v3) := Lib.hid (Blk.hi nn HD.out.size)
 have d' := nn.dn
 replace v1 := v1.dn d'
 replace v2 := v2.dn d'
 replace HD := hT HD d'
 have v3 := nn.blk
 clear d' nn
 have ck0 := v1.halted hl
 rw [hh] at ck0
 go_wp2_with (first | ((with_reducible refine load33 v1 hl ?_ ?_ ?_); rfl; rfl) | (go_at_call 30; (with_reducible refine (C2.out _ (hm.dn HD.out) (T.dn HD.out)).mono ?_); rintro e w' ⟨m1, rfl, o1, u1, d'⟩; refine Hid.out ?_))
 refine Lib.hid ?_
 clear ck0
 replace v1 := v1.dn d'
 replace v2 := v2.dn d'
 replace v3 := v3.dn d'
 replace HD := hT HD d'
 clear d'
 have l1 := o1.out.len
 have o1 := Lib.hid o1.out
 go_wp2_with (first | ((with_reducible refine store33 m1 l1 v2 zlen ?_ ?_ ?_ ?_); rfl; rfl; rfl; intro w' r' t'; refine Hid.out ?_))
 refine Lib.hid ?_
 replace o1 := Lib.hid (o1.out.trn v2 (NoU8.mach _) t')
 replace v1 := v1.trn t' n_v1_v2.out
 replace v3 := v3.trn t' n_v2_v3.out.symm
 replace HD := Lib.hid (HD.out.trn HL_v2.out t')
 clear t' v2
 have v2 := r'
 clear r'
 go_wp2_with (first | ((with_reducible refine storeTrap (k := r.k) (v := r.v) v3 ?_ ?_ ?_ ?_); rfl; rfl; rfl; intro w' r' t'; refine Hid.out ?_))
 refine Lib.hid ?_
 replace o1 := Lib.hid (o1.out.trn v3 (NoU8.trap _ _) t')
 replace v1 := v1.trn t' n_v1_v3.out
 replace v2 := v2.trn t' n_v2_v3.out
 replace HD := Lib.hid (HD.out.trn HL_v3.out t')
 clear t' v3
 have v3 := r'
 clear r'
 go_wp2_with fail
 exact retMT rfl rfl rfl v2 l1 v3 ⟨m1, rfl, o1, u1, HD.out⟩ rfl
set_option maxRecDepth 100000 in
set_option maxHeartbeats 2000000 in
theorem stSNN (m : Mc) (W : World) (hm : m.Ok W) (hh : m.h = false) (T : Env2 W) (hd : M.due m.c m.t = false) (r : M.SRes) (HC : ∀ w, m.Ok w → Env2 w → Calls Tryz.prog 30 #[.agg (mach m)] w fun e W' => StRet w r e W') :
   Calls Tryz.prog 23 #[.agg (mach m)] W fun e W' => StRet W r e W' := by
 have hl := hm.len
 have hc := hm.core
 have C1 := Lib.hid fun w => fun (ow : m.Ok w) => (by have h := fpend m w ow; rw [hd] at h; exact h : Calls Tryz.prog 28 #[.agg (mach m)] w fun e W' => e = .returned (.bool false) ∧ Dn w W')
 clear hd
 have C2 := Lib.hid fun w => fun (ow : m.Ok w) (t : Env2 w) => HC w ow t
 clear HC
 have HD := Lib.hid (Dn.refl W)
 go_enter Tryz.func23, Tryz.ntmps23
 go_wp2_with (first | ((with_reducible refine wpList_box (vs := (mach m)) ?_ ?_ ?_); rfl; rfl; intro b_v1 w' nn; refine Hid.out ?_))
 refine Lib.hid ?_
 have d' := nn.dn
 replace HD := hT HD d'
 have v1 := nn.blk
 clear d' nn
 go_wp2_with (first | ((with_reducible refine wpList_alloc zeroMach ?_ ?_); rfl; intro b_v2 w' nn; refine Hid.out ?_))
 refine Lib.hid ?_
 have n_v1_v2 := Lib.hid (nn.ne _ v1.lt)
 have HL_v2 : Hid (W.heap.size ≤ b_v2) := Lib.hid (Blk.hi nn HD.out.size)
 have d' := nn.dn
 replace v1 := v1.dn d'
 replace HD := hT HD d'
 have v2 := nn.blk
 clear d' nn
 go_wp2_with (first | ((with_reducible refine wpList_alloc zeroTrap ?_ ?_); rfl; intro b_v3 w' nn; refine Hid.out ?_))
 refine Lib.hid ?_
 have n_v1_v3 := Lib.hid (nn.ne _ v1.lt)
 have n_v2_v3 := Lib.hid (nn.ne _ v2.lt)
 have HL_v3 : Hid (W.heap.size ≤ b_v3) := Lib.hid (Blk.hi nn HD.out.size)
 have d' := nn.dn
 replace v1 := v1.dn d'
 replace v2 := v2.dn d'
 replace HD := hT HD d'
 have v3 := nn.blk
 clear d' nn
 have ck0 := v1.halted hl
 rw [hh] at ck0
 go_wp2_with (first | ((with_reducible refine load33 v1 hl ?_ ?_ ?_); rfl; rfl) | (go_at_call 28; (with_reducible refine (C1.out _ (hm.dn HD.out)).mono ?_); rintro e w' ⟨rfl, d'⟩; refine Hid.out ?_))
 refine Lib.hid ?_
 clear ck0
 replace v1 := v1.dn d'
 replace v2 := v2.dn d'
 replace v3 := v3.dn d'
 replace HD := hT HD d'
 clear d'
 go_wp2_with (first | ((with_reducible refine load33 v1 hl ?_ ?_ ?_); rfl; rfl) | (go_at_call 30; (with_reducible refine (C2.out _ (hm.dn HD.out) (T.dn HD.out)).mono ?_); rintro e w' ⟨m1, rfl, o1, u1, d'⟩; refine Hid.out ?_))
 refine Lib.hid ?_
 replace v1 := v1.dn d'
 replace v2 := v2.dn d'
 replace v3 := v3.dn d'
 replace HD := hT HD d'
 clear d'
 have l1 := o1.out.len
 have o1 := Lib.hid o1.out
 go_wp2_with (first | ((with_reducible refine store33 m1 l1 v2 zlen ?_ ?_ ?_ ?_); rfl; rfl; rfl; intro w' r' t'; refine Hid.out ?_))
 refine Lib.hid ?_
 replace o1 := Lib.hid (o1.out.trn v2 (NoU8.mach _) t')
 replace v1 := v1.trn t' n_v1_v2.out
 replace v3 := v3.trn t' n_v2_v3.out.symm
 replace HD := Lib.hid (HD.out.trn HL_v2.out t')
 clear t' v2
 have v2 := r'
 clear r'
 go_wp2_with (first | ((with_reducible refine storeTrap (k := r.k) (v := r.v) v3 ?_ ?_ ?_ ?_); rfl; rfl; rfl; intro w' r' t'; refine Hid.out ?_))
 refine Lib.hid ?_
 replace o1 := Lib.hid (o1.out.trn v3 (NoU8.trap _ _) t')
 replace v1 := v1.trn t' n_v1_v3.out
 replace v2 := v2.trn t' n_v2_v3.out
 replace HD := Lib.hid (HD.out.trn HL_v3.out t')
 clear t' v3
 have v3 := r'
 clear r'
 go_wp2_with fail
 exact retMT rfl rfl rfl v2 l1 v3 ⟨m1, rfl, o1, u1, HD.out⟩ rfl
end Go.Proofs.YtclpdjpaaagkdaaGreatDoor
