/-
  Contracts over the translated program and the plain facts behind them, of the texts: ExCalls, ExRet, Fill, ExBegin, ExRun, WordsOpen, CoreOpen, MemOpen, MachOpen. Conditions: those that stand in each theorem.
-/
import Derived.Laws.Tables
import Derived.Test.YtclpdjpaaagkdaaGreatDoorPmB
import Derived.Test.YtclpdjpaaagkdaaGreatDoorPmE
import Derived.Test.YtclpdjpaaagkdaaGreatDoorPmX
import Derived.Test.YtclpdjpaaagkdaaGreatDoorPmA
import Derived.Test.YtclpdjpaaagkdaaGreatDoorPmC
namespace Go.Proofs.YtclpdjpaaagkdaaGreatDoor
open Go.ChangeShapes Go.WideShapes Go.ChangeAt Go.RowKit Go.Sort
set_option linter.unusedVariables false

set_option maxRecDepth 100000 in
set_option maxHeartbeats 2000000 in
theorem xImm (m : Mc) (op rd ra rb imm x y z : Int) (b_g : Nat) (W : World) (g : Blk W b_g 127 (prg m op rd ra rb imm x y z)) (hm : m.Ok W) (i0 : -2147483648 ≤ imm) (i1 : imm < 2147483648) :
   Calls Tryz.prog 144 #[.pointer (some ⟨b_g, 0, none⟩)] W fun e W' => e = .returned (.int .u32 (M.iw imm)) ∧ Dn W W' := by
 have hl := hm.len
 have HE : Hid (imm % 4294967296 = M.iw imm) := Lib.hid rfl
 have k0 := g.pimm hl
 go_enter Tryz.func144, Tryz.ntmps144
 go_wp2
 go_ret
 exact ⟨ret_int HE.out, Dn.refl _⟩
set_option maxRecDepth 100000 in
set_option maxHeartbeats 2000000 in
theorem xDist (m : Mc) (op rd ra rb imm x y z : Int) (b_g : Nat) (W : World) (g : Blk W b_g 127 (prg m op rd ra rb imm x y z)) (hm : m.Ok W) (i0 : -2147483648 ≤ imm) (i1 : imm < 2147483648) :
   Calls Tryz.prog 149 #[.pointer (some ⟨b_g, 0, none⟩)] W fun e W' => e = .returned (.int .u32 (M.far imm)) ∧ Dn W W' := by
 have hl := hm.len
 have HE : Hid (4 * M.iw imm % 4294967296 = M.far imm) := Lib.hid rfl
 have hr := M.iw_rng imm
 have C1 := Lib.hid fun w => fun (gw : Blk w b_g 127 (prg m op rd ra rb imm x y z)) (ow : m.Ok w) => xImm m op rd ra rb imm x y z b_g w gw ow i0 i1
 generalize M.iw imm = u at C1 HE hr
 have E0 := HE
 have D1 := Lib.hid fun w (d : Dn W w) => C1.out w (g.dn d) (hm.dn d)
 have S : Hid (Sw W W []) := Lib.hid (Dn.refl W)
 go_enter Tryz.func149, Tryz.ntmps149
 exact Wr
set_option maxRecDepth 100000 in
set_option maxHeartbeats 2000000 in
theorem xSum (m : Mc) (op rd ra rb imm x y z : Int) (b_g : Nat) (W : World) (g : Blk W b_g 127 (prg m op rd ra rb imm x y z)) (hm : m.Ok W) (i0 : -2147483648 ≤ imm) (i1 : imm < 2147483648) (x0 : 0 ≤ x) (x1 : x < 4294967296) (s : Int) (hs : Hid ((x + M.iw imm) % 4294967296 = s)) :
   Calls Tryz.prog 143 #[.pointer (some ⟨b_g, 0, none⟩)] W fun e W' => e = .returned (.int .u32 s) ∧ Dn W W' := by
 have hl := hm.len
 have hr := M.iw_rng imm
 have C1 := Lib.hid fun w => fun (gw : Blk w b_g 127 (prg m op rd ra rb imm x y z)) (ow : m.Ok w) => xImm m op rd ra rb imm x y z b_g w gw ow i0 i1
 generalize M.iw imm = u at C1 hs hr
 have E0 := hs
 have D1 := Lib.hid fun w (d : Dn W w) => C1.out w (g.dn d) (hm.dn d)
 have R1 : Hid (Rg [] [0, 1, 2, 3, 4, 5, 6, 7] []) := Lib.hid trivial
 have S : Hid (Sw W W []) := Lib.hid (Dn.refl W)
 go_enter Tryz.func143, Tryz.ntmps143
 exact Wr
set_option maxRecDepth 100000 in
set_option maxHeartbeats 2000000 in
theorem xAdv (c : List Int) (d : Int) (c' : List Int) (W : World) (hc : M.Core c) (d0 : 0 ≤ d) (d1 : d < 4294967296) (he : M.adv c d = c') :
   Calls Tryz.prog 134 #[.agg (ints .u32 c), .int .u32 d] W fun e W' => e = .returned (.agg (ints .u32 c')) ∧ Dn W W' := by
 have hl := hc.len
 have p0 := (M.core_pc hc).1
 have p1 := (M.core_pc hc).2
 have hpc : c.getD 16 0 = M.pc c := rfl
 have hl2 : c'.length = 29 := by rw [← he]; exact (hc.adv d).len
 have HE : Hid (c.set 16 ((M.pc c + d) % 4294967296) = c') := Lib.hid he
 clear he
 generalize M.pc c = p at hpc HE p0 p1
 have E1 := Lib.hid (HE.out)
 have N1 : wd c 16 = _ := hpc
 have S : Hid (Sw W W []) := Lib.hid (Dn.refl W)
 go_enter Tryz.func134, Tryz.ntmps134
 exact Wr
set_option maxRecDepth 100000 in
set_option maxHeartbeats 2000000 in
theorem xWritten (m : Mc) (op rd ra rb imm x y z : Int) (b_g : Nat) (W : World) (g : Blk W b_g 127 (prg m op rd ra rb imm x y z)) (hm : m.Ok W) (v : Int) (c' : List Int) (hc' : M.Core c') (hv : M.setreg m.c rd v = c') :
   Calls Tryz.prog 158 #[.pointer (some ⟨b_g, 0, none⟩), .int .u32 v] W fun e W' => e = .returned (.agg (ints .u32 c')) ∧ Dn W W' := by
 have hl := hm.len
 have hs := hc'.len
 have he : (M.setreg (m.c.take 16) rd v).length = 16 := by rw [M.setreg_len, List.length_take, hl]; rfl
 have HE : Hid (M.setreg (m.c.take 16) rd v ++ m.c.drop 16 = c') := Lib.hid (by rw [M.setreg_take m.c hl]; exact hv)
 have C1 := Lib.hid fun w => regSet (m.c.take 16) rd v w (by rw [List.length_take, hl]; rfl)
 generalize M.setreg (m.c.take 16) rd v = e at he HE C1
 clear hv
 have HD := Lib.hid (Dn.refl W)
 go_enter Tryz.func158, Tryz.ntmps158
 go_wp2_with (first | ((with_reducible refine wpList_alloc zeroCore ?_ ?_); rfl; intro b_v4 w' nn; refine Hid.out ?_))
 refine Lib.hid ?_
 have n_g_v4 := Lib.hid (nn.ne _ g.lt)
 have HL_v4 : Hid (W.heap.size ≤ b_v4) := Lib.hid (Blk.hi nn HD.out.size)
 have d' := nn.dn
 replace g := g.dn d'
 replace HD := hT HD d'
 have v4 := nn.blk
 clear d' nn
 go_wp2_with (first | ((with_reducible refine loadPc g hl ?_ ?_ ?_); rfl; rfl) | ((with_reducible refine wpList_alloc zeroCore ?_ ?_); rfl; intro b_v5 w' nn; refine Hid.out ?_))
 refine Lib.hid ?_
 have n_g_v5 := Lib.hid (nn.ne _ g.lt)
 have n_v4_v5 := Lib.hid (nn.ne _ v4.lt)
 have HL_v5 : Hid (W.heap.size ≤ b_v5) := Lib.hid (Blk.hi nn HD.out.size)
 have d' := nn.dn
 replace g := g.dn d'
 replace v4 := v4.dn d'
 replace HD := hT HD d'
 have v5 := nn.blk
 clear d' nn
 go_wp2_with (first | ((with_reducible refine restore29 m.c hl (Blk.row v5) z29 ?_ ?_ ?_ ?_); rfl; rfl; rfl; intro w' r' t'; refine Hid.out ?_))
 refine Lib.hid ?_
 replace g := g.trn t' n_g_v5.out
 replace v4 := v4.trn t' n_v4_v5.out
 replace HD := Lib.hid (HD.out.trn HL_v5.out t')
 clear t' v5
 have v5 := Row.blk r'
 clear r'
 go_wp2_with fail
 have d' : Dn w' { w' with drawn := w'.drawn + 1 } := (Dn.refl w').drew
 refine wp_region_still_tail 8 (by kernel_rfl) (by kernel_rfl) ?_
 simp only [List.take_succ_cons, List.take_zero, List.drop_succ_cons, List.drop_zero]
 replace g := g.dn d'
 replace v4 := v4.dn d'
 replace v5 := v5.dn d'
 replace HD := hT HD d'
 clear d'
 generalize ({ w' with drawn := w'.drawn + 1 } : World) = w' at g v4 v5 HD ⊢
 have ck0 := g.prd hl
 repeat (first | ((with_reducible refine stillCregs v5 hl ?_ ?_ ?_); rfl; rfl; simp only [Act.put, tA, tS, tZ]) | still_step)
 refine wpStill_nil ?_
 clear ck0
 go_wp2_with (first | (go_at_call 136; (with_reducible refine (C1.out _).mono ?_); rintro e w' ⟨rfl, d'⟩; refine Hid.out ?_))
 refine Lib.hid ?_
 replace g := g.dn d'
 replace v4 := v4.dn d'
 replace v5 := v5.dn d'
 replace HD := hT HD d'
 clear d'
 go_wp2_with (first | ((with_reducible refine store_regs e he (Blk.row v5) hl ?_ ?_ ?_ ?_); rfl; rfl; rfl; intro w' r' t'; refine Hid.out ?_))
 refine Lib.hid ?_
 replace g := g.trn t' n_g_v5.out
 replace v4 := v4.trn t' n_v4_v5.out
 rw [HE.out] at r'
 replace HD := Lib.hid (HD.out.trn HL_v5.out t')
 clear t' v5
 have v5 := Row.blk r'
 clear r'
 go_wp2_with (first | ((with_reducible refine load29 (Blk.row v5) hs ?_ ?_ ?_); rfl; rfl) | ((with_reducible refine restore29 c' hs (Blk.row v4) z29 ?_ ?_ ?_ ?_); rfl; rfl; rfl; intro w' r' t'; refine Hid.out ?_))
 refine Lib.hid ?_
 replace g := g.trn t' n_g_v4.out
 replace v5 := v5.trn t' n_v4_v5.out.symm
 replace HD := Lib.hid (HD.out.trn HL_v4.out t')
 clear t' v4
 have v4 := Row.blk r'
 clear r'
 go_wp2_with fail
 exact ret29 rfl rfl (Blk.row v4) hs ⟨rfl, HD.out⟩ rfl
set_option maxRecDepth 100000 in
set_option maxHeartbeats 2000000 in
theorem xLinked (m : Mc) (op rd ra rb imm x y z : Int) (b_g : Nat) (W : World) (g : Blk W b_g 127 (prg m op rd ra rb imm x y z)) (hm : m.Ok W) (c' : List Int) (hc' : M.Core c') (hv : M.setreg m.c rd (M.nxt m.c) = c') :
   Calls Tryz.prog 150 #[.pointer (some ⟨b_g, 0, none⟩)] W fun e W' => e = .returned (.agg (ints .u32 c')) ∧ Dn W W' := by
 have hl := hm.len
 have hs := hc'.len
 have hc := hm.core
 have hr := M.nxt_rng m.c
 obtain ⟨c1, e1⟩ : ∃ c1, M.adv m.c 4 = c1 := ⟨_, rfl⟩
 have l1 : c1.length = 29 := by rw [← e1]; exact (hc.adv 4).len
 have f1 : c1.getD 16 0 = M.nxt m.c := by rw [← e1]; exact M.pc_adv hl 4
 have C1 := Lib.hid fun w => xAdv m.c 4 c1 w hc (by decide) (by decide) e1
 have kf := ints_get .u32 c1 16 (by omega)
 rw [f1] at kf
 generalize M.nxt m.c = p at hv kf hr f1
 have C2 := Lib.hid fun w => fun (gw : Blk w b_g 127 (prg m op rd ra rb imm x y z)) (ow : m.Ok w) => xWritten m op rd ra rb imm x y z b_g w gw ow p c' hc' hv
 clear e1 hv
 have HF := Lib.hid (fun w => by have h := field_pc l1 w; rw [f1] at h; exact h : ∀ w, (Instr.field 26 (.agg (ints .u32 c1)) 1).run Tryz.prog w = .ok (.int .u32 p) w)
 clear f1
 have HD := Lib.hid (Dn.refl W)
 go_enter Tryz.func150, Tryz.ntmps150
 go_wp2_with (first | ((with_reducible refine wpList_alloc zeroCore ?_ ?_); rfl; intro b_v2 w' nn; refine Hid.out ?_))
 refine Lib.hid ?_
 have n_g_v2 := Lib.hid (nn.ne _ g.lt)
 have HL_v2 : Hid (W.heap.size ≤ b_v2) := Lib.hid (Blk.hi nn HD.out.size)
 have d' := nn.dn
 replace g := g.dn d'
 replace HD := hT HD d'
 have v2 := nn.blk
 clear d' nn
 go_wp2_with (first | ((with_reducible refine loadPc g hl ?_ ?_ ?_); rfl; rfl) | (go_at_call 134; (with_reducible refine (C1.out _).mono ?_); rintro e w' ⟨rfl, d'⟩; refine Hid.out ?_))
 refine Lib.hid ?_
 replace g := g.dn d'
 replace v2 := v2.dn d'
 replace HD := hT HD d'
 clear d'
 have hf := HF.out
 go_wp2_with (first | (go_at_call 158; (with_reducible refine (C2.out _ g (hm.dn HD.out)).mono ?_); rintro e w' ⟨rfl, d'⟩; refine Hid.out ?_))
 refine Lib.hid ?_
 replace g := g.dn d'
 replace v2 := v2.dn d'
 replace HD := hT HD d'
 clear d'
 go_wp2_with (first | ((with_reducible refine restore29 c' hs (Blk.row v2) z29 ?_ ?_ ?_ ?_); rfl; rfl; rfl; intro w' r' t'; refine Hid.out ?_))
 refine Lib.hid ?_
 replace g := g.trn t' n_g_v2.out
 replace HD := Lib.hid (HD.out.trn HL_v2.out t')
 clear t' v2
 have v2 := Row.blk r'
 clear r'
 go_wp2_with fail
 exact ret29 rfl rfl (Blk.row v2) hs ⟨rfl, HD.out⟩ rfl
set_option maxRecDepth 100000 in
set_option maxHeartbeats 2000000 in
theorem xProceed (m : Mc) (op rd ra rb imm x y z : Int) (b_g : Nat) (W : World) (g : Blk W b_g 127 (prg m op rd ra rb imm x y z)) (hm : m.Ok W) (c : List Int) (m' : Mc) (hc : c.length = 29) (hm' : m' = { m with c := c }) :
   Calls Tryz.prog 148 #[.pointer (some ⟨b_g, 0, none⟩), .agg (ints .u32 c)] W fun e W' => e = .returned (.tuple #[.agg (mach m'), .agg #[.int .i64 0, .int .u32 0]]) ∧ Dn W W' := by
 have hl := hm.len
 have hl' : m'.c.length = 29 := by rw [hm']; exact hc
 replace hm' := Lib.hid hm'
 have E1 := Lib.hid (hm'.out).symm
 have S : Hid (Sw W W []) := Lib.hid (Dn.refl W)
 go_enter Tryz.func148, Tryz.ntmps148
 exact Wr
set_option maxRecDepth 100000 in
set_option maxHeartbeats 2000000 in
theorem xSet (m : Mc) (op rd ra rb imm x y z : Int) (b_g : Nat) (W : World) (g : Blk W b_g 127 (prg m op rd ra rb imm x y z)) (hm : m.Ok W) (v : Int) (v0 : 0 ≤ v) (v1 : v < 4294967296) (m' : Mc) (hm' : m' = { m with c := M.adv (M.setreg m.c rd v) 4 }) :
   Calls Tryz.prog 141 #[.pointer (some ⟨b_g, 0, none⟩), .int .u32 v] W fun e W' => e = .returned (.tuple #[.agg (mach m'), .agg #[.int .i64 0, .int .u32 0]]) ∧ Dn W W' := by
 have hl := hm.len
 have hc := hm.core
 obtain ⟨c1, e1⟩ : ∃ c1, M.setreg m.c rd v = c1 := ⟨_, rfl⟩
 obtain ⟨c2, e2⟩ : ∃ c2, M.adv c1 4 = c2 := ⟨_, rfl⟩
 have k1 : M.Core c1 := by rw [← e1]; exact hc.setreg rd ⟨v0, v1⟩
 have k2 : M.Core c2 := by rw [← e2]; exact k1.adv 4
 rw [e1, e2] at hm'
 have hl' : m'.c.length = 29 := by rw [hm']; exact k2.len
 have C1 := Lib.hid fun w => fun (gw : Blk w b_g 127 (prg m op rd ra rb imm x y z)) (ow : m.Ok w) => xWritten m op rd ra rb imm x y z b_g w gw ow v c1 k1 e1
 have C2 := Lib.hid fun w => xAdv c1 4 c2 w k1 (by decide) (by decide) e2
 have C3 := Lib.hid fun w => fun (gw : Blk w b_g 127 (prg m op rd ra rb imm x y z)) (ow : m.Ok w) => xProceed m op rd ra rb imm x y z b_g w gw ow c2 m' k2.len hm'
 clear e1 e2 hm'
 have D1 := Lib.hid fun w (d : Dn W w) => C1.out w (g.dn d) (hm.dn d)
 have D2 := Lib.hid fun w (d : Dn W w) => C2.out w
 have D3 := Lib.hid fun w (d : Dn W w) => C3.out w (g.dn d) (hm.dn d)
 have S : Hid (Sw W W []) := Lib.hid (Dn.refl W)
 go_enter Tryz.func141, Tryz.ntmps141
 exact Wr
set_option maxRecDepth 100000 in
set_option maxHeartbeats 2000000 in
theorem xTrapped (k v : Int) (b : Bool) (W : World) (hb : (!(k == 0 && v == 0)) = b) : Calls Tryz.prog 160 #[.agg #[.int .i64 k, .int .u32 v]] W fun e W' => e = .returned (.bool b) ∧ Dn W W' := by
 have q0 : ∀ w, (Op.equalIn 10000 46 (.agg #[.int .i64 k, .int .u32 v]) (.agg #[.int .i64 0, .int .u32 0])).run Tryz.prog w = .ok (!b) w := fun w => by rw [eqTrap, ← hb, Bool.not_not]
 have g0 := Blk.new W 46 #[.int .i64 k, .int .u32 v]
 clear hb
 go_enter Tryz.func160, Tryz.ntmps160
 go_wp2_with (first | ((with_reducible refine loadTrap g0 ?_ ?_ ?_); rfl; rfl))
 go_ret
 exact ⟨ret_bool (by simp), (Dn.refl W).alloc _⟩
set_option maxRecDepth 100000 in
set_option maxHeartbeats 2000000 in
theorem xCompute (m : Mc) (op rd ra rb imm x y z : Int) (b_g : Nat) (W : World) (g : Blk W b_g 127 (prg m op rd ra rb imm x y z)) (hm : m.Ok W) (v : Int) (x0 : 0 ≤ x) (x1 : x < 4294967296) (y0 : 0 ≤ y) (y1 : y < 4294967296) (hv : M.ev op x y = v) (v0 : 0 ≤ v) (v1 : v < 4294967296) (m' : Mc) (hm' : m' = { m with c := M.adv (M.setreg m.c rd v) 4 }) :
   Calls Tryz.prog 114 #[.pointer (some ⟨b_g, 0, none⟩)] W fun e W' => e = .returned (.tuple #[.agg (mach m'), .agg #[.int .i64 0, .int .u32 0]]) ∧ Dn W W' := by
 have hl := hm.len
 have hl' : m'.c.length = 29 := by rw [hm']; exact ((hm.core.setreg rd ⟨v0, v1⟩).adv 4).len
 have C1 := Lib.hid (eval_is op x y v ⟨x0, x1⟩ ⟨y0, y1⟩ hv)
 clear hv
 have C9 := Lib.hid fun w => fun (gw : Blk w b_g 127 (prg m op rd ra rb imm x y z)) (ow : m.Ok w) => xSet m op rd ra rb imm x y z b_g w gw ow v v0 v1 m' hm'
 clear hm'
 have D1 := Lib.hid fun w (d : Dn W w) => C1.out w
 have D2 := Lib.hid fun w (d : Dn W w) => C9.out w (g.dn d) (hm.dn d)
 have R1 : Hid (Rg [0, 1] [0, 1, 2, 3, 4, 5, 6, 7, 8, 9, 10, 11, 12, 13, 14, 15, 16, 17] [[18], [19]]) := Lib.hid trivial
 have S : Hid (Sw W W []) := Lib.hid (Dn.refl W)
 go_enter Tryz.func114, Tryz.ntmps114
 exact Wr
set_option maxRecDepth 100000 in
set_option maxHeartbeats 2000000 in
theorem xAddi (m : Mc) (op rd ra rb imm x y z : Int) (b_g : Nat) (W : World) (g : Blk W b_g 127 (prg m op rd ra rb imm x y z)) (hm : m.Ok W) (i0 : -2147483648 ≤ imm) (i1 : imm < 2147483648) (x0 : 0 ≤ x) (x1 : x < 4294967296) (v : Int) (hv : Hid ((x + M.iw imm) % 4294967296 = v)) (v0 : 0 ≤ v) (v1 : v < 4294967296) (m' : Mc) (hm' : m' = { m with c := M.adv (M.setreg m.c rd v) 4 }) :
   Calls Tryz.prog 115 #[.pointer (some ⟨b_g, 0, none⟩)] W fun e W' => e = .returned (.tuple #[.agg (mach m'), .agg #[.int .i64 0, .int .u32 0]]) ∧ Dn W W' := by
 have hl := hm.len
 have hl' : m'.c.length = 29 := by rw [hm']; exact ((hm.core.setreg rd ⟨v0, v1⟩).adv 4).len
 have C1 := Lib.hid fun w => fun (gw : Blk w b_g 127 (prg m op rd ra rb imm x y z)) (ow : m.Ok w) => xSum m op rd ra rb imm x y z b_g w gw ow i0 i1 x0 x1 v hv
 clear hv
 have C9 := Lib.hid fun w => fun (gw : Blk w b_g 127 (prg m op rd ra rb imm x y z)) (ow : m.Ok w) => xSet m op rd ra rb imm x y z b_g w gw ow v v0 v1 m' hm'
 clear hm'
 have D1 := Lib.hid fun w (d : Dn W w) => C1.out w (g.dn d) (hm.dn d)
 have D2 := Lib.hid fun w (d : Dn W w) => C9.out w (g.dn d) (hm.dn d)
 have S : Hid (Sw W W []) := Lib.hid (Dn.refl W)
 go_enter Tryz.func115, Tryz.ntmps115
 exact Wr
set_option maxRecDepth 100000 in
set_option maxHeartbeats 2000000 in
theorem xLui (m : Mc) (op rd ra rb imm x y z : Int) (b_g : Nat) (W : World) (g : Blk W b_g 127 (prg m op rd ra rb imm x y z)) (hm : m.Ok W) (i0 : -2147483648 ≤ imm) (i1 : imm < 2147483648) (v : Int) (hv : M.iw imm * 16384 % 4294967296 = v) (v0 : 0 ≤ v) (v1 : v < 4294967296) (m' : Mc) (hm' : m' = { m with c := M.adv (M.setreg m.c rd v) 4 }) :
   Calls Tryz.prog 116 #[.pointer (some ⟨b_g, 0, none⟩)] W fun e W' => e = .returned (.tuple #[.agg (mach m'), .agg #[.int .i64 0, .int .u32 0]]) ∧ Dn W W' := by
 have hl := hm.len
 have hl' : m'.c.length = 29 := by rw [hm']; exact ((hm.core.setreg rd ⟨v0, v1⟩).adv 4).len
 have hr := M.iw_rng imm
 have C1 := Lib.hid fun w => fun (gw : Blk w b_g 127 (prg m op rd ra rb imm x y z)) (ow : m.Ok w) => xImm m op rd ra rb imm x y z b_g w gw ow i0 i1
 have C9 := Lib.hid fun w => fun (gw : Blk w b_g 127 (prg m op rd ra rb imm x y z)) (ow : m.Ok w) => xSet m op rd ra rb imm x y z b_g w gw ow v v0 v1 m' hm'
 clear hm'
 subst hv
 generalize M.iw imm = u at C1 C9 v0 v1 hr
 have D1 := Lib.hid fun w (d : Dn W w) => C1.out w (g.dn d) (hm.dn d)
 have D2 := Lib.hid fun w (d : Dn W w) => C9.out w (g.dn d) (hm.dn d)
 have S : Hid (Sw W W []) := Lib.hid (Dn.refl W)
 go_enter Tryz.func116, Tryz.ntmps116
 exact Wr

def ExRet (W : World) (m : Mc) (r : M.Res) (e : Ending) (W' : World) : Prop :=
 ∃ m1, e = .returned (.tuple #[.agg (mach m1), .agg #[.int .i64 r.k, .int .u32 r.v]]) ∧ Hid (m1.Ok W') ∧ Hid (Mc.Up { m with c := r.c } r.z m1) ∧ Dn W W'
theorem Mc.Up.core {m m1 : Mc} {z : List Int} (h : m.Up z m1) : m1.c = m.c := by obtain ⟨A, k, rfl⟩ := h; rfl
theorem ExRet.of {W W' : World} {m m' : Mc} {c : List Int} {k v : Int} {e : Ending} (hm : m.Ok W) (hc : M.Core c) (hm' : m' = { m with c := c }) (h : e = .returned (.tuple #[.agg (mach m'), .agg #[.int .i64 k, .int .u32 v]]) ∧ Dn W W') : ExRet W m ⟨c, m.xs, k, v⟩ e W' := by
 subst hm'
 exact ⟨_, h.1, Lib.hid ⟨hc, hm.mem.dn h.2, hm.out.dn h.2, hm.t0, hm.t1⟩, Lib.hid ⟨m.A, m.k, rfl⟩, h.2⟩

theorem lay_cons (cs : Array Value) (o : Nat) (c : Value) (t : List Value) (h : o < cs.size) : lay (cs.setIfInBounds o c) (o + 1) t.toArray = lay cs o (c :: t).toArray := by
 have hl : o < cs.toList.length := by simpa using h
 apply Array.toList_inj.1
 simp only [lay, Array.toList_setIfInBounds, List.size_toArray, List.length_cons]
 rw [List.set_eq_take_append_cons_drop, if_pos hl]
 have h1 : (cs.toList.take o).length = o := by rw [List.length_take]; omega
 have e1 : (cs.toList.take o ++ c :: cs.toList.drop (o + 1)).take (o + 1) = cs.toList.take o ++ [c] := by
   rw [List.take_append, h1, List.take_of_length_le (by omega), show o + 1 - o = 1 by omega]; rfl
 have e2 : (cs.toList.take o ++ c :: cs.toList.drop (o + 1)).drop (o + 1 + t.length) = cs.toList.drop (o + (t.length + 1)) := by
   rw [List.drop_append, h1, List.drop_eq_nil_of_le (by omega), show o + 1 + t.length - o = t.length + 1 by omega, List.drop_succ_cons, List.drop_drop, List.nil_append]
   congr 1; omega
 rw [e1, e2]
 simp
theorem fold_lay (o : Nat) : ∀ (l : List Value) (k : Nat) (cs : Array Value), o + k + l.length ≤ cs.size → (l.zipIdx k).foldl (fun cs (x : Value × Nat) => cs.setIfInBounds (o + x.2) x.1) cs = lay cs (o + k) l.toArray
 | [], k, cs, h => by
   apply Array.toList_inj.1
   simp [lay]
 | c :: t, k, cs, h => by
   simp only [List.length_cons] at h
   simp only [List.zipIdx_cons, List.foldl_cons]
   rw [fold_lay o t (k + 1) _ (by rw [Array.size_setIfInBounds]; omega), ← lay_cons cs (o + k) c t (by omega), Nat.add_assoc]
theorem fill_step {place : Nat → Option (Nat × Nat)} {cs vs : Array Value} {i o n : Nat} {v : Value} {rest : List (Nat × Value)} (hp : place i = some (o, n)) (hv : v.cells = vs) (hn : vs.size = n) (h : o + n ≤ cs.size) :
   Instr.fill place cs ((i, v) :: rest) = Instr.fill place (lay cs o vs) rest := by
 subst hv
 conv => lhs; unfold Instr.fill
 simp only [hp]
 rw [if_neg (by simp [hn]; omega)]
 congr 1
 rw [← Array.foldl_toList]
 have e : v.cells.zipIdx.toList = v.cells.toList.zipIdx := by simp
 rw [e]
 have := fold_lay o v.cells.toList 0 cs (by simp only [Array.length_toList, hn]; omega)
 simpa using this
def Pl (place : Nat → Option (Nat × Nat)) (i o : Nat) : List Nat → Prop
 | [] => True
 | n :: t => place i = some (o, n) ∧ Pl place (i + 1) (o + n) t
theorem lay_next (p q vs : Array Value) (hq : vs.size ≤ q.size) : lay (p ++ q) p.size vs = (p ++ vs) ++ (q.toList.drop vs.size).toArray := by
 apply Array.toList_inj.1
 simp only [lay, Array.toList_append]
 rw [List.take_append_of_le_length (by simp), List.take_of_length_le (by simp), List.drop_append]
 simp
theorem fill_side {place : Nat → Option (Nat × Nat)} : ∀ (l : List Value) (i : Nat) (done todo : Array Value), Pl place i done.size (l.map (·.cells.size)) → todo.size = (l.map (·.cells.size)).sum →
   Instr.fill place (done ++ todo) ((l.zipIdx i).map fun x => (x.2, x.1)) = some (done ++ (l.flatMap (·.cells.toList)).toArray)
 | [], i, done, todo, hp, ht => by
   have e : todo = #[] := by simpa using ht
   subst e
   simp [Instr.fill]
 | v :: l, i, done, todo, hp, ht => by
   simp only [List.map_cons, List.sum_cons] at hp ht
   obtain ⟨h1, h2⟩ := hp
   simp only [List.zipIdx_cons, List.map_cons]
   rw [fill_step h1 rfl rfl (by simp; omega), lay_next _ _ _ (by omega), fill_side l (i + 1) _ _ (by simpa using h2) (by simp; omega)]
   congr 1
   apply Array.toList_inj.1
   simp

theorem build_prg {m : Mc} (hl : m.c.length = 29) (op rd ra rb imm x y z : Int) (u : World) :
   (Instr.build 127 #[(0, .agg (mach m)), (1, .agg (ins op rd ra rb imm)), (2, .int .u32 x), (3, .int .u32 y), (4, .int .u32 z)]).run Tryz.prog u = .ok (.agg (prg m op rd ra rb imm x y z)) u := by
 refine run_build u _ _ _ ?_
 obtain ⟨it, c, hit, hz, hc⟩ : ∃ it c, Tryz.prog.info? 127 = some it ∧ it.zero = some (.agg c) ∧ c.size = 41 := by
   have h : (Tryz.prog.info? 127).map (·.zero) = some (some (.agg (mach Mc.zero ++ #[.int .i64 0, .int .i64 0, .int .i64 0, .int .i64 0, .int .i32 0, .int .u32 0, .int .u32 0, .int .u32 0]))) := by kernel_rfl
   cases hq : Tryz.prog.info? 127 with
   | none => rw [hq] at h; cases h
   | some it => exact ⟨it, _, rfl, by rw [hq] at h; simpa using h, by simp [mach_size zlen]⟩
 have hu : Tryz.prog.underlying 127 = some (.struct (Tryz.prog.fieldsOf 127)) := by
   unfold Program.fieldsOf
   rw [Tryz.underlying127]
 have hp : (Tryz.prog.fieldsOf 127).toList.mapM (fun f => (Tryz.prog.info? f.type).map fun i => (f.offset, i.size)) = some [(0, 33), (33, 5), (38, 1), (39, 1), (40, 1)] := by kernel_rfl
 have ms := mach_size hl
 have key := fill_side (place := fun i => ([(0, 33), (33, 5), (38, 1), (39, 1), (40, 1)] : List (Nat × Nat)).toArray[i]?) [.agg (mach m), .agg (ins op rd ra rb imm), .int .u32 x, .int .u32 y, .int .u32 z] 0 #[] c
   (by simp only [List.map_cons, List.map_nil, Value.cells, ms]; exact ⟨rfl, rfl, rfl, rfl, rfl, trivial⟩) (by simp only [List.map_cons, List.map_nil, Value.cells, ms, hc]; rfl)
 unfold Program.built
 simp only [hit, hu, hz, hp, Value.cells]
 simp only [Array.empty_append] at key
 refine Eq.trans key ?_
 simp [Value.cells, prg, ins]
set_option maxRecDepth 100000 in
set_option maxHeartbeats 2000000 in
theorem xBegin (m : Mc) (op rd ra rb imm x y z : Int) (W : World) (hm : m.Ok W) (hx : M.reg m.c ra = x) (hy : M.reg m.c rb = y) (hz : M.reg m.c rd = z) :
   Calls Tryz.prog 91 #[.agg (mach m), .agg (ins op rd ra rb imm)] W fun e W' => ∃ b, e = .returned (.pointer (some ⟨b, 0, none⟩)) ∧ Blk W' b 127 (prg m op rd ra rb imm x y z) ∧ W.heap.size ≤ b ∧ Dn W W' := by
 have hl := hm.len
 have C1 := Lib.hid fun w => (by have h := regGet (m.c.take 16) ra w (by rw [List.length_take, hl]; rfl); rw [M.reg_take m.c hl, hx] at h; exact h : Calls Tryz.prog 113 #[.agg (ints .u32 (m.c.take 16)), .int .i64 ra] w fun e W' => e = .returned (.int .u32 x) ∧ Dn w W')
 have C2 := Lib.hid fun w => (by have h := regGet (m.c.take 16) rb w (by rw [List.length_take, hl]; rfl); rw [M.reg_take m.c hl, hy] at h; exact h : Calls Tryz.prog 113 #[.agg (ints .u32 (m.c.take 16)), .int .i64 rb] w fun e W' => e = .returned (.int .u32 y) ∧ Dn w W')
 have C3 := Lib.hid fun w => (by have h := regGet (m.c.take 16) rd w (by rw [List.length_take, hl]; rfl); rw [M.reg_take m.c hl, hz] at h; exact h : Calls Tryz.prog 113 #[.agg (ints .u32 (m.c.take 16)), .int .i64 rd] w fun e W' => e = .returned (.int .u32 z) ∧ Dn w W')
 have HB := fun u => build_prg hl op rd ra rb imm x y z u
 clear hx hy hz
 have HD := Lib.hid (Dn.refl W)
 go_enter Tryz.func91, Tryz.ntmps91
 go_wp2_with (first | ((with_reducible refine wpList_box (vs := (mach m)) ?_ ?_ ?_); rfl; rfl; intro b_v2 w' nn; refine Hid.out ?_))
 refine Lib.hid ?_
 have d' := nn.dn
 replace HD := hT HD d'
 have v2 := nn.blk
 clear d' nn
 go_wp2_with (first | ((with_reducible refine wpList_box (vs := (ins op rd ra rb imm)) ?_ ?_ ?_); rfl; rfl; intro b_v3 w' nn; refine Hid.out ?_))
 refine Lib.hid ?_
 have d' := nn.dn
 replace v2 := v2.dn d'
 replace HD := hT HD d'
 have v3 := nn.blk
 clear d' nn
 go_wp2_with (first | ((with_reducible refine loadRegs v2 hl ?_ ?_ ?_); rfl; rfl) | ((with_reducible refine wpList_alloc zeroR ?_ ?_); rfl; intro b_v5 w' nn; refine Hid.out ?_))
 refine Lib.hid ?_
 have n_v2_v5 := Lib.hid (nn.ne _ v2.lt)
 have n_v3_v5 := Lib.hid (nn.ne _ v3.lt)
 have HL_v5 : Hid (W.heap.size ≤ b_v5) := Lib.hid (Blk.hi nn HD.out.size)
 have d' := nn.dn
 replace v2 := v2.dn d'
 replace v3 := v3.dn d'
 replace HD := hT HD d'
 have v5 := nn.blk
 clear d' nn
 go_wp2_with (first | ((with_reducible refine restore16x (m.c.take 16) (take16 hl) (Blk.row v5) z16 ?_ ?_ ?_ ?_); rfl; rfl; rfl; intro w' r' t'; refine Hid.out ?_))
 refine Lib.hid ?_
 replace v2 := v2.trn t' n_v2_v5.out
 replace v3 := v3.trn t' n_v3_v5.out
 replace HD := Lib.hid (HD.out.trn HL_v5.out t')
 clear t' v5
 have v5 := Row.blk r'
 clear r'
 go_wp2_with fail
 have nx_v2 : b_v2 ∉ [] := (by simp)
 have nx_v3 : b_v3 ∉ [] := (by simp)
 have nx_v5 : b_v5 ∉ [] := (by simp)
 have hbs : ∀ b ∈ ([] : List Nat), ∃ t cs, Blk w' b t cs ∧ NoU8 cs := fun b hb => absurd hb (by simp)
 have hbl : ∀ b ∈ ([] : List Nat), W.heap.size ≤ b := fun b hb => absurd hb (by simp)
 refine wp_region_picks [] [0, 1, 2, 3, 4, 5, 6, 7, 8, 9, 10, 11, 12, 13, 14] 2 (by kernel_rfl) (by kernel_rfl) rfl (by kernel_rfl) ?_
 simp only [pickL, List.drop_succ_cons, List.drop_zero, List.take_succ_cons, List.take_zero, List.cons_append, List.nil_append]
 refine ⟨?_, ?_, ?_⟩
 rotate_left 1
 refine ⟨_, calx33 v2 hl nx_v2 (by rfl) rfl, ?_⟩
 simp only [Act.put, tA, tS, tZ]
 refine ⟨_, calxI v3 nx_v3 (by rfl) rfl, ?_⟩
 simp only [Act.put, tA, tS, tZ]
 refine ⟨_, calx16 v5 (take16 hl) nx_v5 (by rfl) rfl, ?_⟩
 simp only [Act.put, tA, tS, tZ]
 refine ⟨_, calx_pure (by rfl) (fun u => by go_simp; rfl), ?_⟩
 simp only [Act.put, tA, tS, tZ]
 refine ⟨_, calxInt (v := .int .i64 ra) v3 nx_v3 Tryz.underlying3 (by rfl) rfl rfl, ?_⟩
 simp only [Act.put, tA, tS, tZ]
 refine ⟨_, calx_call (fun u du => C1.out u) (by rfl) (fun u => by go_simp), ?_⟩
 simp only [Act.put, tA, tS, tZ]
 refine ⟨_, calx16 v5 (take16 hl) nx_v5 (by rfl) rfl, ?_⟩
 simp only [Act.put, tA, tS, tZ]
 refine ⟨_, calx_pure (by rfl) (fun u => by go_simp; rfl), ?_⟩
 simp only [Act.put, tA, tS, tZ]
 refine ⟨_, calxInt (v := .int .i64 rb) v3 nx_v3 Tryz.underlying3 (by rfl) rfl rfl, ?_⟩
 simp only [Act.put, tA, tS, tZ]
 refine ⟨_, calx_call (fun u du => C2.out u) (by rfl) (fun u => by go_simp), ?_⟩
 simp only [Act.put, tA, tS, tZ]
 refine ⟨_, calx16 v5 (take16 hl) nx_v5 (by rfl) rfl, ?_⟩
 simp only [Act.put, tA, tS, tZ]
 refine ⟨_, calx_pure (by rfl) (fun u => by go_simp; rfl), ?_⟩
 simp only [Act.put, tA, tS, tZ]
 refine ⟨_, calxInt (v := .int .i64 rd) v3 nx_v3 Tryz.underlying3 (by rfl) rfl rfl, ?_⟩
 simp only [Act.put, tA, tS, tZ]
 refine ⟨_, calx_call (fun u du => C3.out u) (by rfl) (fun u => by go_simp), ?_⟩
 simp only [Act.put, tA, tS, tZ]
 refine ⟨_, calx_build HB (by simp [Act.eval]) (by rfl), ?_⟩
 simp only [Act.put, tA, tS, tZ]
 exact rfl
 have e0 : Dx [] w' w'.drew := Dn.dx (Dn.drawn _)
 refine wpX_one 15 (by kernel_rfl) ?_
 refine x1_box (vs := (prg m op rd ra rb imm x y z)) rfl rfl e0 fun b_v24 y1 dy lo f_v24 => ?_
 have lo_v24 := Nat.le_trans e0.size lo
 have HL_v24 : Hid (W.heap.size ≤ b_v24) := Lib.hid (Nat.le_trans HD.out.size lo_v24)
 replace e0 := e0.trans (Dn.dx dy)
 clear dy lo
 simp only [Act.put, tA, tS, tZ]
 refine wpX_pick2 (by kernel_rfl) e0 [16] 0 rfl (by kernel_rfl) ?_
 simp only [pickL, List.drop_succ_cons, List.drop_zero, List.take_succ_cons, List.take_zero, List.cons_append, List.nil_append]
 refine ⟨?_, ?_, ?_⟩
 rotate_left 1
 refine ⟨_, calx_pure (by rfl) (fun u => by go_simp; rfl), ?_⟩
 simp only [Act.put, tA, tS, tZ]
 exact rfl
 refine wpX_end (by kernel_rfl) fun w' dx => NoPanic.normal ?_
 have D := e0.trans (Dn.dx dx)
 replace f_v24 := f_v24.dn dx
 clear e0 dx
 replace v2 := v2.dx D nx_v2
 replace v3 := v3.dx D nx_v3
 replace v5 := v5.dx D nx_v5
 replace HD := Lib.hid (HD.out.of_dx D hbl)
 clear D hbs hbl nx_v2 nx_v3 nx_v5
 have v24 := f_v24
 clear f_v24
 go_wp2_with fail
 go_ret
 exact ⟨b_v24, rfl, v24, HL_v24.out, HD.out⟩
def opsOf (b : Nat) : Array Value := #[.nilFunc, .func (.func 114) #[.pointer (some ⟨b, 0, none⟩)] #[], .func (.func 114) #[.pointer (some ⟨b, 0, none⟩)] #[], .func (.func 114) #[.pointer (some ⟨b, 0, none⟩)] #[], .func (.func 114) #[.pointer (some ⟨b, 0, none⟩)] #[], .func (.func 114) #[.pointer (some ⟨b, 0, none⟩)] #[], .func (.func 114) #[.pointer (some ⟨b, 0, none⟩)] #[], .func (.func 114) #[.pointer (some ⟨b, 0, none⟩)] #[], .func (.func 114) #[.pointer (some ⟨b, 0, none⟩)] #[], .func (.func 115) #[.pointer (some ⟨b, 0, none⟩)] #[], .func (.func 116) #[.pointer (some ⟨b, 0, none⟩)] #[], .func (.func 117) #[.pointer (some ⟨b, 0, none⟩)] #[], .func (.func 118) #[.pointer (some ⟨b, 0, none⟩)] #[], .func (.func 119) #[.pointer (some ⟨b, 0, none⟩)] #[], .func (.func 120) #[.pointer (some ⟨b, 0, none⟩)] #[], .func (.func 121) #[.pointer (some ⟨b, 0, none⟩)] #[], .func (.func 121) #[.pointer (some ⟨b, 0, none⟩)] #[], .func (.func 121) #[.pointer (some ⟨b, 0, none⟩)] #[], .func (.func 122) #[.pointer (some ⟨b, 0, none⟩)] #[], .func (.func 123) #[.pointer (some ⟨b, 0, none⟩)] #[], .func (.func 124) #[.pointer (some ⟨b, 0, none⟩)] #[], .nilFunc, .nilFunc, .nilFunc, .nilFunc, .nilFunc]
def opsNil : Array Value := #[.nilFunc, .nilFunc, .nilFunc, .nilFunc, .nilFunc, .nilFunc, .nilFunc, .nilFunc, .nilFunc, .nilFunc, .nilFunc, .nilFunc, .nilFunc, .nilFunc, .nilFunc, .nilFunc, .nilFunc, .nilFunc, .nilFunc, .nilFunc, .nilFunc, .nilFunc, .nilFunc, .nilFunc, .nilFunc, .nilFunc]
theorem zeroOps : (Tryz.prog.info? 114).map (fun i => (i.zero, i.size)) = some (some (.agg opsNil), opsNil.size) := by kernel_rfl
theorem infoOps {cs : Array Value} (h : cs.size = 26) : (Tryz.prog.info? 114).map (·.size) = some cs.size := by rw [h]; kernel_rfl
theorem opsOf_size (b : Nat) : (opsOf b).size = 26 := rfl
theorem opsNil_size : opsNil.size = 26 := rfl
theorem opsOf_one (b : Nat) : (opsOf b).all (·.oneCell') = true := by simp [opsOf, Value.oneCell']
set_option maxRecDepth 100000 in
set_option maxHeartbeats 2000000 in
theorem xOps (b_g : Nat) (W : World) :
   Calls Tryz.prog 92 #[.pointer (some ⟨b_g, 0, none⟩)] W fun e W' => e = .returned (.agg (opsOf b_g)) ∧ Dn W W' := by
 have HB : ∀ u, (Instr.build 114 #[(1, .func (.func 114) #[.pointer (some ⟨b_g, 0, none⟩)] #[]), (2, .func (.func 114) #[.pointer (some ⟨b_g, 0, none⟩)] #[]), (3, .func (.func 114) #[.pointer (some ⟨b_g, 0, none⟩)] #[]), (4, .func (.func 114) #[.pointer (some ⟨b_g, 0, none⟩)] #[]), (5, .func (.func 114) #[.pointer (some ⟨b_g, 0, none⟩)] #[]), (6, .func (.func 114) #[.pointer (some ⟨b_g, 0, none⟩)] #[]), (7, .func (.func 114) #[.pointer (some ⟨b_g, 0, none⟩)] #[]), (8, .func (.func 114) #[.pointer (some ⟨b_g, 0, none⟩)] #[]), (9, .func (.func 115) #[.pointer (some ⟨b_g, 0, none⟩)] #[]), (10, .func (.func 116) #[.pointer (some ⟨b_g, 0, none⟩)] #[]), (11, .func (.func 117) #[.pointer (some ⟨b_g, 0, none⟩)] #[]), (12, .func (.func 118) #[.pointer (some ⟨b_g, 0, none⟩)] #[]), (13, .func (.func 119) #[.pointer (some ⟨b_g, 0, none⟩)] #[]), (14, .func (.func 120) #[.pointer (some ⟨b_g, 0, none⟩)] #[]), (15, .func (.func 121) #[.pointer (some ⟨b_g, 0, none⟩)] #[]), (16, .func (.func 121) #[.pointer (some ⟨b_g, 0, none⟩)] #[]), (17, .func (.func 121) #[.pointer (some ⟨b_g, 0, none⟩)] #[]), (18, .func (.func 122) #[.pointer (some ⟨b_g, 0, none⟩)] #[]), (19, .func (.func 123) #[.pointer (some ⟨b_g, 0, none⟩)] #[]), (20, .func (.func 124) #[.pointer (some ⟨b_g, 0, none⟩)] #[])]).run Tryz.prog u = .ok (.agg (opsOf b_g)) u := fun u => run_build u _ _ _ (by kernel_rfl)
 have HD := Lib.hid (Dn.refl W)
 go_enter Tryz.func92, Tryz.ntmps92
 go_wp2_with (first | ((with_reducible refine wpList_alloc zeroOps ?_ ?_); rfl; intro b_v2 w' nn; refine Hid.out ?_))
 refine Lib.hid ?_
 have HL_v2 : Hid (W.heap.size ≤ b_v2) := Lib.hid (Blk.hi nn HD.out.size)
 have d' := nn.dn
 replace HD := hT HD d'
 have v2 := nn.blk
 clear d' nn
 go_wp2_with (first | ((with_reducible refine wpList_build HB ?_ ?_ ?_); rfl; (simp [Act.eval]; done)) | ((with_reducible refine wpList_store_whole (opsOf b_g) v2 (infoOps (opsOf_size b_g)) (opsNil_size.trans (opsOf_size b_g).symm) (opsOf_one b_g) ?_ ?_ ?_ ?_); rfl; rfl; rfl; intro w' r' t'; refine Hid.out ?_))
 refine Lib.hid ?_
 replace HD := Lib.hid (HD.out.trn HL_v2.out t')
 clear t' v2
 have v2 := r'
 clear r'
 go_wp2_with fail
 exact retB rfl rfl v2 Tryz.underlying114 rfl (infoOps (opsOf_size b_g)) ⟨rfl, HD.out⟩ rfl

theorem dn_of_below {w w' : World} (h : Below w.heap.size w w') : Dn w w' := ⟨h.os, h.tape, h.output, h.size, h.block⟩
theorem Dn.below {w w' : World} (h : Dn w w') : Below w.heap.size w w' := ⟨h.os, h.tape, h.output, h.size, h.block⟩
theorem Is.Tabs.dn {w w' : World} (h : Is.Tabs w) (d : Dn w w') : Is.Tabs w' := h.upb d.below
theorem xValid (op rd ra rb imm : Int) (b : Bool) (i0 : -2147483648 ≤ imm) (i1 : imm < 2147483648) (hb : Is.M.ok op rd ra rb imm = b) (W : World) (T : Is.Tabs W) : Calls Tryz.prog 90 #[.agg (ins op rd ra rb imm)] W fun e W' => e = .returned (.bool b) ∧ Dn W W' :=
 (Is.valid op rd ra rb imm W T i0 i1).mono fun e w h => ⟨by rw [h.1, hb], dn_of_below h.2.below⟩
theorem xPriv (op : Int) (b : Bool) (hb : Is.M.priv op = b) (W : World) : Calls Tryz.prog 67 #[.int .i64 op] W fun e W' => e = .returned (.bool b) ∧ Dn W W' :=
 (Is.isPrivileged op W).mono fun e w h => ⟨by rw [h.1, hb], h.2 ▸ Dn.refl _⟩
set_option maxRecDepth 100000 in
set_option maxHeartbeats 2000000 in
theorem exBy (m : Mc) (op rd ra rb imm : Int) (W : World) (hm : m.Ok W) (T : Is.Tabs W) (i0 : -2147483648 ≤ imm) (i1 : imm < 2147483648) (hv : Is.M.ok op rd ra rb imm = true) (hp : Is.M.priv op = false) (F : FuncId) (HF : ∀ (b : Nat) (u : World), (callFunc F #[.pointer (some ⟨b, 0, none⟩)]).run Tryz.prog u = .ok (.enter F #[.pointer (some ⟨b, 0, none⟩)]) u) (r : M.Res) (HI : ∀ (b : Nat) (u : World), (Instr.index 114 (.agg (opsOf b)) (.int .i64 op)).run Tryz.prog u = .ok (.func (.func F) #[.pointer (some ⟨b, 0, none⟩)] #[]) u)
   (HC : ∀ (w : World) (b : Nat), Blk w b 127 (prg m op rd ra rb imm (M.reg m.c ra) (M.reg m.c rb) (M.reg m.c rd)) → m.Ok w → Calls Tryz.prog F #[.pointer (some ⟨b, 0, none⟩)] w fun e W' => ExRet w m r e W') :
   Calls Tryz.prog 69 #[.agg (mach m), .agg (ins op rd ra rb imm)] W fun e W' => ExRet W m r e W' := by
 have hl := hm.len
 have C1 := Lib.hid (xValid op rd ra rb imm true i0 i1 hv)
 have C2 := Lib.hid (xPriv op false hp)
 have C3 := Lib.hid fun w => fun (ow : m.Ok w) => xBegin m op rd ra rb imm _ _ _ w ow rfl rfl rfl
 have C4 := Lib.hid fun w b => xOps b w
 have C5 := Lib.hid HC
 have HJ := Lib.hid HI
 clear hv hp HC HI
 generalize M.reg m.c ra = x, M.reg m.c rb = y, M.reg m.c rd = z at C3 C5
 have HD := Lib.hid (Dn.refl W)
 go_enter Tryz.func69, Tryz.ntmps69
 go_wp2_with (first | ((with_reducible refine wpList_box (vs := (mach m)) ?_ ?_ ?_); rfl; rfl; intro b_v2 w' nn; refine Hid.out ?_))
 refine Lib.hid ?_
 have d' := nn.dn
 replace HD := hT HD d'
 have v2 := nn.blk
 clear d' nn
 go_wp2_with (first | ((with_reducible refine wpList_box (vs := (ins op rd ra rb imm)) ?_ ?_ ?_); rfl; rfl; intro b_v3 w' nn; refine Hid.out ?_))
 refine Lib.hid ?_
 have d' := nn.dn
 replace v2 := v2.dn d'
 replace HD := hT HD d'
 have v3 := nn.blk
 clear d' nn
 go_wp2_with (first | ((with_reducible refine wpList_alloc zeroMach ?_ ?_); rfl; intro b_v4 w' nn; refine Hid.out ?_))
 refine Lib.hid ?_
 have n_v2_v4 := Lib.hid (nn.ne _ v2.lt)
 have n_v3_v4 := Lib.hid (nn.ne _ v3.lt)
 have HL_v4 : Hid (W.heap.size ≤ b_v4) := Lib.hid (Blk.hi nn HD.out.size)
 have d' := nn.dn
 replace v2 := v2.dn d'
 replace v3 := v3.dn d'
 replace HD := hT HD d'
 have v4 := nn.blk
 clear d' nn
 go_wp2_with (first | ((with_reducible refine wpList_alloc zeroTrap ?_ ?_); rfl; intro b_v5 w' nn; refine Hid.out ?_))
 refine Lib.hid ?_
 have n_v2_v5 := Lib.hid (nn.ne _ v2.lt)
 have n_v3_v5 := Lib.hid (nn.ne _ v3.lt)
 have n_v4_v5 := Lib.hid (nn.ne _ v4.lt)
 have HL_v5 : Hid (W.heap.size ≤ b_v5) := Lib.hid (Blk.hi nn HD.out.size)
 have d' := nn.dn
 replace v2 := v2.dn d'
 replace v3 := v3.dn d'
 replace v4 := v4.dn d'
 replace HD := hT HD d'
 have v5 := nn.blk
 clear d' nn
 go_wp2_with (first | ((with_reducible refine loadI v3 ?_ ?_ ?_); rfl; rfl) | (go_at_call 90; (with_reducible refine (C1.out _ (T.dn HD.out)).mono ?_); rintro e w' ⟨rfl, d'⟩; refine Hid.out ?_))
 refine Lib.hid ?_
 replace v2 := v2.dn d'
 replace v3 := v3.dn d'
 replace v4 := v4.dn d'
 replace v5 := v5.dn d'
 replace HD := hT HD d'
 clear d'
 have ck0 := v3.iop
 go_wp2_with (first | (go_at_call 67; (with_reducible refine (C2.out _).mono ?_); rintro e w' ⟨rfl, d'⟩; refine Hid.out ?_))
 refine Lib.hid ?_
 clear ck0
 replace v2 := v2.dn d'
 replace v3 := v3.dn d'
 replace v4 := v4.dn d'
 replace v5 := v5.dn d'
 replace HD := hT HD d'
 clear d'
 go_wp2_with fail
 have nx_v2 : b_v2 ∉ [b_v4, b_v5] := (by simp only [List.mem_cons, List.not_mem_nil, or_false, not_or]; exact ⟨n_v2_v4.out, n_v2_v5.out⟩)
 have nx_v3 : b_v3 ∉ [b_v4, b_v5] := (by simp only [List.mem_cons, List.not_mem_nil, or_false, not_or]; exact ⟨n_v3_v4.out, n_v3_v5.out⟩)
 have hbs : ∀ b ∈ [b_v4, b_v5], ∃ t cs, Blk w' b t cs ∧ NoU8 cs := by
   intro b hb
   simp only [List.mem_cons, List.not_mem_nil, or_false] at hb
   rcases hb with rfl | rfl
   · exact ⟨_, _, v4, (NoU8.mach _)⟩
   · exact ⟨_, _, v5, (NoU8.trap _ _)⟩
 have hbl : ∀ b ∈ [b_v4, b_v5], W.heap.size ≤ b := by
   intro b hb
   simp only [List.mem_cons, List.not_mem_nil, or_false] at hb
   rcases hb with rfl | rfl
   · exact HL_v4.out
   · exact HL_v5.out
 refine wp_region_picks [b_v4, b_v5] [0, 1, 4, 5] 8 (by kernel_rfl) (by kernel_rfl) rfl (by kernel_rfl) ?_
 simp only [pickL, List.drop_succ_cons, List.drop_zero, List.take_succ_cons, List.take_zero, List.cons_append, List.nil_append]
 refine ⟨?_, ?_, ?_⟩
 rotate_left 1
 refine ⟨_, calx33 v2 hl nx_v2 (by rfl) rfl, ?_⟩
 simp only [Act.put, tA, tS, tZ]
 refine ⟨_, calxI v3 nx_v3 (by rfl) rfl, ?_⟩
 simp only [Act.put, tA, tS, tZ]
 refine ⟨_, calx_pure (by rfl) (fun u => by go_simp; rfl), ?_⟩
 simp only [Act.put, tA, tS, tZ]
 refine ⟨_, calxInt (v := .int .i64 op) v3 nx_v3 Tryz.underlying3 (by rfl) rfl rfl, ?_⟩
 simp only [Act.put, tA, tS, tZ]
 exact rfl
 have e0 : Dx [b_v4, b_v5] w' w'.drew := Dn.dx (Dn.drawn _)
 have f_v4 := v4.dn (Dn.drawn w')
 have f_v5 := v5.dn (Dn.drawn w')
 refine wpX_one 2 (by kernel_rfl) ?_
 refine x1_call rfl (by rfl) (fun u => by go_simp) e0 fun x0 dx ex => (C3.out x0 (hm.dn (HD.out.of_dx ex hbl))).mono ?_
 rintro e y0 ⟨b_g, rfl, f_g, lo, d'⟩
 refine ⟨d', _, rfl, ?_⟩
 replace e0 := ex.trans (Dn.dx d')
 have n_v4_g := Lib.hid (Nat.ne_of_lt (Nat.lt_of_lt_of_le v4.lt (Nat.le_trans ex.size lo)))
 have n_v5_g := Lib.hid (Nat.ne_of_lt (Nat.lt_of_lt_of_le v5.lt (Nat.le_trans ex.size lo)))
 have lo_g := Nat.le_trans ex.size lo
 clear lo
 replace f_v4 := (f_v4.dn dx).dn d'
 replace f_v5 := (f_v5.dn dx).dn d'
 clear dx ex d'
 simp only [Act.put, tA, tS, tZ]
 refine wpX_pick2 (by kernel_rfl) e0 [3, 6] 5 rfl (by kernel_rfl) ?_
 simp only [pickL, List.drop_succ_cons, List.drop_zero, List.take_succ_cons, List.take_zero, List.cons_append, List.nil_append]
 refine ⟨?_, ?_, ?_⟩
 rotate_left 1
 refine ⟨_, calx_call (fun u du => C4.out u b_g) (by rfl) (fun u => by go_simp), ?_⟩
 simp only [Act.put, tA, tS, tZ]
 refine ⟨_, calx_index (HJ.out b_g) rfl rfl (by rfl), ?_⟩
 simp only [Act.put, tA, tS, tZ]
 exact rfl
 refine wpX_one 7 (by kernel_rfl) ?_
 refine x1_call rfl (by rfl) (fun u => by go_simp) e0 fun x0 dx ex => (C5.out x0 b_g ((f_g.dn dx)) (hm.dn (HD.out.of_dx ex hbl))).mono ?_
 rintro e y0 ⟨m1, rfl, om1, up, d'⟩
 refine ⟨d', _, rfl, ?_⟩
 replace e0 := ex.trans (Dn.dx d')
 replace f_v4 := (f_v4.dn dx).dn d'
 replace f_v5 := (f_v5.dn dx).dn d'
 replace f_g := (f_g.dn dx).dn d'
 have hl1 := om1.out.len
 have oo := Lib.hid om1.out
 clear dx ex d'
 simp only [Act.put, tA, tS, tZ]
 refine wpX_pick2 (by kernel_rfl) e0 [8, 9] 2 rfl (by kernel_rfl) ?_
 simp only [pickL, List.drop_succ_cons, List.drop_zero, List.take_succ_cons, List.take_zero, List.cons_append, List.nil_append]
 refine ⟨?_, ?_, ?_⟩
 rotate_left 1
 refine ⟨_, calx_pure (by rfl) (fun u => by go_simp; rfl), ?_⟩
 simp only [Act.put, tA, tS, tZ]
 refine ⟨_, calx_pure (by rfl) (fun u => by go_simp; rfl), ?_⟩
 simp only [Act.put, tA, tS, tZ]
 exact rfl
 refine wpX_one 10 (by kernel_rfl) ?_
 refine x1_store 0 (vs := (mach m1)) rfl f_v4 (.inl (by simp)) (info_mach hl1) (by rw [mach_size hl1, mach_size zlen]; omega) (mach_one _) rfl rfl e0 fun u1 y1 du1 t1 e1 g1 => ?_
 rw [lay_all (mach Mc.zero) (mach m1) (by rw [mach_size hl1, mach_size zlen])] at g1
 replace f_v5 := (f_v5.dn du1).trn t1 n_v4_v5.out.symm
 replace f_g := (f_g.dn du1).trn t1 n_v4_g.out.symm
 replace oo := Lib.hid ((oo.out.dn du1).trn (f_v4.dn du1) (NoU8.mach _) t1)
 clear f_v4 e0
 have f_v4 := g1
 have e0 := e1
 clear g1 t1 du1 e1
 refine wpX_one 11 (by kernel_rfl) ?_
 refine x1_store 0 (vs := #[.int .i64 r.k, .int .u32 r.v]) rfl f_v5 (.inl (by simp)) infoTrap (by simp) (by simp [Value.oneCell']) rfl rfl e0 fun u1 y1 du1 t1 e1 g1 => ?_
 rw [lay_all #[.int .i64 0, .int .u32 0] #[.int .i64 r.k, .int .u32 r.v] rfl] at g1
 replace f_v4 := (f_v4.dn du1).trn t1 n_v4_v5.out
 replace f_g := (f_g.dn du1).trn t1 n_v5_g.out.symm
 replace oo := Lib.hid ((oo.out.dn du1).trn (f_v5.dn du1) (NoU8.trap _ _) t1)
 clear f_v5 e0
 have f_v5 := g1
 have e0 := e1
 clear g1 t1 du1 e1
 refine wpX_end (by kernel_rfl) fun w' dx => NoPanic.normal ?_
 have D := e0.trans (Dn.dx dx)
 replace f_v4 := f_v4.dn dx
 replace f_v5 := f_v5.dn dx
 replace f_g := f_g.dn dx
 replace oo := Lib.hid (oo.out.dn dx)
 clear e0 dx
 replace v2 := v2.dx D nx_v2
 replace v3 := v3.dx D nx_v3
 replace HD := Lib.hid (HD.out.of_dx D hbl)
 clear v4 v5 D hbs hbl nx_v2 nx_v3
 have v4 := f_v4
 clear f_v4
 have v5 := f_v5
 clear f_v5
 have g := f_g
 clear f_g
 go_wp2_with fail
 exact retMT rfl rfl rfl v4 hl1 v5 ⟨m1, rfl, oo, up, HD.out⟩ rfl
end Go.Proofs.YtclpdjpaaagkdaaGreatDoor
namespace Go.Proofs.YtclpdjpaaagkdaaGreatDoor
open Go.ChangeShapes Go.WideShapes Go.ChangeAt Go.RowKit
set_option linter.unusedVariables false

theorem cellsU32 : Tryz.prog.cellsOf 22 = 1 := by kernel_rfl
theorem cells16 : Tryz.prog.cellsOf 23 = 16 := by kernel_rfl

def Wd (v : Value) : Prop := ∃ z : Int, v = .int .u32 z ∧ 0 ≤ z ∧ z < 4294967296
theorem words_of {l : List Value} (h : ∀ v ∈ l, Wd v) : ∃ c : List Int, l = (ints .u32 c).toList ∧ c.length = l.length ∧ ∀ x ∈ c, 0 ≤ x ∧ x < 4294967296 := by
 induction l with
 | nil => exact ⟨[], rfl, rfl, fun x hx => by cases hx⟩
 | cons v l ih =>
   obtain ⟨c, e, hl, hc⟩ := ih fun v hv => h v (List.mem_cons_of_mem _ hv)
   obtain ⟨z, rfl, hz⟩ := h v List.mem_cons_self
   refine ⟨z :: c, by rw [e]; simp [ints], by simp [hl], fun x hx => ?_⟩
   rcases List.mem_cons.1 hx with rfl | hx
   · exact hz
   · exact hc x hx

section
variable {H : Type} {enc : TypeId × Value → H} {w : World} {base : Nat} {spare : Nat → Bool} {held : Bool}

theorem word_cell {m : Nat} {cs : List Value} {x : DataW H × List MemPlace} (h : DataW.trod enc Tryz.prog w base spare held m 22 cs = some x) : ∃ z : Int, cs = [.int .u32 z] ∧ 0 ≤ z ∧ z < 4294967296 := by
 obtain ⟨q, e1, e2, e3⟩ := DataW.trod_int Tryz.underlying22 h
 have hb := bounds_u32 e3
 exact ⟨q, e1, by omega, by omega⟩
theorem words_array {m n : Nat} {t : TypeId} {cs : List Value} {x : DataW H × List MemPlace} (hu : Tryz.prog.underlying t = some (.array n 22)) (hn : Tryz.prog.cellsOf t = n) (h : DataW.trod enc Tryz.prog w base spare held m t cs = some x) : ∀ v ∈ cs, Wd v := by
 obtain ⟨xs, m0, _, hx, hl, hxn, hel⟩ := DataW.trod_array hu h
 intro v hv
 obtain ⟨i, hi, rfl⟩ := List.getElem_of_mem hv
 have hin : i < n := by omega
 have h1 := hel i hin
 rw [cellsU32, Nat.mul_one, List.getElem?_eq_getElem (by omega)] at h1
 obtain ⟨z, e, hz⟩ := word_cell h1
 refine ⟨z, ?_, hz⟩
 have h2 : cs[i]? = ((cs.drop i).take 1)[0]? := by simp [List.getElem?_drop]
 rw [e, List.getElem?_eq_getElem hi] at h2
 exact Option.some.inj h2

end
end Go.Proofs.YtclpdjpaaagkdaaGreatDoor
namespace Go.Proofs.YtclpdjpaaagkdaaGreatDoor
open Go.ChangeShapes Go.WideShapes Go.ChangeAt Go.RowKit
set_option linter.unusedVariables false

theorem cellsCore : Tryz.prog.cellsOf 26 = 29 := by kernel_rfl
theorem cells12 : Tryz.prog.cellsOf 24 = 12 := by kernel_rfl
section
variable {H : Type} {enc : TypeId × Value → H} {w : World} {base : Nat} {spare : Nat → Bool} {held : Bool}

set_option maxRecDepth 100000 in
set_option maxRecDepth 100000 in
theorem core_cells {m : Nat} {cs : List Value} {x : DataW H × List MemPlace} (h : DataW.trod enc Tryz.prog w base spare held m 26 cs = some x) : ∃ c : List Int, cs = (ints .u32 c).toList ∧ M.Core c := by
 obtain ⟨xs, n, _, hx, hl, hlen, hg⟩ := DataW.trod_struct Tryz.underlying26 h
 rw [cellsCore] at hl
 have g0 : DataW.trod enc Tryz.prog w base spare held n 23 ((cs.drop 0).take (Tryz.prog.cellsOf 23)) = xs[0]? := hg 0 _ rfl
 have g1 : DataW.trod enc Tryz.prog w base spare held n 22 ((cs.drop 16).take (Tryz.prog.cellsOf 22)) = xs[1]? := hg 1 _ rfl
 have g2 : DataW.trod enc Tryz.prog w base spare held n 24 ((cs.drop 17).take (Tryz.prog.cellsOf 24)) = xs[2]? := hg 2 _ rfl
 have hlen : xs.length = 3 := hlen
 rw [List.getElem?_eq_getElem (by omega)] at g0 g1 g2
 rw [cells16] at g0
 rw [cellsU32] at g1
 rw [cells12] at g2
 have k0 := words_array Tryz.underlying23 cells16 g0
 have k2 := words_array Tryz.underlying24 cells12 g2
 obtain ⟨z, k1, hz⟩ := word_cell g1
 have hall : ∀ v ∈ cs, Wd v := by
   intro v hv
   have e : cs = (cs.drop 0).take 16 ++ ((cs.drop 16).take 1 ++ (cs.drop 17).take 12) := by
     have e1 : (cs.drop 17).take 12 = cs.drop 17 := List.take_of_length_le (by simp; omega)
     have e2 : (cs.drop 16).take 1 ++ cs.drop 17 = cs.drop 16 := by
       have := List.take_append_drop 1 (cs.drop 16)
       rwa [List.drop_drop] at this
     rw [e1, e2]
     simp
   rw [e] at hv
   rcases List.mem_append.1 hv with hv | hv
   · exact k0 v hv
   · rcases List.mem_append.1 hv with hv | hv
     · rw [k1] at hv
       simp at hv
       exact ⟨z, hv, hz⟩
     · exact k2 v hv
 obtain ⟨c, e, hcl, hc⟩ := words_of hall
 exact ⟨c, e, M.core_of (by omega) hc⟩

end
end Go.Proofs.YtclpdjpaaagkdaaGreatDoor
namespace Go.Proofs.YtclpdjpaaagkdaaGreatDoor
open Go.ChangeShapes Go.WideShapes Go.ChangeAt Go.RowKit Go.Sort
open Go.Proofs.YtclpdjpaaagkdaaGreatDoor.M (By)
set_option linter.unusedVariables false

theorem open_row {w : World} {a : Option Addr} {len cap : Nat} {zs : List Int} (h : (a = none ∧ len = 0 ∧ cap = 0 ∧ zs = []) ∨
 ∃ x, a = some x ∧ len ≤ cap ∧ cap ≤ maxLen ∧ zs.length = cap ∧ (∀ i, i < zs.length → w.cell? (x.add i) = some (.int .u8 (zs.getD i 0))) ∧ ∀ n ∈ zs, (Lit.int .u8 n).wf = true) :
   ∃ xs : List Int, len = xs.length ∧ Hid (Bs w a cap xs) ∧ xs.length ≤ 9223372036854775807 := by
 rcases h with ⟨rfl, rfl, rfl, rfl⟩ | ⟨x, rfl, hlc, hcm, hz, hc, hw⟩
 · exact ⟨[], rfl, Lib.hid ⟨Nat.le_refl _, fun x hx => absurd hx (by simp), fun hx => absurd rfl hx⟩, by simp⟩
 · have hl : (zs.take len).length = len := by simp; omega
   refine ⟨zs.take len, hl.symm, Lib.hid ⟨by omega, fun y hy => ?_, fun hx => ⟨x, rfl, ?_, fun j y hj => ?_⟩⟩, by unfold maxLen at hcm; omega⟩
   · have := hw y (List.mem_of_mem_take hy)
     have e1 : IntKind.u8.min = 0 := rfl
     have e2 : IntKind.u8.max = 255 := rfl
     simp [Lit.wf] at this
     omega
   · have h0 : 0 < zs.length := by
       rcases Nat.eq_zero_or_pos zs.length with h0 | h0
       · have : zs = [] := List.length_eq_zero_iff.1 h0
         subst this
         simp at hx
       · exact h0
     have := lt_of_cell (hc 0 h0)
     rwa [block_add] at this
   · have hjl := (List.getElem?_eq_some_iff.1 hj).1
     rw [List.getElem?_take, if_pos (by omega)] at hj
     have hj2 := (List.getElem?_eq_some_iff.1 hj).1
     rw [hc j hj2]
     rw [M.getD_at hj2] at hj
     cases hj
     rfl
theorem rload_at {A : Option Addr} {c len : Nat} {xs : List Int} {W : World} (a n : Nat) {a' n' v : Int} {b : Bool} (hx : Bs W A c xs) (hl : xs.length ≤ 100000) (ha : a < 4294967296) (hn : 1 ≤ n) (hn4 : n ≤ 4)
   (e1 : len = xs.length) (e2 : a' = (a : Int)) (e3 : n' = (n : Int)) (e4 : M.ld xs a n = v) (e5 : decide (a + n ≤ xs.length) = b) :
   Calls Tryz.prog 71 #[.slice A len c, .int .u32 a', .int .i64 n'] W fun e W' => e = .returned (.tuple #[.int .u32 v, .bool b]) ∧ W = W' := by
 subst e1 e2 e3 e4 e5
 exact rload A c xs a n W hx hl ha hn hn4
theorem rstore_at {A : Option Addr} {c len : Nat} {xs ys : List Int} {W : World} (a n : Nat) {a' n' v : Int} {b : Bool} (hx : Bs W A c xs) (hl : xs.length ≤ 100000) (ha : a < 4294967296) (hn : 1 ≤ n) (hn4 : n ≤ 4) (hv0 : 0 ≤ v) (hv : v < 4294967296)
   (e1 : len = xs.length) (e2 : a' = (a : Int)) (e3 : n' = (n : Int)) (e4 : M.st xs a n v = ys) (e5 : decide (a + n ≤ xs.length) = b) :
   Calls Tryz.prog 78 #[.slice A len c, .int .u32 a', .int .i64 n', .int .u32 v] W fun e W' => ∃ A' c', e = .returned (.tuple #[.slice A' len c', .bool b]) ∧ Hid (Bs W' A' c' ys) ∧ Hid (Dn W W') := by
 subst e1 e2 e3 e4 e5
 exact rstore A c xs a n v W hx hl ha hn hn4 hv0 hv
end Go.Proofs.YtclpdjpaaagkdaaGreatDoor
namespace Go.Proofs.YtclpdjpaaagkdaaGreatDoor
open Go.ChangeShapes Go.WideShapes Go.ChangeAt Go.RowKit
set_option linter.unusedVariables false

theorem cells33 : Tryz.prog.cellsOf 30 = 33 := by kernel_rfl
theorem cellsSl : Tryz.prog.cellsOf 27 = 1 := by kernel_rfl
theorem cellsU64 : Tryz.prog.cellsOf 28 = 1 := by kernel_rfl
theorem cellsBool : Tryz.prog.cellsOf 4 = 1 := by kernel_rfl

section
variable {H : Type} {enc : TypeId × Value → H} {w : World} {base : Nat} {held : Bool}
theorem bytes_cell {m : Nat} {cs : List Value} {x : DataW H × List MemPlace} (h : DataW.trod enc Tryz.prog w base (fun _ => true) held m 27 cs = some x) :
   ∃ (A : Option Addr) (k : Nat) (xs : List Int), cs = [.slice A xs.length k] ∧ Bs w A k xs ∧ xs.length ≤ 9223372036854775807 := by
 rcases open_ints Tryz.underlying27 Tryz.underlying5 (by kernel_rfl) h with ⟨hcs, _⟩ | ⟨a, l, c, zs, hcs, _, hl, hm, hz, _, hcell, hwz⟩
 · exact ⟨none, 0, [], hcs, bs_nil w, by simp⟩
 · obtain ⟨xs, e, hx, hxl⟩ := Go.Proofs.YtclpdjpaaagkdaaGreatDoor.open_row (w := w) (a := some a) (len := l) (cap := c) (zs := zs) (.inr ⟨a, rfl, hl, hm, by simpa using hz, hcell, hwz⟩)
   exact ⟨some a, c, xs, by rw [hcs, e], hx.out, hxl⟩
set_option maxRecDepth 100000 in
theorem open33 {b0 : Nat} {v : Value} {d : DataW H} {p : List MemPlace} (hv : Value.okWide Tryz.prog w .any b0 30 v) (h : DataW.Trod enc Tryz.prog w base (fun _ => true) held 30 v d p) :
   ∃ m : Mc, v = .agg (mach m) ∧ m.Ok w ∧ m.xs.length ≤ 9223372036854775807 ∧ m.ys.length ≤ 9223372036854775807 := by
 obtain ⟨cs, rfl, hsz⟩ := okWide_struct Tryz.underlying30 hv
 obtain ⟨fuel, hf⟩ := h
 obtain ⟨xs, n, _, hx, hl, hlen, hg⟩ := DataW.trod_struct Tryz.underlying30 hf
 simp only [Value.cells] at hl hg
 rw [cells33] at hl
 have g0 : DataW.trod enc Tryz.prog w base (fun _ => true) held n 26 ((cs.toList.drop 0).take (Tryz.prog.cellsOf 26)) = xs[0]? := hg 0 _ rfl
 have g1 : DataW.trod enc Tryz.prog w base (fun _ => true) held n 27 ((cs.toList.drop 29).take (Tryz.prog.cellsOf 27)) = xs[1]? := hg 1 _ rfl
 have g2 : DataW.trod enc Tryz.prog w base (fun _ => true) held n 28 ((cs.toList.drop 30).take (Tryz.prog.cellsOf 28)) = xs[2]? := hg 2 _ rfl
 have g3 : DataW.trod enc Tryz.prog w base (fun _ => true) held n 27 ((cs.toList.drop 31).take (Tryz.prog.cellsOf 27)) = xs[3]? := hg 3 _ rfl
 have g4 : DataW.trod enc Tryz.prog w base (fun _ => true) held n 4 ((cs.toList.drop 32).take (Tryz.prog.cellsOf 4)) = xs[4]? := hg 4 _ rfl
 have hlen : xs.length = 5 := hlen
 rw [List.getElem?_eq_getElem (by omega)] at g0 g1 g2 g3 g4
 rw [cellsCore] at g0
 rw [cellsSl] at g1 g3
 rw [cellsU64] at g2
 rw [cellsBool] at g4
 obtain ⟨c, k0, hc⟩ := core_cells g0
 obtain ⟨A, k, ms, k1, hA, lA⟩ := bytes_cell g1
 obtain ⟨t, k2, _, ht⟩ := DataW.trod_int Tryz.underlying28 g2
 obtain ⟨B, q, os, k3, hB, lB⟩ := bytes_cell g3
 obtain ⟨hh, k4, _⟩ := DataW.trod_bool Tryz.underlying4 g4
 have bt := bounds_u64 ht
 refine ⟨⟨c, A, k, ms, t, B, q, os, hh⟩, ?_, ⟨hc, hA, hB, (show 0 ≤ t by omega), (show t < 18446744073709551616 by omega)⟩, lA, lB⟩
 congr 1
 apply Array.toList_inj.1
 have cut : ∀ i, (cs.toList.drop i).take 1 ++ cs.toList.drop (i + 1) = cs.toList.drop i := fun i => by
   have := List.take_append_drop 1 (cs.toList.drop i)
   rwa [List.drop_drop] at this
 have e32 : cs.toList.drop 33 = [] := List.drop_of_length_le (by omega)
 have e : cs.toList = cs.toList.take 29 ++ ((cs.toList.drop 29).take 1 ++ ((cs.toList.drop 30).take 1 ++ ((cs.toList.drop 31).take 1 ++ ((cs.toList.drop 32).take 1 ++ cs.toList.drop 33)))) := by
   rw [cut 32, cut 31, cut 30, cut 29, List.take_append_drop]
 rw [List.drop_zero] at k0
 rw [e, k0, k1, k2, k3, k4, e32]
 simp [mach]
end
end Go.Proofs.YtclpdjpaaagkdaaGreatDoor
