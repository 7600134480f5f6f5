/-
  The law ExecInstructionsIgnoreTime of the law package returns true at every input, and each argument reads as it did; conditions: the listed package variables hold what the program's text lays there (the card ties them to it).
-/
import Derived.Test.YtpdahbcjecphmaaDoorCards
import Derived.Test.YtpdahbcjecphmaaDoorTie
import Derived.Test.YtpdahbcjecphmaaDoorPkB
import Derived.Test.YtpdahbcjecphmaaDoorPkZ
import Derived.Test.YtpdahbcjecphmaaDoorPkF
namespace Go.Proofs.YtpdahbcjecphmaaDoor.M
open Go.RowKit
set_option linter.unusedVariables false

/-- a load of the cell that was stored -/
theorem alv_asv {c xs : List Int} {a n v : Int} (hc : Core c) (h : acz c xs.length a n = 0) (a0 : 0 ≤ a) (n0 : 1 ≤ n) (v0 : 0 ≤ v) : alv c (asv c xs a n v) a n = v % 256 ^ n.toNat := by
  have hk := acz_hit h
  have hu := ub_rng hc
  unfold alv
  rw [asv_len, if_pos h]
  unfold asv
  rw [if_pos h]
  generalize hp : (ub c + a).toNat = p
  have hpn : p + n.toNat ≤ xs.length := by omega
  unfold st
  rw [if_pos hpn]
  unfold ld
  rw [wr_len (by rw [bytes_len]; exact hpn), if_pos hpn]
  have e := rd_wr (xs := xs) (bs := bytes v n.toNat) (a := p) (by omega)
  rw [bytes_len] at e
  rw [e, leval_bytes v0]
/-- a load of a word that was not -/
theorem alv_other {c xs : List Int} {a b n v : Int} (hc : Core c) (h : acz c xs.length a n = 0) (a0 : 0 ≤ a) (b0 : 0 ≤ b) (hn : n = 4 ∨ n = 1) (hb : b % 4 = 0) (hab : a / 4 ≠ b / 4) : alv c (asv c xs a n v) b 4 = alv c xs b 4 := by
  have hk := acz_hit h
  have hu := ub_rng hc
  unfold alv
  rw [asv_len]
  split
  · rename_i hB
    have hkb := acz_hit hB
    unfold asv
    rw [if_pos h]
    generalize hp : (ub c + a).toNat = p
    generalize hq : (ub c + b).toNat = q
    have hpn : p + n.toNat ≤ xs.length := by omega
    have hqn : q + (4 : Int).toNat ≤ xs.length := by omega
    unfold st
    rw [if_pos hpn]
    unfold ld
    rw [wr_len (by rw [bytes_len]; exact hpn), if_pos hqn, if_pos hqn]
    congr 1
    by_cases hlt : q < p
    · exact rd_wr_before (by omega) (by omega)
    · exact rd_wr_after (by omega) (by rw [bytes_len]; omega)
  · rfl

theorem csr_adv (c : List Int) (d : Int) (i : Nat) : csr (adv c d) i = csr c i := by
  unfold csr adv
  rw [getD_set, if_neg (by omega)]
theorem csr_setreg (c : List Int) (r v : Int) (i : Nat) : csr (setreg c r v) i = csr c i := by
  unfold csr setreg
  split
  · rename_i h
    have := (stored_iff r).1 h
    rw [getD_set, if_neg (by omega)]
  · rfl
theorem ub_adv (c : List Int) (d : Int) : ub (adv c d) = ub c := by unfold ub sup; rw [csr_adv, csr_adv]
theorem un_adv (c : List Int) (d s : Int) : un (adv c d) s = un c s := by unfold un sup; rw [csr_adv, csr_adv]
theorem acz_adv (c : List Int) (d s a n : Int) : acz (adv c d) s a n = acz c s a n := by unfold acz; rw [ub_adv, un_adv]
theorem alv_adv (c xs : List Int) (d a n : Int) : alv (adv c d) xs a n = alv c xs a n := by unfold alv; rw [acz_adv, ub_adv]
theorem reg_adv (c : List Int) (d i : Int) : reg (adv c d) i = reg c i := by
  unfold reg adv
  split
  · rename_i h
    have := (stored_iff i).1 h
    rw [getD_set, if_neg (by omega)]
  · rfl
theorem reg_zero (c : List Int) : reg c 0 = 0 := rfl
theorem ea_zero (c : List Int) {x : Int} (h0 : 0 ≤ x) (h1 : x < 4294967296) : ea c 0 x = x := by unfold ea iw; rw [reg_zero]; omega
theorem setreg_at {c : List Int} (h : c.length = 29) {r : Int} (r0 : 0 < r) (r1 : r < 16) (v : Int) : (setreg c r v).getD r.toNat 0 = v := by
  unfold setreg
  rw [if_pos ((stored_iff r).2 ⟨r0, r1⟩), getD_set, if_pos ⟨rfl, by omega⟩]
theorem reg_setreg {c : List Int} (h : c.length = 29) {r : Int} (r0 : 0 < r) (r1 : r < 16) (v : Int) : reg (setreg c r v) r = v := by
  rw [reg_in ((stored_iff r).2 ⟨r0, r1⟩), setreg_at h r0 r1]
theorem adv_reg (c : List Int) (d : Int) {i : Nat} (hi : i ≠ 16) : (adv c d).getD i 0 = c.getD i 0 := by unfold adv; rw [getD_set, if_neg (by omega)]
/-- in supervisor mode an address is its own place -/
theorem acz_sup {c : List Int} (h : csr c 0 = 1) (s a n : Int) : acz c s a n = 0 ↔ ¬ (n = 4 ∧ a % 4 ≠ 0) ∧ a + n ≤ s := by
  have hs : sup c = true := by unfold sup; rw [h]; rfl
  have h1 : ub c = 0 := by unfold ub; rw [if_pos hs]
  have h2 : un c s = s := by unfold un; rw [if_pos hs]
  rw [acz_iff, h1, h2]
  omega
end Go.Proofs.YtpdahbcjecphmaaDoor.M
namespace Go.Proofs.YtpdahbcjecphmaaDoor.M
open Go.RowKit
set_option linter.unusedVariables false

/-- the same processor, but for the program counter, which stands 16 further -/
structure Sh (c d : List Int) : Prop where
  lc : c.length = 29
  ld : d.length = 29
  eq : ∀ i : Nat, i ≠ 16 → d.getD i 0 = c.getD i 0
  pc : d.getD 16 0 = (c.getD 16 0 + 16) % 4294967296
theorem Sh.mk' {c : List Int} (h : c.length = 29) : Sh c (c.set 16 ((c.getD 16 0 + 16) % 4294967296)) :=
  ⟨h, by rw [List.length_set]; exact h, fun i hi => by rw [getD_set, if_neg (by omega)], by rw [getD_set, if_pos ⟨rfl, by omega⟩]⟩
section
variable {c d : List Int} (h : Sh c d)
include h
theorem Sh.reg (i : Int) : M.reg d i = M.reg c i := by
  unfold M.reg
  split
  · rename_i hs
    have := (stored_iff i).1 hs
    exact h.eq _ (by omega)
  · rfl
theorem Sh.csr (i : Nat) : M.csr d i = M.csr c i := h.eq _ (by omega)
theorem Sh.ub : M.ub d = M.ub c := by unfold M.ub sup; rw [h.csr, h.csr]
theorem Sh.un (s : Int) : M.un d s = M.un c s := by unfold M.un sup; rw [h.csr, h.csr]
theorem Sh.acz (s a n : Int) : M.acz d s a n = M.acz c s a n := by unfold M.acz; rw [h.ub, h.un]
theorem Sh.alv (xs : List Int) (a n : Int) : M.alv d xs a n = M.alv c xs a n := by unfold M.alv; rw [h.acz, h.ub]
theorem Sh.asv (xs : List Int) (a n v : Int) : M.asv d xs a n v = M.asv c xs a n v := by unfold M.asv; rw [h.acz, h.ub]
theorem Sh.ea (ra imm : Int) : M.ea d ra imm = M.ea c ra imm := by unfold M.ea; rw [h.reg]
theorem Sh.setreg (r v : Int) : Sh (M.setreg c r v) (M.setreg d r v) := by
  have hl := h.lc
  have hd := h.ld
  unfold M.setreg
  split
  · rename_i hs
    have := (stored_iff r).1 hs
    refine ⟨by rw [List.length_set]; exact hl, by rw [List.length_set]; exact hd, fun i hi => ?_, ?_⟩
    · rw [getD_set, getD_set, hl, hd]
      split
      · rfl
      · exact h.eq i hi
    · rw [getD_set, getD_set, if_neg (by omega), if_neg (by omega)]; exact h.pc
  · exact h
theorem Sh.adv (k : Int) : Sh (M.adv c k) (M.adv d k) := by
  have hl := h.lc
  have hd := h.ld
  have hp := h.pc
  unfold M.adv
  refine ⟨by rw [List.length_set]; exact hl, by rw [List.length_set]; exact hd, fun i hi => ?_, ?_⟩
  · rw [getD_set, getD_set, if_neg (by omega), if_neg (by omega)]; exact h.eq i hi
  · rw [getD_set, getD_set, if_pos ⟨rfl, by omega⟩, if_pos ⟨rfl, by omega⟩]
    have e1 : M.pc d = (M.pc c + 16) % 4294967296 := hp
    rw [e1]; omega
theorem Sh.take : d.take 16 = c.take 16 := by
  apply List.ext_getElem?
  intro i
  rw [List.getElem?_take, List.getElem?_take]
  split
  · rename_i hi
    have hl := h.lc
    have hd := h.ld
    have := h.eq i (by omega)
    rw [List.getD_eq_getElem?_getD, List.getD_eq_getElem?_getD, List.getElem?_eq_getElem (by omega), List.getElem?_eq_getElem (by omega)] at this
    rw [List.getElem?_eq_getElem (by omega), List.getElem?_eq_getElem (by omega)]
    simpa using this
  · rfl
end
/-- what an instruction comes to 16 further on -/
theorem ex_shift {c d : List Int} (h : Sh c d) (xs : List Int) (op rd ra rb imm : Int) :
    (ex d xs op rd ra rb imm).k = (ex c xs op rd ra rb imm).k ∧ (ex d xs op rd ra rb imm).v = (ex c xs op rd ra rb imm).v ∧ (op ≠ 18 → op ≠ 19 → Sh (ex c xs op rd ra rb imm).c (ex d xs op rd ra rb imm).c) := by
  have L : ∀ a n : Int, (exL d xs rd a n).k = (exL c xs rd a n).k ∧ (exL d xs rd a n).v = (exL c xs rd a n).v ∧ Sh (exL c xs rd a n).c (exL d xs rd a n).c := fun a n => by
    unfold exL
    rw [h.acz, h.alv]
    split
    · exact ⟨rfl, rfl, (h.setreg _ _).adv _⟩
    · exact ⟨rfl, rfl, h⟩
  have S : ∀ a n : Int, (exS d xs rd a n).k = (exS c xs rd a n).k ∧ (exS d xs rd a n).v = (exS c xs rd a n).v ∧ Sh (exS c xs rd a n).c (exS d xs rd a n).c := fun a n => by
    unfold exS
    rw [h.acz, h.asv, h.reg]
    split
    · exact ⟨rfl, rfl, h.adv _⟩
    · exact ⟨rfl, rfl, h⟩
  unfold ex
  rw [h.reg, h.reg, h.reg, h.ea]
  by_cases h1 : 1 ≤ op ∧ op ≤ 8
  · rw [if_pos h1, if_pos h1]; exact ⟨rfl, rfl, fun _ _ => (h.setreg _ _).adv _⟩
  rw [if_neg h1, if_neg h1]
  by_cases h2 : op = 9
  · rw [if_pos h2, if_pos h2]; exact ⟨rfl, rfl, fun _ _ => (h.setreg _ _).adv _⟩
  rw [if_neg h2, if_neg h2]
  by_cases h3 : op = 10
  · rw [if_pos h3, if_pos h3]; exact ⟨rfl, rfl, fun _ _ => (h.setreg _ _).adv _⟩
  rw [if_neg h3, if_neg h3]
  by_cases h4 : op = 11
  · rw [if_pos h4, if_pos h4]; exact ⟨(L _ _).1, (L _ _).2.1, fun _ _ => (L _ _).2.2⟩
  rw [if_neg h4, if_neg h4]
  by_cases h5 : op = 12
  · rw [if_pos h5, if_pos h5]; exact ⟨(S _ _).1, (S _ _).2.1, fun _ _ => (S _ _).2.2⟩
  rw [if_neg h5, if_neg h5]
  by_cases h6 : op = 13
  · rw [if_pos h6, if_pos h6]; exact ⟨(L _ _).1, (L _ _).2.1, fun _ _ => (L _ _).2.2⟩
  rw [if_neg h6, if_neg h6]
  by_cases h7 : op = 14
  · rw [if_pos h7, if_pos h7]; exact ⟨(S _ _).1, (S _ _).2.1, fun _ _ => (S _ _).2.2⟩
  rw [if_neg h7, if_neg h7]
  by_cases h8 : 15 ≤ op ∧ op ≤ 17
  · rw [if_pos h8, if_pos h8]
    refine ⟨rfl, rfl, fun _ _ => ?_⟩
    show Sh (if _ then _ else _) (if _ then _ else _)
    split
    · exact h.adv _
    · exact h.adv _
  rw [if_neg h8, if_neg h8]
  by_cases h9 : op = 18
  · rw [if_pos h9, if_pos h9]; exact ⟨rfl, rfl, fun a _ => absurd h9 a⟩
  rw [if_neg h9, if_neg h9]
  by_cases h10 : op = 19
  · rw [if_pos h10, if_pos h10]; exact ⟨rfl, rfl, fun _ a => absurd h10 a⟩
  rw [if_neg h10, if_neg h10]
  exact ⟨rfl, rfl, fun _ _ => h⟩
end Go.Proofs.YtpdahbcjecphmaaDoor.M
namespace Go.Proofs.YtpdahbcjecphmaaDoor
open Go.ChangeShapes Go.WideShapes Go.ChangeAt Go.RowKit Go.Sort
set_option linter.unusedVariables false

set_option maxRecDepth 100000 in
set_option maxHeartbeats 2000000 in
theorem it_few (m : Mc) (op rd ra rb imm : Int) (tm : Int) (W : World) (hm : m.Ok W) (T : Is.Tabs W) (i0 : -2147483648 ≤ imm) (i1 : imm < 2147483648) (hx : m.xs.length ≤ 9223372036854775807) (hy : m.ys.length ≤ 9223372036854775807) (b0 : 0 ≤ tm) (b1 : tm < 18446744073709551616) (hf : decide (m.xs.length ≤ 600 ∧ m.ys.length ≤ 600) = false) :
    Calls Tryd.prog 8 #[.agg (mach m), .agg (ins op rd ra rb imm), .int .u64 tm] W fun e W' => e = .returned (.bool true) ∧ Dn W W' := by
  have C0 := Lib.hid fun w => fun (t : Is.Tabs w) => awake w t
  have CF := Lib.hid fun w => fun (ow : m.Ok w) => rfew m false w ow hx hy hf
  clear hf
  have HD := Lib.hid (Dn.refl W)
  go_enter Tryd.func8, Tryd.ntmps8
  go_wp2_with (first | ((with_reducible refine wpList_box (vs := (mach m)) ?_ ?_ ?_); rfl; rfl; intro b_v3 w' nn; refine Hid.out ?_))
  refine Lib.hid ?_
  have HL_v3 : Hid (W.heap.size ≤ b_v3) := Lib.hid (Blk.hi nn HD.out.size)
  have d' := nn.dn
  replace HD := Lib.hid (HD.out.trans d')
  have v3 := nn.blk
  clear d' nn
  go_wp2_with (first | ((with_reducible refine wpList_box (vs := (ins op rd ra rb imm)) ?_ ?_ ?_); rfl; rfl; intro b_v4 w' nn; refine Hid.out ?_))
  refine Lib.hid ?_
  have n_v3_v4 := Lib.hid (nn.ne _ v3.lt)
  have HL_v4 : Hid (W.heap.size ≤ b_v4) := Lib.hid (Blk.hi nn HD.out.size)
  have d' := nn.dn
  replace v3 := v3.dn d'
  replace HD := Lib.hid (HD.out.trans d')
  have v4 := nn.blk
  clear d' nn
  go_wp2_with (first | (go_at_call 9; (with_reducible refine (C0.out _ (T.dn HD.out)).mono ?_); rintro e w' ⟨rfl, d'⟩; refine Hid.out ?_))
  refine Lib.hid ?_
  replace v3 := v3.dn d'
  replace v4 := v4.dn d'
  replace HD := Lib.hid (HD.out.trans d')
  clear d'
  go_wp2_with (first | ((with_reducible refine load33 v3 hm.len ?_ ?_ ?_); rfl; rfl) | (go_at_call 10; (with_reducible refine (CF.out _ (hm.dn HD.out)).mono ?_); rintro e w' ⟨rfl, d'⟩; refine Hid.out ?_))
  refine Lib.hid ?_
  replace v3 := v3.dn d'
  replace v4 := v4.dn d'
  replace HD := Lib.hid (HD.out.trans d')
  clear d'
  go_wp2_with (first | (go_at_call 9; (with_reducible refine (C0.out _ (T.dn HD.out)).mono ?_); rintro e w' ⟨rfl, d'⟩; refine Hid.out ?_))
  refine Lib.hid ?_
  replace v3 := v3.dn d'
  replace v4 := v4.dn d'
  replace HD := Lib.hid (HD.out.trans d')
  clear d'
  go_wp2_with fail
  go_ret
  exact ⟨rfl, HD.out⟩
set_option maxRecDepth 100000 in
set_option maxHeartbeats 2000000 in
theorem it_plain (m : Mc) (op rd ra rb imm : Int) (tm : Int) (W : World) (hm : m.Ok W) (T : Is.Tabs W) (i0 : -2147483648 ≤ imm) (i1 : imm < 2147483648) (hx : m.xs.length ≤ 9223372036854775807) (hy : m.ys.length ≤ 9223372036854775807) (b0 : 0 ≤ tm) (b1 : tm < 18446744073709551616) (hf : decide (m.xs.length ≤ 600 ∧ m.ys.length ≤ 600) = true) (hpl : (Is.M.ok op rd ra rb imm && !Is.M.priv op) = false) :
    Calls Tryd.prog 8 #[.agg (mach m), .agg (ins op rd ra rb imm), .int .u64 tm] W fun e W' => e = .returned (.bool true) ∧ Dn W W' := by
  have C0 := Lib.hid fun w => fun (t : Is.Tabs w) => awake w t
  have CF := Lib.hid fun w => fun (ow : m.Ok w) => rfew m true w ow hx hy hf
  have CP := Lib.hid (rPlain op rd ra rb imm false i0 i1 hpl)
  clear hf hpl
  have HD := Lib.hid (Dn.refl W)
  go_enter Tryd.func8, Tryd.ntmps8
  go_wp2_with (first | ((with_reducible refine wpList_box (vs := (mach m)) ?_ ?_ ?_); rfl; rfl; intro b_v3 w' nn; refine Hid.out ?_))
  refine Lib.hid ?_
  have HL_v3 : Hid (W.heap.size ≤ b_v3) := Lib.hid (Blk.hi nn HD.out.size)
  have d' := nn.dn
  replace HD := Lib.hid (HD.out.trans d')
  have v3 := nn.blk
  clear d' nn
  go_wp2_with (first | ((with_reducible refine wpList_box (vs := (ins op rd ra rb imm)) ?_ ?_ ?_); rfl; rfl; intro b_v4 w' nn; refine Hid.out ?_))
  refine Lib.hid ?_
  have n_v3_v4 := Lib.hid (nn.ne _ v3.lt)
  have HL_v4 : Hid (W.heap.size ≤ b_v4) := Lib.hid (Blk.hi nn HD.out.size)
  have d' := nn.dn
  replace v3 := v3.dn d'
  replace HD := Lib.hid (HD.out.trans d')
  have v4 := nn.blk
  clear d' nn
  go_wp2_with (first | (go_at_call 9; (with_reducible refine (C0.out _ (T.dn HD.out)).mono ?_); rintro e w' ⟨rfl, d'⟩; refine Hid.out ?_))
  refine Lib.hid ?_
  replace v3 := v3.dn d'
  replace v4 := v4.dn d'
  replace HD := Lib.hid (HD.out.trans d')
  clear d'
  go_wp2_with (first | ((with_reducible refine load33 v3 hm.len ?_ ?_ ?_); rfl; rfl) | (go_at_call 10; (with_reducible refine (CF.out _ (hm.dn HD.out)).mono ?_); rintro e w' ⟨rfl, d'⟩; refine Hid.out ?_))
  refine Lib.hid ?_
  replace v3 := v3.dn d'
  replace v4 := v4.dn d'
  replace HD := Lib.hid (HD.out.trans d')
  clear d'
  go_wp2_with (first | ((with_reducible refine loadI v4 ?_ ?_ ?_); rfl; rfl) | (go_at_call 11; (with_reducible refine (CP.out _).mono ?_); rintro e w' ⟨rfl, d'⟩; refine Hid.out ?_))
  refine Lib.hid ?_
  replace v3 := v3.dn d'
  replace v4 := v4.dn d'
  replace HD := Lib.hid (HD.out.trans d')
  clear d'
  go_wp2_with (first | (go_at_call 9; (with_reducible refine (C0.out _ (T.dn HD.out)).mono ?_); rintro e w' ⟨rfl, d'⟩; refine Hid.out ?_))
  refine Lib.hid ?_
  replace v3 := v3.dn d'
  replace v4 := v4.dn d'
  replace HD := Lib.hid (HD.out.trans d')
  clear d'
  go_wp2_with fail
  go_ret
  exact ⟨rfl, HD.out⟩
set_option maxRecDepth 100000 in
set_option maxHeartbeats 2000000 in
theorem it_n (m : Mc) (op rd ra rb imm : Int) (tm : Int) (W : World) (hm : m.Ok W) (T : Is.Tabs W) (i0 : -2147483648 ≤ imm) (i1 : imm < 2147483648) (hx : m.xs.length ≤ 9223372036854775807) (hy : m.ys.length ≤ 9223372036854775807) (b0 : 0 ≤ tm) (b1 : tm < 18446744073709551616) (hf : decide (m.xs.length ≤ 600 ∧ m.ys.length ≤ 600) = true) (hpl : (Is.M.ok op rd ra rb imm && !Is.M.priv op) = true) (p P : Int) (hpc : m.c.getD 16 0 = p) (r r2 : M.Res) (h1 : M.ex m.c m.xs op rd ra rb imm = r) (h2 : M.ex (m.c.set 16 ((p + 16) % 4294967296)) m.xs op rd ra rb imm = r2) (p0 : 0 ≤ p) (p1 : p < 4294967296) (hk : r2.k = r.k ∧ r2.v = r.v) (j1 : (op == 18) = false) (j2 : (op == 19) = false) (g1 : r.c.getD 16 0 = P) (g2 : r2.c.getD 16 0 = ((P + 16) % 4294967296)) (g3 : r2.c.take 16 = r.c.take 16) :
    Calls Tryd.prog 8 #[.agg (mach m), .agg (ins op rd ra rb imm), .int .u64 tm] W fun e W' => e = .returned (.bool true) ∧ Dn W W' := by
  have hl := hm.len
  have hc := hm.core
  have hs : m.xs.length ≤ 100000 := by simp only [decide_eq_true_eq] at hf; omega
  have hvp : Is.M.ok op rd ra rb imm = true ∧ Is.M.priv op = false := by simpa using hpl
  have C0 := Lib.hid fun w => fun (t : Is.Tabs w) => awake w t
  have CF := Lib.hid fun w => fun (ow : m.Ok w) => rfew m true w ow hx hy hf
  have CP := Lib.hid (rPlain op rd ra rb imm true i0 i1 hpl)
  obtain ⟨n1, e1⟩ : ∃ n1 : Mc, n1 = { m with t := tm } := ⟨_, rfl⟩
  obtain ⟨n2, e2⟩ : ∃ n2 : Mc, n2 = { n1 with h := !m.h } := ⟨_, rfl⟩
  obtain ⟨n3, e3⟩ : ∃ n3 : Mc, n3 = { n2 with B := none, q := 0, ys := [] } := ⟨_, rfl⟩
  obtain ⟨n4, e4⟩ : ∃ n4 : Mc, n4 = { m with c := m.c.set 16 ((p + 16) % 4294967296) } := ⟨_, rfl⟩
  have c1 : n1.c = m.c := by rw [e1]
  have c2 : n2.c = m.c := by rw [e2, e1]
  have c3 : n3.c = m.c := by rw [e3, e2, e1]
  have c4 : n4.c = m.c.set 16 ((p + 16) % 4294967296) := by rw [e4]
  have ln1 : n1.c.length = 29 := by rw [c1]; exact hl
  have ln2 : n2.c.length = 29 := by rw [c2]; exact hl
  have ln3 : n3.c.length = 29 := by rw [c3]; exact hl
  have ln4 : n4.c.length = 29 := by rw [c4, List.length_set]; exact hl
  have x3 : n3.xs = m.xs := by rw [e3, e2, e1]
  have x4 : n4.xs = m.xs := by rw [e4]
  have t3 : n3.t = tm := by rw [e3, e2, e1]
  have y3 : n3.ys = [] := by rw [e3]
  have b3 : n3.h = !m.h := by rw [e3, e2]
  have h2h : n1.h = m.h := by rw [e1]
  have hn3 : n3.Ok W := by rw [e3, e2, e1]; exact ⟨hc, hm.mem, bs_nil W, b0, b1⟩
  have hn4 : n4.Ok W := by rw [e4]; exact ⟨hc.set _ _ (M.wrap_rng _).1 (M.wrap_rng _).2, hm.mem, hm.out, hm.t0, hm.t1⟩
  have C1 := Lib.hid fun w => fun (ow : m.Ok w) (t : Is.Tabs w) => (by have h := xExec m op rd ra rb imm w ow hs t i0 i1 hvp.1 hvp.2; rw [h1] at h; exact h : Calls Tryd.prog 12 #[.agg (mach m), .agg (ins op rd ra rb imm)] w fun e W' => ExRet w m r e W')
  have C2 := Lib.hid fun w => fun (ow : n3.Ok w) (t : Is.Tabs w) => (by have h := xExec n3 op rd ra rb imm w ow (by rw [x3]; exact hs) t i0 i1 hvp.1 hvp.2; rw [c3, x3, h1] at h; exact h : Calls Tryd.prog 12 #[.agg (mach n3), .agg (ins op rd ra rb imm)] w fun e W' => ExRet w n3 r e W')
  have C3 := Lib.hid fun w => fun (ow : n4.Ok w) (t : Is.Tabs w) => (by have h := xExec n4 op rd ra rb imm w ow (by rw [x4]; exact hs) t i0 i1 hvp.1 hvp.2; rw [c4, x4, h2] at h; exact h : Calls Tryd.prog 12 #[.agg (mach n4), .agg (ins op rd ra rb imm)] w fun e W' => ExRet w n4 r2 e W')
  have hz : r.z.length ≤ 100000 := by rw [← h1, M.ex_len]; exact hs
  have CS := Lib.hid fun (w : World) (ma mb : Mc) (oa : ma.Ok w) (ob : mb.Ok w) (ea : Exd m r ma) (eb : Exd n3 r mb) => same_yes ma.A mb.A ma.k mb.k ma.xs.length mb.xs.length ma.xs mb.xs w oa.mem ob.mem rfl rfl (ea.xs.trans eb.xs.symm) (by rw [ea.xs]; exact hz)
  have qt := eqTrap_self r.k r.v
  have qv : ∀ w, (Op.equalIn 10000 37 (.agg #[.int .i64 r2.k, .int .u32 r2.v]) (.agg #[.int .i64 r.k, .int .u32 r.v])).run Tryd.prog w = .ok true w := fun w => by rw [hk.1, hk.2]; exact eqTrap_self _ _ w
  have hbb : ((!m.h) == m.h) = false := by cases m.h <;> rfl
  replace e1 := Lib.hid e1
  replace e2 := Lib.hid e2
  replace e3 := Lib.hid e3
  replace e4 := Lib.hid e4
  replace t3 := Lib.hid t3
  replace y3 := Lib.hid y3
  replace b3 := Lib.hid b3
  clear hf hpl hvp h1 h2 c1 c2 c3 c4 x3 x4 hz hk
  have g1 := Lib.hid g1
  have g2 := Lib.hid g2
  have g3 := Lib.hid g3
  have HD := Lib.hid (Dn.refl W)
  go_enter Tryd.func8, Tryd.ntmps8
  go_wp2_with (first | ((with_reducible refine wpList_box (vs := (mach m)) ?_ ?_ ?_); rfl; rfl; intro b_v3 w' nn; refine Hid.out ?_))
  refine Lib.hid ?_
  have HL_v3 : Hid (W.heap.size ≤ b_v3) := Lib.hid (Blk.hi nn HD.out.size)
  have d' := nn.dn
  replace HD := Lib.hid (HD.out.trans d')
  have v3 := nn.blk
  clear d' nn
  go_wp2_with (first | ((with_reducible refine wpList_box (vs := (ins op rd ra rb imm)) ?_ ?_ ?_); rfl; rfl; intro b_v4 w' nn; refine Hid.out ?_))
  refine Lib.hid ?_
  have n_v3_v4 := Lib.hid (nn.ne _ v3.lt)
  have HL_v4 : Hid (W.heap.size ≤ b_v4) := Lib.hid (Blk.hi nn HD.out.size)
  have d' := nn.dn
  replace v3 := v3.dn d'
  replace HD := Lib.hid (HD.out.trans d')
  have v4 := nn.blk
  clear d' nn
  go_wp2_with (first | (go_at_call 9; (with_reducible refine (C0.out _ (T.dn HD.out)).mono ?_); rintro e w' ⟨rfl, d'⟩; refine Hid.out ?_))
  refine Lib.hid ?_
  replace v3 := v3.dn d'
  replace v4 := v4.dn d'
  replace HD := Lib.hid (HD.out.trans d')
  clear d'
  go_wp2_with (first | ((with_reducible refine load33 v3 hl ?_ ?_ ?_); rfl; rfl) | (go_at_call 10; (with_reducible refine (CF.out _ (hm.dn HD.out)).mono ?_); rintro e w' ⟨rfl, d'⟩; refine Hid.out ?_))
  refine Lib.hid ?_
  replace v3 := v3.dn d'
  replace v4 := v4.dn d'
  replace HD := Lib.hid (HD.out.trans d')
  clear d'
  go_wp2_with (first | ((with_reducible refine loadI v4 ?_ ?_ ?_); rfl; rfl) | (go_at_call 11; (with_reducible refine (CP.out _).mono ?_); rintro e w' ⟨rfl, d'⟩; refine Hid.out ?_))
  refine Lib.hid ?_
  replace v3 := v3.dn d'
  replace v4 := v4.dn d'
  replace HD := Lib.hid (HD.out.trans d')
  clear d'
  go_wp2_with (first | ((with_reducible refine load33 v3 hl ?_ ?_ ?_); rfl; rfl) | ((with_reducible refine wpList_alloc zeroMach ?_ ?_); rfl; intro b_v7 w' nn; refine Hid.out ?_))
  refine Lib.hid ?_
  have n_v3_v7 := Lib.hid (nn.ne _ v3.lt)
  have n_v4_v7 := Lib.hid (nn.ne _ v4.lt)
  have HL_v7 : Hid (W.heap.size ≤ b_v7) := Lib.hid (Blk.hi nn HD.out.size)
  have d' := nn.dn
  replace v3 := v3.dn d'
  replace v4 := v4.dn d'
  replace HD := Lib.hid (HD.out.trans d')
  have v7 := nn.blk
  clear d' nn
  go_wp2_with (first | ((with_reducible refine store33 m hl v7 zlen ?_ ?_ ?_ ?_); rfl; rfl; rfl; intro w' r' t'; refine Hid.out ?_))
  refine Lib.hid ?_
  replace v3 := v3.trn t' n_v3_v7.out
  replace v4 := v4.trn t' n_v4_v7.out
  replace HD := Lib.hid (HD.out.trn HL_v7.out t')
  clear t' v7
  have v7 := r'
  clear r'
  go_wp2_with (first | ((with_reducible refine storeTime (u := tm) v7 hl ?_ ?_ ?_ ?_); rfl; rfl; rfl; intro w' r' t'; refine Hid.out ?_))
  refine Lib.hid ?_
  replace v3 := v3.trn t' n_v3_v7.out
  replace v4 := v4.trn t' n_v4_v7.out
  rw [← e1.out] at r'
  replace HD := Lib.hid (HD.out.trn HL_v7.out t')
  clear t' v7
  have v7 := r'
  clear r'
  have ck0 := v3.halted hl
  go_wp2_with (first | ((with_reducible refine storeHalted (u := !m.h) v7 ln1 ?_ ?_ ?_ ?_); rfl; rfl; rfl; intro w' r' t'; refine Hid.out ?_))
  refine Lib.hid ?_
  clear ck0
  replace v3 := v3.trn t' n_v3_v7.out
  replace v4 := v4.trn t' n_v4_v7.out
  rw [← e2.out] at r'
  replace HD := Lib.hid (HD.out.trn HL_v7.out t')
  clear t' v7
  have v7 := r'
  clear r'
  go_wp2_with (first | ((with_reducible refine storeOut (B' := none) (q' := 0) (n' := 0) (zs := []) v7 ln2 rfl ?_ ?_ ?_ ?_); rfl; rfl; rfl; intro w' r' t'; refine Hid.out ?_))
  refine Lib.hid ?_
  replace v3 := v3.trn t' n_v3_v7.out
  replace v4 := v4.trn t' n_v4_v7.out
  rw [← e3.out] at r'
  replace HD := Lib.hid (HD.out.trn HL_v7.out t')
  clear t' v7
  have v7 := r'
  clear r'
  go_wp2_with (first | ((with_reducible refine load33 v3 hl ?_ ?_ ?_); rfl; rfl) | ((with_reducible refine loadI v4 ?_ ?_ ?_); rfl; rfl) | (go_at_call 12; (with_reducible refine (C1.out _ (hm.dn HD.out) (T.dn HD.out)).mono ?_); rintro e w' ⟨ma, rfl, oa', ua, d'⟩; refine Hid.out ?_))
  refine Lib.hid ?_
  replace v3 := v3.dn d'
  replace v4 := v4.dn d'
  replace v7 := v7.dn d'
  replace HD := Lib.hid (HD.out.trans d')
  clear d'
  have lma := oa'.out.len
  have oa := Lib.hid oa'.out
  go_wp2_with (first | ((with_reducible refine wpList_alloc zeroMach ?_ ?_); rfl; intro b_v8 w' nn; refine Hid.out ?_))
  refine Lib.hid ?_
  have n_v3_v8 := Lib.hid (nn.ne _ v3.lt)
  have n_v4_v8 := Lib.hid (nn.ne _ v4.lt)
  have n_v7_v8 := Lib.hid (nn.ne _ v7.lt)
  have HL_v8 : Hid (W.heap.size ≤ b_v8) := Lib.hid (Blk.hi nn HD.out.size)
  have d' := nn.dn
  replace v3 := v3.dn d'
  replace v4 := v4.dn d'
  replace v7 := v7.dn d'
  replace oa := Lib.hid (oa.out.dn d')
  replace HD := Lib.hid (HD.out.trans d')
  have v8 := nn.blk
  clear d' nn
  go_wp2_with (first | ((with_reducible refine wpList_alloc zeroTrap ?_ ?_); rfl; intro b_v9 w' nn; refine Hid.out ?_))
  refine Lib.hid ?_
  have n_v3_v9 := Lib.hid (nn.ne _ v3.lt)
  have n_v4_v9 := Lib.hid (nn.ne _ v4.lt)
  have n_v7_v9 := Lib.hid (nn.ne _ v7.lt)
  have n_v8_v9 := Lib.hid (nn.ne _ v8.lt)
  have HL_v9 : Hid (W.heap.size ≤ b_v9) := Lib.hid (Blk.hi nn HD.out.size)
  have d' := nn.dn
  replace v3 := v3.dn d'
  replace v4 := v4.dn d'
  replace v7 := v7.dn d'
  replace v8 := v8.dn d'
  replace oa := Lib.hid (oa.out.dn d')
  replace HD := Lib.hid (HD.out.trans d')
  have v9 := nn.blk
  clear d' nn
  go_wp2_with (first | ((with_reducible refine store33 ma lma v8 zlen ?_ ?_ ?_ ?_); rfl; rfl; rfl; intro w' r' t'; refine Hid.out ?_))
  refine Lib.hid ?_
  replace oa := Lib.hid (oa.out.trn v8 (NoU8.mach _) t')
  replace v3 := v3.trn t' n_v3_v8.out
  replace v4 := v4.trn t' n_v4_v8.out
  replace v7 := v7.trn t' n_v7_v8.out
  replace v9 := v9.trn t' n_v8_v9.out.symm
  replace HD := Lib.hid (HD.out.trn HL_v8.out t')
  clear t' v8
  have v8 := r'
  clear r'
  go_wp2_with (first | ((with_reducible refine storeTrap (k := r.k) (v := r.v) v9 ?_ ?_ ?_ ?_); rfl; rfl; rfl; intro w' r' t'; refine Hid.out ?_))
  refine Lib.hid ?_
  replace oa := Lib.hid (oa.out.trn v9 (NoU8.trap _ _) t')
  replace v3 := v3.trn t' n_v3_v9.out
  replace v4 := v4.trn t' n_v4_v9.out
  replace v7 := v7.trn t' n_v7_v9.out
  replace v8 := v8.trn t' n_v8_v9.out
  replace HD := Lib.hid (HD.out.trn HL_v9.out t')
  clear t' v9
  have v9 := r'
  clear r'
  go_wp2_with (first | ((with_reducible refine load33 v7 ln3 ?_ ?_ ?_); rfl; rfl) | ((with_reducible refine loadI v4 ?_ ?_ ?_); rfl; rfl) | (go_at_call 12; (with_reducible refine (C2.out _ (hn3.dn HD.out) (T.dn HD.out)).mono ?_); rintro e w' ⟨mb, rfl, ob', ub, d'⟩; refine Hid.out ?_))
  refine Lib.hid ?_
  replace v3 := v3.dn d'
  replace v4 := v4.dn d'
  replace v7 := v7.dn d'
  replace v8 := v8.dn d'
  replace v9 := v9.dn d'
  replace oa := Lib.hid (oa.out.dn d')
  replace HD := Lib.hid (HD.out.trans d')
  clear d'
  have lmb := ob'.out.len
  have nt : mb.t = tm := by rw [ub.out.exd.t]; exact t3.out
  have nh : mb.h = !m.h := by rw [ub.out.exd.h]; exact b3.out
  have ny : mb.ys.length = 0 := by rw [ub.out.exd.ys, y3.out]; rfl
  have qc : ∀ w, (Op.equalIn 10000 26 (.agg (ints .u32 ma.c)) (.agg (ints .u32 mb.c))).run Tryd.prog w = .ok true w := fun w => by rw [ua.out.exd.c, ub.out.exd.c]; exact eq29_self (by rw [← ua.out.exd.c]; exact lma) w
  have ob := Lib.hid ob'.out
  go_wp2_with (first | ((with_reducible refine wpList_alloc zeroMach ?_ ?_); rfl; intro b_v10 w' nn; refine Hid.out ?_))
  refine Lib.hid ?_
  have n_v3_v10 := Lib.hid (nn.ne _ v3.lt)
  have n_v4_v10 := Lib.hid (nn.ne _ v4.lt)
  have n_v7_v10 := Lib.hid (nn.ne _ v7.lt)
  have n_v8_v10 := Lib.hid (nn.ne _ v8.lt)
  have n_v9_v10 := Lib.hid (nn.ne _ v9.lt)
  have HL_v10 : Hid (W.heap.size ≤ b_v10) := Lib.hid (Blk.hi nn HD.out.size)
  have d' := nn.dn
  replace v3 := v3.dn d'
  replace v4 := v4.dn d'
  replace v7 := v7.dn d'
  replace v8 := v8.dn d'
  replace v9 := v9.dn d'
  replace oa := Lib.hid (oa.out.dn d')
  replace ob := Lib.hid (ob.out.dn d')
  replace HD := Lib.hid (HD.out.trans d')
  have v10 := nn.blk
  clear d' nn
  go_wp2_with (first | ((with_reducible refine wpList_alloc zeroTrap ?_ ?_); rfl; intro b_v11 w' nn; refine Hid.out ?_))
  refine Lib.hid ?_
  have n_v3_v11 := Lib.hid (nn.ne _ v3.lt)
  have n_v4_v11 := Lib.hid (nn.ne _ v4.lt)
  have n_v7_v11 := Lib.hid (nn.ne _ v7.lt)
  have n_v8_v11 := Lib.hid (nn.ne _ v8.lt)
  have n_v9_v11 := Lib.hid (nn.ne _ v9.lt)
  have n_v10_v11 := Lib.hid (nn.ne _ v10.lt)
  have HL_v11 : Hid (W.heap.size ≤ b_v11) := Lib.hid (Blk.hi nn HD.out.size)
  have d' := nn.dn
  replace v3 := v3.dn d'
  replace v4 := v4.dn d'
  replace v7 := v7.dn d'
  replace v8 := v8.dn d'
  replace v9 := v9.dn d'
  replace v10 := v10.dn d'
  replace oa := Lib.hid (oa.out.dn d')
  replace ob := Lib.hid (ob.out.dn d')
  replace HD := Lib.hid (HD.out.trans d')
  have v11 := nn.blk
  clear d' nn
  go_wp2_with (first | ((with_reducible refine store33 mb lmb v10 zlen ?_ ?_ ?_ ?_); rfl; rfl; rfl; intro w' r' t'; refine Hid.out ?_))
  refine Lib.hid ?_
  replace oa := Lib.hid (oa.out.trn v10 (NoU8.mach _) t')
  replace ob := Lib.hid (ob.out.trn v10 (NoU8.mach _) t')
  replace v3 := v3.trn t' n_v3_v10.out
  replace v4 := v4.trn t' n_v4_v10.out
  replace v7 := v7.trn t' n_v7_v10.out
  replace v8 := v8.trn t' n_v8_v10.out
  replace v9 := v9.trn t' n_v9_v10.out
  replace v11 := v11.trn t' n_v10_v11.out.symm
  replace HD := Lib.hid (HD.out.trn HL_v10.out t')
  clear t' v10
  have v10 := r'
  clear r'
  go_wp2_with (first | ((with_reducible refine storeTrap (k := r.k) (v := r.v) v11 ?_ ?_ ?_ ?_); rfl; rfl; rfl; intro w' r' t'; refine Hid.out ?_))
  refine Lib.hid ?_
  replace oa := Lib.hid (oa.out.trn v11 (NoU8.trap _ _) t')
  replace ob := Lib.hid (ob.out.trn v11 (NoU8.trap _ _) t')
  replace v3 := v3.trn t' n_v3_v11.out
  replace v4 := v4.trn t' n_v4_v11.out
  replace v7 := v7.trn t' n_v7_v11.out
  replace v8 := v8.trn t' n_v8_v11.out
  replace v9 := v9.trn t' n_v9_v11.out
  replace v10 := v10.trn t' n_v10_v11.out
  replace HD := Lib.hid (HD.out.trn HL_v11.out t')
  clear t' v11
  have v11 := r'
  clear r'
  have ck0 := v8.mem lma
  have ck1 := v10.mem lmb
  go_wp2_with (first | ((with_reducible refine loadTrap v9 ?_ ?_ ?_); rfl; rfl) | ((with_reducible refine loadTrap v11 ?_ ?_ ?_); rfl; rfl) | ((with_reducible refine loadCore v8 lma ?_ ?_ ?_); rfl; rfl) | ((with_reducible refine loadCore v10 lmb ?_ ?_ ?_); rfl; rfl) | (go_at_call 16; (with_reducible refine (CS.out _ ma mb oa.out ob.out ua.out.exd ub.out.exd).mono ?_); rintro e w' ⟨rfl, d'⟩; refine Hid.out ?_))
  refine Lib.hid ?_
  clear ck0 ck1
  replace v3 := v3.dn d'
  replace v4 := v4.dn d'
  replace v7 := v7.dn d'
  replace v8 := v8.dn d'
  replace v9 := v9.dn d'
  replace v10 := v10.dn d'
  replace v11 := v11.dn d'
  replace oa := Lib.hid (oa.out.dn d')
  replace ob := Lib.hid (ob.out.dn d')
  replace HD := Lib.hid (HD.out.trans d')
  clear d'
  have ck0 := v10.time lmb
  rw [nt] at ck0
  have ck1 := v10.halted lmb
  rw [nh] at ck1
  have ck2 := v3.halted hl
  have ck3 := v10.out lmb
  go_wp2_with (first | ((with_reducible refine load33 v3 hl ?_ ?_ ?_); rfl; rfl) | ((with_reducible refine store33 m hl v7 ln3 ?_ ?_ ?_ ?_); rfl; rfl; rfl; intro w' r' t'; refine Hid.out ?_))
  refine Lib.hid ?_
  clear ck0 ck1 ck2 ck3
  replace oa := Lib.hid (oa.out.trn v7 (NoU8.mach _) t')
  replace ob := Lib.hid (ob.out.trn v7 (NoU8.mach _) t')
  replace v3 := v3.trn t' n_v3_v7.out
  replace v4 := v4.trn t' n_v4_v7.out
  replace v8 := v8.trn t' n_v7_v8.out.symm
  replace v9 := v9.trn t' n_v7_v9.out.symm
  replace v10 := v10.trn t' n_v7_v10.out.symm
  replace v11 := v11.trn t' n_v7_v11.out.symm
  replace HD := Lib.hid (HD.out.trn HL_v7.out t')
  clear t' v7
  have v7 := r'
  clear r'
  have ck0 := v3.word hl 16 rfl
  rw [hpc] at ck0
  go_wp2_with (first | ((with_reducible refine storeWord (i := 16) (u := (p + 16) % 4294967296) v7 hl ?_ ?_ ?_ ?_ ?_); rfl; rfl; rfl; rfl; intro w' r' t'; refine Hid.out ?_))
  refine Lib.hid ?_
  clear ck0
  replace oa := Lib.hid (oa.out.trn v7 (NoU8.mach _) t')
  replace ob := Lib.hid (ob.out.trn v7 (NoU8.mach _) t')
  replace v3 := v3.trn t' n_v3_v7.out
  replace v4 := v4.trn t' n_v4_v7.out
  replace v8 := v8.trn t' n_v7_v8.out.symm
  replace v9 := v9.trn t' n_v7_v9.out.symm
  replace v10 := v10.trn t' n_v7_v10.out.symm
  replace v11 := v11.trn t' n_v7_v11.out.symm
  rw [← e4.out] at r'
  replace HD := Lib.hid (HD.out.trn HL_v7.out t')
  clear t' v7
  have v7 := r'
  clear r'
  go_wp2_with (first | ((with_reducible refine load33 v7 ln4 ?_ ?_ ?_); rfl; rfl) | ((with_reducible refine loadI v4 ?_ ?_ ?_); rfl; rfl) | (go_at_call 12; (with_reducible refine (C3.out _ (hn4.dn HD.out) (T.dn HD.out)).mono ?_); rintro e w' ⟨mc, rfl, oc', uc, d'⟩; refine Hid.out ?_))
  refine Lib.hid ?_
  replace v3 := v3.dn d'
  replace v4 := v4.dn d'
  replace v7 := v7.dn d'
  replace v8 := v8.dn d'
  replace v9 := v9.dn d'
  replace v10 := v10.dn d'
  replace v11 := v11.dn d'
  replace oa := Lib.hid (oa.out.dn d')
  replace ob := Lib.hid (ob.out.dn d')
  replace HD := Lib.hid (HD.out.trans d')
  clear d'
  have lmc := oc'.out.len
  have q16 : ∀ w, (Op.equalIn 10000 23 (.agg (ints .u32 (mc.c.take 16))) (.agg (ints .u32 (ma.c.take 16)))).run Tryd.prog w = .ok true w := fun w => by rw [eq16 (take16 lmc) (take16 lma), ua.out.exd.c, uc.out.exd.c, g3.out, beq_self_eq_true]
  have na : ma.c.getD 16 0 = P := by rw [ua.out.exd.c]; exact g1.out
  have nc : mc.c.getD 16 0 = ((P + 16) % 4294967296) := by rw [uc.out.exd.c]; exact g2.out
  have oc := Lib.hid oc'.out
  go_wp2_with (first | ((with_reducible refine wpList_alloc zeroMach ?_ ?_); rfl; intro b_v12 w' nn; refine Hid.out ?_))
  refine Lib.hid ?_
  have n_v3_v12 := Lib.hid (nn.ne _ v3.lt)
  have n_v4_v12 := Lib.hid (nn.ne _ v4.lt)
  have n_v7_v12 := Lib.hid (nn.ne _ v7.lt)
  have n_v8_v12 := Lib.hid (nn.ne _ v8.lt)
  have n_v9_v12 := Lib.hid (nn.ne _ v9.lt)
  have n_v10_v12 := Lib.hid (nn.ne _ v10.lt)
  have n_v11_v12 := Lib.hid (nn.ne _ v11.lt)
  have HL_v12 : Hid (W.heap.size ≤ b_v12) := Lib.hid (Blk.hi nn HD.out.size)
  have d' := nn.dn
  replace v3 := v3.dn d'
  replace v4 := v4.dn d'
  replace v7 := v7.dn d'
  replace v8 := v8.dn d'
  replace v9 := v9.dn d'
  replace v10 := v10.dn d'
  replace v11 := v11.dn d'
  replace oa := Lib.hid (oa.out.dn d')
  replace ob := Lib.hid (ob.out.dn d')
  replace oc := Lib.hid (oc.out.dn d')
  replace HD := Lib.hid (HD.out.trans d')
  have v12 := nn.blk
  clear d' nn
  go_wp2_with (first | ((with_reducible refine wpList_alloc zeroTrap ?_ ?_); rfl; intro b_v13 w' nn; refine Hid.out ?_))
  refine Lib.hid ?_
  have n_v3_v13 := Lib.hid (nn.ne _ v3.lt)
  have n_v4_v13 := Lib.hid (nn.ne _ v4.lt)
  have n_v7_v13 := Lib.hid (nn.ne _ v7.lt)
  have n_v8_v13 := Lib.hid (nn.ne _ v8.lt)
  have n_v9_v13 := Lib.hid (nn.ne _ v9.lt)
  have n_v10_v13 := Lib.hid (nn.ne _ v10.lt)
  have n_v11_v13 := Lib.hid (nn.ne _ v11.lt)
  have n_v12_v13 := Lib.hid (nn.ne _ v12.lt)
  have HL_v13 : Hid (W.heap.size ≤ b_v13) := Lib.hid (Blk.hi nn HD.out.size)
  have d' := nn.dn
  replace v3 := v3.dn d'
  replace v4 := v4.dn d'
  replace v7 := v7.dn d'
  replace v8 := v8.dn d'
  replace v9 := v9.dn d'
  replace v10 := v10.dn d'
  replace v11 := v11.dn d'
  replace v12 := v12.dn d'
  replace oa := Lib.hid (oa.out.dn d')
  replace ob := Lib.hid (ob.out.dn d')
  replace oc := Lib.hid (oc.out.dn d')
  replace HD := Lib.hid (HD.out.trans d')
  have v13 := nn.blk
  clear d' nn
  go_wp2_with (first | ((with_reducible refine store33 mc lmc v12 zlen ?_ ?_ ?_ ?_); rfl; rfl; rfl; intro w' r' t'; refine Hid.out ?_))
  refine Lib.hid ?_
  replace oa := Lib.hid (oa.out.trn v12 (NoU8.mach _) t')
  replace ob := Lib.hid (ob.out.trn v12 (NoU8.mach _) t')
  replace oc := Lib.hid (oc.out.trn v12 (NoU8.mach _) t')
  replace v3 := v3.trn t' n_v3_v12.out
  replace v4 := v4.trn t' n_v4_v12.out
  replace v7 := v7.trn t' n_v7_v12.out
  replace v8 := v8.trn t' n_v8_v12.out
  replace v9 := v9.trn t' n_v9_v12.out
  replace v10 := v10.trn t' n_v10_v12.out
  replace v11 := v11.trn t' n_v11_v12.out
  replace v13 := v13.trn t' n_v12_v13.out.symm
  replace HD := Lib.hid (HD.out.trn HL_v12.out t')
  clear t' v12
  have v12 := r'
  clear r'
  go_wp2_with (first | ((with_reducible refine storeTrap (k := r2.k) (v := r2.v) v13 ?_ ?_ ?_ ?_); rfl; rfl; rfl; intro w' r' t'; refine Hid.out ?_))
  refine Lib.hid ?_
  replace oa := Lib.hid (oa.out.trn v13 (NoU8.trap _ _) t')
  replace ob := Lib.hid (ob.out.trn v13 (NoU8.trap _ _) t')
  replace oc := Lib.hid (oc.out.trn v13 (NoU8.trap _ _) t')
  replace v3 := v3.trn t' n_v3_v13.out
  replace v4 := v4.trn t' n_v4_v13.out
  replace v7 := v7.trn t' n_v7_v13.out
  replace v8 := v8.trn t' n_v8_v13.out
  replace v9 := v9.trn t' n_v9_v13.out
  replace v10 := v10.trn t' n_v10_v13.out
  replace v11 := v11.trn t' n_v11_v13.out
  replace v12 := v12.trn t' n_v12_v13.out
  replace HD := Lib.hid (HD.out.trn HL_v13.out t')
  clear t' v13
  have v13 := r'
  clear r'
  have ck0 := v4.iop
  have ck1 := v12.word lmc 16 rfl
  rw [nc] at ck1
  have ck2 := v8.word lma 16 rfl
  rw [na] at ck2
  go_wp2_with (first | ((with_reducible refine loadTrap v13 ?_ ?_ ?_); rfl; rfl) | ((with_reducible refine loadTrap v9 ?_ ?_ ?_); rfl; rfl) | ((with_reducible refine loadRegs v12 lmc ?_ ?_ ?_); rfl; rfl) | ((with_reducible refine loadRegs v8 lma ?_ ?_ ?_); rfl; rfl) | fail)
  go_ret
  exact ⟨rfl, HD.out⟩
set_option maxRecDepth 100000 in
set_option maxHeartbeats 2000000 in
theorem it_18 (m : Mc) (op rd ra rb imm : Int) (tm : Int) (W : World) (hm : m.Ok W) (T : Is.Tabs W) (i0 : -2147483648 ≤ imm) (i1 : imm < 2147483648) (hx : m.xs.length ≤ 9223372036854775807) (hy : m.ys.length ≤ 9223372036854775807) (b0 : 0 ≤ tm) (b1 : tm < 18446744073709551616) (hf : decide (m.xs.length ≤ 600 ∧ m.ys.length ≤ 600) = true) (hpl : (Is.M.ok op rd ra rb imm && !Is.M.priv op) = true) (p P : Int) (hpc : m.c.getD 16 0 = p) (r r2 : M.Res) (h1 : M.ex m.c m.xs op rd ra rb imm = r) (h2 : M.ex (m.c.set 16 ((p + 16) % 4294967296)) m.xs op rd ra rb imm = r2) (p0 : 0 ≤ p) (p1 : p < 4294967296) (hk : r2.k = r.k ∧ r2.v = r.v) (j1 : (op == 18) = true) :
    Calls Tryd.prog 8 #[.agg (mach m), .agg (ins op rd ra rb imm), .int .u64 tm] W fun e W' => e = .returned (.bool true) ∧ Dn W W' := by
  have hl := hm.len
  have hc := hm.core
  have hs : m.xs.length ≤ 100000 := by simp only [decide_eq_true_eq] at hf; omega
  have hvp : Is.M.ok op rd ra rb imm = true ∧ Is.M.priv op = false := by simpa using hpl
  have C0 := Lib.hid fun w => fun (t : Is.Tabs w) => awake w t
  have CF := Lib.hid fun w => fun (ow : m.Ok w) => rfew m true w ow hx hy hf
  have CP := Lib.hid (rPlain op rd ra rb imm true i0 i1 hpl)
  obtain ⟨n1, e1⟩ : ∃ n1 : Mc, n1 = { m with t := tm } := ⟨_, rfl⟩
  obtain ⟨n2, e2⟩ : ∃ n2 : Mc, n2 = { n1 with h := !m.h } := ⟨_, rfl⟩
  obtain ⟨n3, e3⟩ : ∃ n3 : Mc, n3 = { n2 with B := none, q := 0, ys := [] } := ⟨_, rfl⟩
  obtain ⟨n4, e4⟩ : ∃ n4 : Mc, n4 = { m with c := m.c.set 16 ((p + 16) % 4294967296) } := ⟨_, rfl⟩
  have c1 : n1.c = m.c := by rw [e1]
  have c2 : n2.c = m.c := by rw [e2, e1]
  have c3 : n3.c = m.c := by rw [e3, e2, e1]
  have c4 : n4.c = m.c.set 16 ((p + 16) % 4294967296) := by rw [e4]
  have ln1 : n1.c.length = 29 := by rw [c1]; exact hl
  have ln2 : n2.c.length = 29 := by rw [c2]; exact hl
  have ln3 : n3.c.length = 29 := by rw [c3]; exact hl
  have ln4 : n4.c.length = 29 := by rw [c4, List.length_set]; exact hl
  have x3 : n3.xs = m.xs := by rw [e3, e2, e1]
  have x4 : n4.xs = m.xs := by rw [e4]
  have t3 : n3.t = tm := by rw [e3, e2, e1]
  have y3 : n3.ys = [] := by rw [e3]
  have b3 : n3.h = !m.h := by rw [e3, e2]
  have h2h : n1.h = m.h := by rw [e1]
  have hn3 : n3.Ok W := by rw [e3, e2, e1]; exact ⟨hc, hm.mem, bs_nil W, b0, b1⟩
  have hn4 : n4.Ok W := by rw [e4]; exact ⟨hc.set _ _ (M.wrap_rng _).1 (M.wrap_rng _).2, hm.mem, hm.out, hm.t0, hm.t1⟩
  have C1 := Lib.hid fun w => fun (ow : m.Ok w) (t : Is.Tabs w) => (by have h := xExec m op rd ra rb imm w ow hs t i0 i1 hvp.1 hvp.2; rw [h1] at h; exact h : Calls Tryd.prog 12 #[.agg (mach m), .agg (ins op rd ra rb imm)] w fun e W' => ExRet w m r e W')
  have C2 := Lib.hid fun w => fun (ow : n3.Ok w) (t : Is.Tabs w) => (by have h := xExec n3 op rd ra rb imm w ow (by rw [x3]; exact hs) t i0 i1 hvp.1 hvp.2; rw [c3, x3, h1] at h; exact h : Calls Tryd.prog 12 #[.agg (mach n3), .agg (ins op rd ra rb imm)] w fun e W' => ExRet w n3 r e W')
  have C3 := Lib.hid fun w => fun (ow : n4.Ok w) (t : Is.Tabs w) => (by have h := xExec n4 op rd ra rb imm w ow (by rw [x4]; exact hs) t i0 i1 hvp.1 hvp.2; rw [c4, x4, h2] at h; exact h : Calls Tryd.prog 12 #[.agg (mach n4), .agg (ins op rd ra rb imm)] w fun e W' => ExRet w n4 r2 e W')
  have hz : r.z.length ≤ 100000 := by rw [← h1, M.ex_len]; exact hs
  have CS := Lib.hid fun (w : World) (ma mb : Mc) (oa : ma.Ok w) (ob : mb.Ok w) (ea : Exd m r ma) (eb : Exd n3 r mb) => same_yes ma.A mb.A ma.k mb.k ma.xs.length mb.xs.length ma.xs mb.xs w oa.mem ob.mem rfl rfl (ea.xs.trans eb.xs.symm) (by rw [ea.xs]; exact hz)
  have qt := eqTrap_self r.k r.v
  have qv : ∀ w, (Op.equalIn 10000 37 (.agg #[.int .i64 r2.k, .int .u32 r2.v]) (.agg #[.int .i64 r.k, .int .u32 r.v])).run Tryd.prog w = .ok true w := fun w => by rw [hk.1, hk.2]; exact eqTrap_self _ _ w
  have hbb : ((!m.h) == m.h) = false := by cases m.h <;> rfl
  replace e1 := Lib.hid e1
  replace e2 := Lib.hid e2
  replace e3 := Lib.hid e3
  replace e4 := Lib.hid e4
  replace t3 := Lib.hid t3
  replace y3 := Lib.hid y3
  replace b3 := Lib.hid b3
  clear hf hpl hvp h1 h2 c1 c2 c3 c4 x3 x4 hz hk
  have HD := Lib.hid (Dn.refl W)
  go_enter Tryd.func8, Tryd.ntmps8
  go_wp2_with (first | ((with_reducible refine wpList_box (vs := (mach m)) ?_ ?_ ?_); rfl; rfl; intro b_v3 w' nn; refine Hid.out ?_))
  refine Lib.hid ?_
  have HL_v3 : Hid (W.heap.size ≤ b_v3) := Lib.hid (Blk.hi nn HD.out.size)
  have d' := nn.dn
  replace HD := Lib.hid (HD.out.trans d')
  have v3 := nn.blk
  clear d' nn
  go_wp2_with (first | ((with_reducible refine wpList_box (vs := (ins op rd ra rb imm)) ?_ ?_ ?_); rfl; rfl; intro b_v4 w' nn; refine Hid.out ?_))
  refine Lib.hid ?_
  have n_v3_v4 := Lib.hid (nn.ne _ v3.lt)
  have HL_v4 : Hid (W.heap.size ≤ b_v4) := Lib.hid (Blk.hi nn HD.out.size)
  have d' := nn.dn
  replace v3 := v3.dn d'
  replace HD := Lib.hid (HD.out.trans d')
  have v4 := nn.blk
  clear d' nn
  go_wp2_with (first | (go_at_call 9; (with_reducible refine (C0.out _ (T.dn HD.out)).mono ?_); rintro e w' ⟨rfl, d'⟩; refine Hid.out ?_))
  refine Lib.hid ?_
  replace v3 := v3.dn d'
  replace v4 := v4.dn d'
  replace HD := Lib.hid (HD.out.trans d')
  clear d'
  go_wp2_with (first | ((with_reducible refine load33 v3 hl ?_ ?_ ?_); rfl; rfl) | (go_at_call 10; (with_reducible refine (CF.out _ (hm.dn HD.out)).mono ?_); rintro e w' ⟨rfl, d'⟩; refine Hid.out ?_))
  refine Lib.hid ?_
  replace v3 := v3.dn d'
  replace v4 := v4.dn d'
  replace HD := Lib.hid (HD.out.trans d')
  clear d'
  go_wp2_with (first | ((with_reducible refine loadI v4 ?_ ?_ ?_); rfl; rfl) | (go_at_call 11; (with_reducible refine (CP.out _).mono ?_); rintro e w' ⟨rfl, d'⟩; refine Hid.out ?_))
  refine Lib.hid ?_
  replace v3 := v3.dn d'
  replace v4 := v4.dn d'
  replace HD := Lib.hid (HD.out.trans d')
  clear d'
  go_wp2_with (first | ((with_reducible refine load33 v3 hl ?_ ?_ ?_); rfl; rfl) | ((with_reducible refine wpList_alloc zeroMach ?_ ?_); rfl; intro b_v7 w' nn; refine Hid.out ?_))
  refine Lib.hid ?_
  have n_v3_v7 := Lib.hid (nn.ne _ v3.lt)
  have n_v4_v7 := Lib.hid (nn.ne _ v4.lt)
  have HL_v7 : Hid (W.heap.size ≤ b_v7) := Lib.hid (Blk.hi nn HD.out.size)
  have d' := nn.dn
  replace v3 := v3.dn d'
  replace v4 := v4.dn d'
  replace HD := Lib.hid (HD.out.trans d')
  have v7 := nn.blk
  clear d' nn
  go_wp2_with (first | ((with_reducible refine store33 m hl v7 zlen ?_ ?_ ?_ ?_); rfl; rfl; rfl; intro w' r' t'; refine Hid.out ?_))
  refine Lib.hid ?_
  replace v3 := v3.trn t' n_v3_v7.out
  replace v4 := v4.trn t' n_v4_v7.out
  replace HD := Lib.hid (HD.out.trn HL_v7.out t')
  clear t' v7
  have v7 := r'
  clear r'
  go_wp2_with (first | ((with_reducible refine storeTime (u := tm) v7 hl ?_ ?_ ?_ ?_); rfl; rfl; rfl; intro w' r' t'; refine Hid.out ?_))
  refine Lib.hid ?_
  replace v3 := v3.trn t' n_v3_v7.out
  replace v4 := v4.trn t' n_v4_v7.out
  rw [← e1.out] at r'
  replace HD := Lib.hid (HD.out.trn HL_v7.out t')
  clear t' v7
  have v7 := r'
  clear r'
  have ck0 := v3.halted hl
  go_wp2_with (first | ((with_reducible refine storeHalted (u := !m.h) v7 ln1 ?_ ?_ ?_ ?_); rfl; rfl; rfl; intro w' r' t'; refine Hid.out ?_))
  refine Lib.hid ?_
  clear ck0
  replace v3 := v3.trn t' n_v3_v7.out
  replace v4 := v4.trn t' n_v4_v7.out
  rw [← e2.out] at r'
  replace HD := Lib.hid (HD.out.trn HL_v7.out t')
  clear t' v7
  have v7 := r'
  clear r'
  go_wp2_with (first | ((with_reducible refine storeOut (B' := none) (q' := 0) (n' := 0) (zs := []) v7 ln2 rfl ?_ ?_ ?_ ?_); rfl; rfl; rfl; intro w' r' t'; refine Hid.out ?_))
  refine Lib.hid ?_
  replace v3 := v3.trn t' n_v3_v7.out
  replace v4 := v4.trn t' n_v4_v7.out
  rw [← e3.out] at r'
  replace HD := Lib.hid (HD.out.trn HL_v7.out t')
  clear t' v7
  have v7 := r'
  clear r'
  go_wp2_with (first | ((with_reducible refine load33 v3 hl ?_ ?_ ?_); rfl; rfl) | ((with_reducible refine loadI v4 ?_ ?_ ?_); rfl; rfl) | (go_at_call 12; (with_reducible refine (C1.out _ (hm.dn HD.out) (T.dn HD.out)).mono ?_); rintro e w' ⟨ma, rfl, oa', ua, d'⟩; refine Hid.out ?_))
  refine Lib.hid ?_
  replace v3 := v3.dn d'
  replace v4 := v4.dn d'
  replace v7 := v7.dn d'
  replace HD := Lib.hid (HD.out.trans d')
  clear d'
  have lma := oa'.out.len
  have oa := Lib.hid oa'.out
  go_wp2_with (first | ((with_reducible refine wpList_alloc zeroMach ?_ ?_); rfl; intro b_v8 w' nn; refine Hid.out ?_))
  refine Lib.hid ?_
  have n_v3_v8 := Lib.hid (nn.ne _ v3.lt)
  have n_v4_v8 := Lib.hid (nn.ne _ v4.lt)
  have n_v7_v8 := Lib.hid (nn.ne _ v7.lt)
  have HL_v8 : Hid (W.heap.size ≤ b_v8) := Lib.hid (Blk.hi nn HD.out.size)
  have d' := nn.dn
  replace v3 := v3.dn d'
  replace v4 := v4.dn d'
  replace v7 := v7.dn d'
  replace oa := Lib.hid (oa.out.dn d')
  replace HD := Lib.hid (HD.out.trans d')
  have v8 := nn.blk
  clear d' nn
  go_wp2_with (first | ((with_reducible refine wpList_alloc zeroTrap ?_ ?_); rfl; intro b_v9 w' nn; refine Hid.out ?_))
  refine Lib.hid ?_
  have n_v3_v9 := Lib.hid (nn.ne _ v3.lt)
  have n_v4_v9 := Lib.hid (nn.ne _ v4.lt)
  have n_v7_v9 := Lib.hid (nn.ne _ v7.lt)
  have n_v8_v9 := Lib.hid (nn.ne _ v8.lt)
  have HL_v9 : Hid (W.heap.size ≤ b_v9) := Lib.hid (Blk.hi nn HD.out.size)
  have d' := nn.dn
  replace v3 := v3.dn d'
  replace v4 := v4.dn d'
  replace v7 := v7.dn d'
  replace v8 := v8.dn d'
  replace oa := Lib.hid (oa.out.dn d')
  replace HD := Lib.hid (HD.out.trans d')
  have v9 := nn.blk
  clear d' nn
  go_wp2_with (first | ((with_reducible refine store33 ma lma v8 zlen ?_ ?_ ?_ ?_); rfl; rfl; rfl; intro w' r' t'; refine Hid.out ?_))
  refine Lib.hid ?_
  replace oa := Lib.hid (oa.out.trn v8 (NoU8.mach _) t')
  replace v3 := v3.trn t' n_v3_v8.out
  replace v4 := v4.trn t' n_v4_v8.out
  replace v7 := v7.trn t' n_v7_v8.out
  replace v9 := v9.trn t' n_v8_v9.out.symm
  replace HD := Lib.hid (HD.out.trn HL_v8.out t')
  clear t' v8
  have v8 := r'
  clear r'
  go_wp2_with (first | ((with_reducible refine storeTrap (k := r.k) (v := r.v) v9 ?_ ?_ ?_ ?_); rfl; rfl; rfl; intro w' r' t'; refine Hid.out ?_))
  refine Lib.hid ?_
  replace oa := Lib.hid (oa.out.trn v9 (NoU8.trap _ _) t')
  replace v3 := v3.trn t' n_v3_v9.out
  replace v4 := v4.trn t' n_v4_v9.out
  replace v7 := v7.trn t' n_v7_v9.out
  replace v8 := v8.trn t' n_v8_v9.out
  replace HD := Lib.hid (HD.out.trn HL_v9.out t')
  clear t' v9
  have v9 := r'
  clear r'
  go_wp2_with (first | ((with_reducible refine load33 v7 ln3 ?_ ?_ ?_); rfl; rfl) | ((with_reducible refine loadI v4 ?_ ?_ ?_); rfl; rfl) | (go_at_call 12; (with_reducible refine (C2.out _ (hn3.dn HD.out) (T.dn HD.out)).mono ?_); rintro e w' ⟨mb, rfl, ob', ub, d'⟩; refine Hid.out ?_))
  refine Lib.hid ?_
  replace v3 := v3.dn d'
  replace v4 := v4.dn d'
  replace v7 := v7.dn d'
  replace v8 := v8.dn d'
  replace v9 := v9.dn d'
  replace oa := Lib.hid (oa.out.dn d')
  replace HD := Lib.hid (HD.out.trans d')
  clear d'
  have lmb := ob'.out.len
  have nt : mb.t = tm := by rw [ub.out.exd.t]; exact t3.out
  have nh : mb.h = !m.h := by rw [ub.out.exd.h]; exact b3.out
  have ny : mb.ys.length = 0 := by rw [ub.out.exd.ys, y3.out]; rfl
  have qc : ∀ w, (Op.equalIn 10000 26 (.agg (ints .u32 ma.c)) (.agg (ints .u32 mb.c))).run Tryd.prog w = .ok true w := fun w => by rw [ua.out.exd.c, ub.out.exd.c]; exact eq29_self (by rw [← ua.out.exd.c]; exact lma) w
  have ob := Lib.hid ob'.out
  go_wp2_with (first | ((with_reducible refine wpList_alloc zeroMach ?_ ?_); rfl; intro b_v10 w' nn; refine Hid.out ?_))
  refine Lib.hid ?_
  have n_v3_v10 := Lib.hid (nn.ne _ v3.lt)
  have n_v4_v10 := Lib.hid (nn.ne _ v4.lt)
  have n_v7_v10 := Lib.hid (nn.ne _ v7.lt)
  have n_v8_v10 := Lib.hid (nn.ne _ v8.lt)
  have n_v9_v10 := Lib.hid (nn.ne _ v9.lt)
  have HL_v10 : Hid (W.heap.size ≤ b_v10) := Lib.hid (Blk.hi nn HD.out.size)
  have d' := nn.dn
  replace v3 := v3.dn d'
  replace v4 := v4.dn d'
  replace v7 := v7.dn d'
  replace v8 := v8.dn d'
  replace v9 := v9.dn d'
  replace oa := Lib.hid (oa.out.dn d')
  replace ob := Lib.hid (ob.out.dn d')
  replace HD := Lib.hid (HD.out.trans d')
  have v10 := nn.blk
  clear d' nn
  go_wp2_with (first | ((with_reducible refine wpList_alloc zeroTrap ?_ ?_); rfl; intro b_v11 w' nn; refine Hid.out ?_))
  refine Lib.hid ?_
  have n_v3_v11 := Lib.hid (nn.ne _ v3.lt)
  have n_v4_v11 := Lib.hid (nn.ne _ v4.lt)
  have n_v7_v11 := Lib.hid (nn.ne _ v7.lt)
  have n_v8_v11 := Lib.hid (nn.ne _ v8.lt)
  have n_v9_v11 := Lib.hid (nn.ne _ v9.lt)
  have n_v10_v11 := Lib.hid (nn.ne _ v10.lt)
  have HL_v11 : Hid (W.heap.size ≤ b_v11) := Lib.hid (Blk.hi nn HD.out.size)
  have d' := nn.dn
  replace v3 := v3.dn d'
  replace v4 := v4.dn d'
  replace v7 := v7.dn d'
  replace v8 := v8.dn d'
  replace v9 := v9.dn d'
  replace v10 := v10.dn d'
  replace oa := Lib.hid (oa.out.dn d')
  replace ob := Lib.hid (ob.out.dn d')
  replace HD := Lib.hid (HD.out.trans d')
  have v11 := nn.blk
  clear d' nn
  go_wp2_with (first | ((with_reducible refine store33 mb lmb v10 zlen ?_ ?_ ?_ ?_); rfl; rfl; rfl; intro w' r' t'; refine Hid.out ?_))
  refine Lib.hid ?_
  replace oa := Lib.hid (oa.out.trn v10 (NoU8.mach _) t')
  replace ob := Lib.hid (ob.out.trn v10 (NoU8.mach _) t')
  replace v3 := v3.trn t' n_v3_v10.out
  replace v4 := v4.trn t' n_v4_v10.out
  replace v7 := v7.trn t' n_v7_v10.out
  replace v8 := v8.trn t' n_v8_v10.out
  replace v9 := v9.trn t' n_v9_v10.out
  replace v11 := v11.trn t' n_v10_v11.out.symm
  replace HD := Lib.hid (HD.out.trn HL_v10.out t')
  clear t' v10
  have v10 := r'
  clear r'
  go_wp2_with (first | ((with_reducible refine storeTrap (k := r.k) (v := r.v) v11 ?_ ?_ ?_ ?_); rfl; rfl; rfl; intro w' r' t'; refine Hid.out ?_))
  refine Lib.hid ?_
  replace oa := Lib.hid (oa.out.trn v11 (NoU8.trap _ _) t')
  replace ob := Lib.hid (ob.out.trn v11 (NoU8.trap _ _) t')
  replace v3 := v3.trn t' n_v3_v11.out
  replace v4 := v4.trn t' n_v4_v11.out
  replace v7 := v7.trn t' n_v7_v11.out
  replace v8 := v8.trn t' n_v8_v11.out
  replace v9 := v9.trn t' n_v9_v11.out
  replace v10 := v10.trn t' n_v10_v11.out
  replace HD := Lib.hid (HD.out.trn HL_v11.out t')
  clear t' v11
  have v11 := r'
  clear r'
  have ck0 := v8.mem lma
  have ck1 := v10.mem lmb
  go_wp2_with (first | ((with_reducible refine loadTrap v9 ?_ ?_ ?_); rfl; rfl) | ((with_reducible refine loadTrap v11 ?_ ?_ ?_); rfl; rfl) | ((with_reducible refine loadCore v8 lma ?_ ?_ ?_); rfl; rfl) | ((with_reducible refine loadCore v10 lmb ?_ ?_ ?_); rfl; rfl) | (go_at_call 16; (with_reducible refine (CS.out _ ma mb oa.out ob.out ua.out.exd ub.out.exd).mono ?_); rintro e w' ⟨rfl, d'⟩; refine Hid.out ?_))
  refine Lib.hid ?_
  clear ck0 ck1
  replace v3 := v3.dn d'
  replace v4 := v4.dn d'
  replace v7 := v7.dn d'
  replace v8 := v8.dn d'
  replace v9 := v9.dn d'
  replace v10 := v10.dn d'
  replace v11 := v11.dn d'
  replace oa := Lib.hid (oa.out.dn d')
  replace ob := Lib.hid (ob.out.dn d')
  replace HD := Lib.hid (HD.out.trans d')
  clear d'
  have ck0 := v10.time lmb
  rw [nt] at ck0
  have ck1 := v10.halted lmb
  rw [nh] at ck1
  have ck2 := v3.halted hl
  have ck3 := v10.out lmb
  go_wp2_with (first | ((with_reducible refine load33 v3 hl ?_ ?_ ?_); rfl; rfl) | ((with_reducible refine store33 m hl v7 ln3 ?_ ?_ ?_ ?_); rfl; rfl; rfl; intro w' r' t'; refine Hid.out ?_))
  refine Lib.hid ?_
  clear ck0 ck1 ck2 ck3
  replace oa := Lib.hid (oa.out.trn v7 (NoU8.mach _) t')
  replace ob := Lib.hid (ob.out.trn v7 (NoU8.mach _) t')
  replace v3 := v3.trn t' n_v3_v7.out
  replace v4 := v4.trn t' n_v4_v7.out
  replace v8 := v8.trn t' n_v7_v8.out.symm
  replace v9 := v9.trn t' n_v7_v9.out.symm
  replace v10 := v10.trn t' n_v7_v10.out.symm
  replace v11 := v11.trn t' n_v7_v11.out.symm
  replace HD := Lib.hid (HD.out.trn HL_v7.out t')
  clear t' v7
  have v7 := r'
  clear r'
  have ck0 := v3.word hl 16 rfl
  rw [hpc] at ck0
  go_wp2_with (first | ((with_reducible refine storeWord (i := 16) (u := (p + 16) % 4294967296) v7 hl ?_ ?_ ?_ ?_ ?_); rfl; rfl; rfl; rfl; intro w' r' t'; refine Hid.out ?_))
  refine Lib.hid ?_
  clear ck0
  replace oa := Lib.hid (oa.out.trn v7 (NoU8.mach _) t')
  replace ob := Lib.hid (ob.out.trn v7 (NoU8.mach _) t')
  replace v3 := v3.trn t' n_v3_v7.out
  replace v4 := v4.trn t' n_v4_v7.out
  replace v8 := v8.trn t' n_v7_v8.out.symm
  replace v9 := v9.trn t' n_v7_v9.out.symm
  replace v10 := v10.trn t' n_v7_v10.out.symm
  replace v11 := v11.trn t' n_v7_v11.out.symm
  rw [← e4.out] at r'
  replace HD := Lib.hid (HD.out.trn HL_v7.out t')
  clear t' v7
  have v7 := r'
  clear r'
  go_wp2_with (first | ((with_reducible refine load33 v7 ln4 ?_ ?_ ?_); rfl; rfl) | ((with_reducible refine loadI v4 ?_ ?_ ?_); rfl; rfl) | (go_at_call 12; (with_reducible refine (C3.out _ (hn4.dn HD.out) (T.dn HD.out)).mono ?_); rintro e w' ⟨mc, rfl, oc', uc, d'⟩; refine Hid.out ?_))
  refine Lib.hid ?_
  replace v3 := v3.dn d'
  replace v4 := v4.dn d'
  replace v7 := v7.dn d'
  replace v8 := v8.dn d'
  replace v9 := v9.dn d'
  replace v10 := v10.dn d'
  replace v11 := v11.dn d'
  replace oa := Lib.hid (oa.out.dn d')
  replace ob := Lib.hid (ob.out.dn d')
  replace HD := Lib.hid (HD.out.trans d')
  clear d'
  have lmc := oc'.out.len
  have oc := Lib.hid oc'.out
  go_wp2_with (first | ((with_reducible refine wpList_alloc zeroMach ?_ ?_); rfl; intro b_v12 w' nn; refine Hid.out ?_))
  refine Lib.hid ?_
  have n_v3_v12 := Lib.hid (nn.ne _ v3.lt)
  have n_v4_v12 := Lib.hid (nn.ne _ v4.lt)
  have n_v7_v12 := Lib.hid (nn.ne _ v7.lt)
  have n_v8_v12 := Lib.hid (nn.ne _ v8.lt)
  have n_v9_v12 := Lib.hid (nn.ne _ v9.lt)
  have n_v10_v12 := Lib.hid (nn.ne _ v10.lt)
  have n_v11_v12 := Lib.hid (nn.ne _ v11.lt)
  have HL_v12 : Hid (W.heap.size ≤ b_v12) := Lib.hid (Blk.hi nn HD.out.size)
  have d' := nn.dn
  replace v3 := v3.dn d'
  replace v4 := v4.dn d'
  replace v7 := v7.dn d'
  replace v8 := v8.dn d'
  replace v9 := v9.dn d'
  replace v10 := v10.dn d'
  replace v11 := v11.dn d'
  replace oa := Lib.hid (oa.out.dn d')
  replace ob := Lib.hid (ob.out.dn d')
  replace oc := Lib.hid (oc.out.dn d')
  replace HD := Lib.hid (HD.out.trans d')
  have v12 := nn.blk
  clear d' nn
  go_wp2_with (first | ((with_reducible refine wpList_alloc zeroTrap ?_ ?_); rfl; intro b_v13 w' nn; refine Hid.out ?_))
  refine Lib.hid ?_
  have n_v3_v13 := Lib.hid (nn.ne _ v3.lt)
  have n_v4_v13 := Lib.hid (nn.ne _ v4.lt)
  have n_v7_v13 := Lib.hid (nn.ne _ v7.lt)
  have n_v8_v13 := Lib.hid (nn.ne _ v8.lt)
  have n_v9_v13 := Lib.hid (nn.ne _ v9.lt)
  have n_v10_v13 := Lib.hid (nn.ne _ v10.lt)
  have n_v11_v13 := Lib.hid (nn.ne _ v11.lt)
  have n_v12_v13 := Lib.hid (nn.ne _ v12.lt)
  have HL_v13 : Hid (W.heap.size ≤ b_v13) := Lib.hid (Blk.hi nn HD.out.size)
  have d' := nn.dn
  replace v3 := v3.dn d'
  replace v4 := v4.dn d'
  replace v7 := v7.dn d'
  replace v8 := v8.dn d'
  replace v9 := v9.dn d'
  replace v10 := v10.dn d'
  replace v11 := v11.dn d'
  replace v12 := v12.dn d'
  replace oa := Lib.hid (oa.out.dn d')
  replace ob := Lib.hid (ob.out.dn d')
  replace oc := Lib.hid (oc.out.dn d')
  replace HD := Lib.hid (HD.out.trans d')
  have v13 := nn.blk
  clear d' nn
  go_wp2_with (first | ((with_reducible refine store33 mc lmc v12 zlen ?_ ?_ ?_ ?_); rfl; rfl; rfl; intro w' r' t'; refine Hid.out ?_))
  refine Lib.hid ?_
  replace oa := Lib.hid (oa.out.trn v12 (NoU8.mach _) t')
  replace ob := Lib.hid (ob.out.trn v12 (NoU8.mach _) t')
  replace oc := Lib.hid (oc.out.trn v12 (NoU8.mach _) t')
  replace v3 := v3.trn t' n_v3_v12.out
  replace v4 := v4.trn t' n_v4_v12.out
  replace v7 := v7.trn t' n_v7_v12.out
  replace v8 := v8.trn t' n_v8_v12.out
  replace v9 := v9.trn t' n_v9_v12.out
  replace v10 := v10.trn t' n_v10_v12.out
  replace v11 := v11.trn t' n_v11_v12.out
  replace v13 := v13.trn t' n_v12_v13.out.symm
  replace HD := Lib.hid (HD.out.trn HL_v12.out t')
  clear t' v12
  have v12 := r'
  clear r'
  go_wp2_with (first | ((with_reducible refine storeTrap (k := r2.k) (v := r2.v) v13 ?_ ?_ ?_ ?_); rfl; rfl; rfl; intro w' r' t'; refine Hid.out ?_))
  refine Lib.hid ?_
  replace oa := Lib.hid (oa.out.trn v13 (NoU8.trap _ _) t')
  replace ob := Lib.hid (ob.out.trn v13 (NoU8.trap _ _) t')
  replace oc := Lib.hid (oc.out.trn v13 (NoU8.trap _ _) t')
  replace v3 := v3.trn t' n_v3_v13.out
  replace v4 := v4.trn t' n_v4_v13.out
  replace v7 := v7.trn t' n_v7_v13.out
  replace v8 := v8.trn t' n_v8_v13.out
  replace v9 := v9.trn t' n_v9_v13.out
  replace v10 := v10.trn t' n_v10_v13.out
  replace v11 := v11.trn t' n_v11_v13.out
  replace v12 := v12.trn t' n_v12_v13.out
  replace HD := Lib.hid (HD.out.trn HL_v13.out t')
  clear t' v13
  have v13 := r'
  clear r'
  have ck0 := v4.iop
  have ck1 := v12.word lmc 16 rfl
  have ck2 := v8.word lma 16 rfl
  go_wp2_with (first | ((with_reducible refine loadTrap v13 ?_ ?_ ?_); rfl; rfl) | ((with_reducible refine loadTrap v9 ?_ ?_ ?_); rfl; rfl) | ((with_reducible refine loadRegs v12 lmc ?_ ?_ ?_); rfl; rfl) | ((with_reducible refine loadRegs v8 lma ?_ ?_ ?_); rfl; rfl) | fail)
  go_ret
  exact ⟨rfl, HD.out⟩
set_option maxRecDepth 100000 in
set_option maxHeartbeats 2000000 in
theorem it_19 (m : Mc) (op rd ra rb imm : Int) (tm : Int) (W : World) (hm : m.Ok W) (T : Is.Tabs W) (i0 : -2147483648 ≤ imm) (i1 : imm < 2147483648) (hx : m.xs.length ≤ 9223372036854775807) (hy : m.ys.length ≤ 9223372036854775807) (b0 : 0 ≤ tm) (b1 : tm < 18446744073709551616) (hf : decide (m.xs.length ≤ 600 ∧ m.ys.length ≤ 600) = true) (hpl : (Is.M.ok op rd ra rb imm && !Is.M.priv op) = true) (p P : Int) (hpc : m.c.getD 16 0 = p) (r r2 : M.Res) (h1 : M.ex m.c m.xs op rd ra rb imm = r) (h2 : M.ex (m.c.set 16 ((p + 16) % 4294967296)) m.xs op rd ra rb imm = r2) (p0 : 0 ≤ p) (p1 : p < 4294967296) (hk : r2.k = r.k ∧ r2.v = r.v) (j1 : (op == 18) = false) (j2 : (op == 19) = true) :
    Calls Tryd.prog 8 #[.agg (mach m), .agg (ins op rd ra rb imm), .int .u64 tm] W fun e W' => e = .returned (.bool true) ∧ Dn W W' := by
  have hl := hm.len
  have hc := hm.core
  have hs : m.xs.length ≤ 100000 := by simp only [decide_eq_true_eq] at hf; omega
  have hvp : Is.M.ok op rd ra rb imm = true ∧ Is.M.priv op = false := by simpa using hpl
  have C0 := Lib.hid fun w => fun (t : Is.Tabs w) => awake w t
  have CF := Lib.hid fun w => fun (ow : m.Ok w) => rfew m true w ow hx hy hf
  have CP := Lib.hid (rPlain op rd ra rb imm true i0 i1 hpl)
  obtain ⟨n1, e1⟩ : ∃ n1 : Mc, n1 = { m with t := tm } := ⟨_, rfl⟩
  obtain ⟨n2, e2⟩ : ∃ n2 : Mc, n2 = { n1 with h := !m.h } := ⟨_, rfl⟩
  obtain ⟨n3, e3⟩ : ∃ n3 : Mc, n3 = { n2 with B := none, q := 0, ys := [] } := ⟨_, rfl⟩
  obtain ⟨n4, e4⟩ : ∃ n4 : Mc, n4 = { m with c := m.c.set 16 ((p + 16) % 4294967296) } := ⟨_, rfl⟩
  have c1 : n1.c = m.c := by rw [e1]
  have c2 : n2.c = m.c := by rw [e2, e1]
  have c3 : n3.c = m.c := by rw [e3, e2, e1]
  have c4 : n4.c = m.c.set 16 ((p + 16) % 4294967296) := by rw [e4]
  have ln1 : n1.c.length = 29 := by rw [c1]; exact hl
  have ln2 : n2.c.length = 29 := by rw [c2]; exact hl
  have ln3 : n3.c.length = 29 := by rw [c3]; exact hl
  have ln4 : n4.c.length = 29 := by rw [c4, List.length_set]; exact hl
  have x3 : n3.xs = m.xs := by rw [e3, e2, e1]
  have x4 : n4.xs = m.xs := by rw [e4]
  have t3 : n3.t = tm := by rw [e3, e2, e1]
  have y3 : n3.ys = [] := by rw [e3]
  have b3 : n3.h = !m.h := by rw [e3, e2]
  have h2h : n1.h = m.h := by rw [e1]
  have hn3 : n3.Ok W := by rw [e3, e2, e1]; exact ⟨hc, hm.mem, bs_nil W, b0, b1⟩
  have hn4 : n4.Ok W := by rw [e4]; exact ⟨hc.set _ _ (M.wrap_rng _).1 (M.wrap_rng _).2, hm.mem, hm.out, hm.t0, hm.t1⟩
  have C1 := Lib.hid fun w => fun (ow : m.Ok w) (t : Is.Tabs w) => (by have h := xExec m op rd ra rb imm w ow hs t i0 i1 hvp.1 hvp.2; rw [h1] at h; exact h : Calls Tryd.prog 12 #[.agg (mach m), .agg (ins op rd ra rb imm)] w fun e W' => ExRet w m r e W')
  have C2 := Lib.hid fun w => fun (ow : n3.Ok w) (t : Is.Tabs w) => (by have h := xExec n3 op rd ra rb imm w ow (by rw [x3]; exact hs) t i0 i1 hvp.1 hvp.2; rw [c3, x3, h1] at h; exact h : Calls Tryd.prog 12 #[.agg (mach n3), .agg (ins op rd ra rb imm)] w fun e W' => ExRet w n3 r e W')
  have C3 := Lib.hid fun w => fun (ow : n4.Ok w) (t : Is.Tabs w) => (by have h := xExec n4 op rd ra rb imm w ow (by rw [x4]; exact hs) t i0 i1 hvp.1 hvp.2; rw [c4, x4, h2] at h; exact h : Calls Tryd.prog 12 #[.agg (mach n4), .agg (ins op rd ra rb imm)] w fun e W' => ExRet w n4 r2 e W')
  have hz : r.z.length ≤ 100000 := by rw [← h1, M.ex_len]; exact hs
  have CS := Lib.hid fun (w : World) (ma mb : Mc) (oa : ma.Ok w) (ob : mb.Ok w) (ea : Exd m r ma) (eb : Exd n3 r mb) => same_yes ma.A mb.A ma.k mb.k ma.xs.length mb.xs.length ma.xs mb.xs w oa.mem ob.mem rfl rfl (ea.xs.trans eb.xs.symm) (by rw [ea.xs]; exact hz)
  have qt := eqTrap_self r.k r.v
  have qv : ∀ w, (Op.equalIn 10000 37 (.agg #[.int .i64 r2.k, .int .u32 r2.v]) (.agg #[.int .i64 r.k, .int .u32 r.v])).run Tryd.prog w = .ok true w := fun w => by rw [hk.1, hk.2]; exact eqTrap_self _ _ w
  have hbb : ((!m.h) == m.h) = false := by cases m.h <;> rfl
  replace e1 := Lib.hid e1
  replace e2 := Lib.hid e2
  replace e3 := Lib.hid e3
  replace e4 := Lib.hid e4
  replace t3 := Lib.hid t3
  replace y3 := Lib.hid y3
  replace b3 := Lib.hid b3
  clear hf hpl hvp h1 h2 c1 c2 c3 c4 x3 x4 hz hk
  have HD := Lib.hid (Dn.refl W)
  go_enter Tryd.func8, Tryd.ntmps8
  go_wp2_with (first | ((with_reducible refine wpList_box (vs := (mach m)) ?_ ?_ ?_); rfl; rfl; intro b_v3 w' nn; refine Hid.out ?_))
  refine Lib.hid ?_
  have HL_v3 : Hid (W.heap.size ≤ b_v3) := Lib.hid (Blk.hi nn HD.out.size)
  have d' := nn.dn
  replace HD := Lib.hid (HD.out.trans d')
  have v3 := nn.blk
  clear d' nn
  go_wp2_with (first | ((with_reducible refine wpList_box (vs := (ins op rd ra rb imm)) ?_ ?_ ?_); rfl; rfl; intro b_v4 w' nn; refine Hid.out ?_))
  refine Lib.hid ?_
  have n_v3_v4 := Lib.hid (nn.ne _ v3.lt)
  have HL_v4 : Hid (W.heap.size ≤ b_v4) := Lib.hid (Blk.hi nn HD.out.size)
  have d' := nn.dn
  replace v3 := v3.dn d'
  replace HD := Lib.hid (HD.out.trans d')
  have v4 := nn.blk
  clear d' nn
  go_wp2_with (first | (go_at_call 9; (with_reducible refine (C0.out _ (T.dn HD.out)).mono ?_); rintro e w' ⟨rfl, d'⟩; refine Hid.out ?_))
  refine Lib.hid ?_
  replace v3 := v3.dn d'
  replace v4 := v4.dn d'
  replace HD := Lib.hid (HD.out.trans d')
  clear d'
  go_wp2_with (first | ((with_reducible refine load33 v3 hl ?_ ?_ ?_); rfl; rfl) | (go_at_call 10; (with_reducible refine (CF.out _ (hm.dn HD.out)).mono ?_); rintro e w' ⟨rfl, d'⟩; refine Hid.out ?_))
  refine Lib.hid ?_
  replace v3 := v3.dn d'
  replace v4 := v4.dn d'
  replace HD := Lib.hid (HD.out.trans d')
  clear d'
  go_wp2_with (first | ((with_reducible refine loadI v4 ?_ ?_ ?_); rfl; rfl) | (go_at_call 11; (with_reducible refine (CP.out _).mono ?_); rintro e w' ⟨rfl, d'⟩; refine Hid.out ?_))
  refine Lib.hid ?_
  replace v3 := v3.dn d'
  replace v4 := v4.dn d'
  replace HD := Lib.hid (HD.out.trans d')
  clear d'
  go_wp2_with (first | ((with_reducible refine load33 v3 hl ?_ ?_ ?_); rfl; rfl) | ((with_reducible refine wpList_alloc zeroMach ?_ ?_); rfl; intro b_v7 w' nn; refine Hid.out ?_))
  refine Lib.hid ?_
  have n_v3_v7 := Lib.hid (nn.ne _ v3.lt)
  have n_v4_v7 := Lib.hid (nn.ne _ v4.lt)
  have HL_v7 : Hid (W.heap.size ≤ b_v7) := Lib.hid (Blk.hi nn HD.out.size)
  have d' := nn.dn
  replace v3 := v3.dn d'
  replace v4 := v4.dn d'
  replace HD := Lib.hid (HD.out.trans d')
  have v7 := nn.blk
  clear d' nn
  go_wp2_with (first | ((with_reducible refine store33 m hl v7 zlen ?_ ?_ ?_ ?_); rfl; rfl; rfl; intro w' r' t'; refine Hid.out ?_))
  refine Lib.hid ?_
  replace v3 := v3.trn t' n_v3_v7.out
  replace v4 := v4.trn t' n_v4_v7.out
  replace HD := Lib.hid (HD.out.trn HL_v7.out t')
  clear t' v7
  have v7 := r'
  clear r'
  go_wp2_with (first | ((with_reducible refine storeTime (u := tm) v7 hl ?_ ?_ ?_ ?_); rfl; rfl; rfl; intro w' r' t'; refine Hid.out ?_))
  refine Lib.hid ?_
  replace v3 := v3.trn t' n_v3_v7.out
  replace v4 := v4.trn t' n_v4_v7.out
  rw [← e1.out] at r'
  replace HD := Lib.hid (HD.out.trn HL_v7.out t')
  clear t' v7
  have v7 := r'
  clear r'
  have ck0 := v3.halted hl
  go_wp2_with (first | ((with_reducible refine storeHalted (u := !m.h) v7 ln1 ?_ ?_ ?_ ?_); rfl; rfl; rfl; intro w' r' t'; refine Hid.out ?_))
  refine Lib.hid ?_
  clear ck0
  replace v3 := v3.trn t' n_v3_v7.out
  replace v4 := v4.trn t' n_v4_v7.out
  rw [← e2.out] at r'
  replace HD := Lib.hid (HD.out.trn HL_v7.out t')
  clear t' v7
  have v7 := r'
  clear r'
  go_wp2_with (first | ((with_reducible refine storeOut (B' := none) (q' := 0) (n' := 0) (zs := []) v7 ln2 rfl ?_ ?_ ?_ ?_); rfl; rfl; rfl; intro w' r' t'; refine Hid.out ?_))
  refine Lib.hid ?_
  replace v3 := v3.trn t' n_v3_v7.out
  replace v4 := v4.trn t' n_v4_v7.out
  rw [← e3.out] at r'
  replace HD := Lib.hid (HD.out.trn HL_v7.out t')
  clear t' v7
  have v7 := r'
  clear r'
  go_wp2_with (first | ((with_reducible refine load33 v3 hl ?_ ?_ ?_); rfl; rfl) | ((with_reducible refine loadI v4 ?_ ?_ ?_); rfl; rfl) | (go_at_call 12; (with_reducible refine (C1.out _ (hm.dn HD.out) (T.dn HD.out)).mono ?_); rintro e w' ⟨ma, rfl, oa', ua, d'⟩; refine Hid.out ?_))
  refine Lib.hid ?_
  replace v3 := v3.dn d'
  replace v4 := v4.dn d'
  replace v7 := v7.dn d'
  replace HD := Lib.hid (HD.out.trans d')
  clear d'
  have lma := oa'.out.len
  have oa := Lib.hid oa'.out
  go_wp2_with (first | ((with_reducible refine wpList_alloc zeroMach ?_ ?_); rfl; intro b_v8 w' nn; refine Hid.out ?_))
  refine Lib.hid ?_
  have n_v3_v8 := Lib.hid (nn.ne _ v3.lt)
  have n_v4_v8 := Lib.hid (nn.ne _ v4.lt)
  have n_v7_v8 := Lib.hid (nn.ne _ v7.lt)
  have HL_v8 : Hid (W.heap.size ≤ b_v8) := Lib.hid (Blk.hi nn HD.out.size)
  have d' := nn.dn
  replace v3 := v3.dn d'
  replace v4 := v4.dn d'
  replace v7 := v7.dn d'
  replace oa := Lib.hid (oa.out.dn d')
  replace HD := Lib.hid (HD.out.trans d')
  have v8 := nn.blk
  clear d' nn
  go_wp2_with (first | ((with_reducible refine wpList_alloc zeroTrap ?_ ?_); rfl; intro b_v9 w' nn; refine Hid.out ?_))
  refine Lib.hid ?_
  have n_v3_v9 := Lib.hid (nn.ne _ v3.lt)
  have n_v4_v9 := Lib.hid (nn.ne _ v4.lt)
  have n_v7_v9 := Lib.hid (nn.ne _ v7.lt)
  have n_v8_v9 := Lib.hid (nn.ne _ v8.lt)
  have HL_v9 : Hid (W.heap.size ≤ b_v9) := Lib.hid (Blk.hi nn HD.out.size)
  have d' := nn.dn
  replace v3 := v3.dn d'
  replace v4 := v4.dn d'
  replace v7 := v7.dn d'
  replace v8 := v8.dn d'
  replace oa := Lib.hid (oa.out.dn d')
  replace HD := Lib.hid (HD.out.trans d')
  have v9 := nn.blk
  clear d' nn
  go_wp2_with (first | ((with_reducible refine store33 ma lma v8 zlen ?_ ?_ ?_ ?_); rfl; rfl; rfl; intro w' r' t'; refine Hid.out ?_))
  refine Lib.hid ?_
  replace oa := Lib.hid (oa.out.trn v8 (NoU8.mach _) t')
  replace v3 := v3.trn t' n_v3_v8.out
  replace v4 := v4.trn t' n_v4_v8.out
  replace v7 := v7.trn t' n_v7_v8.out
  replace v9 := v9.trn t' n_v8_v9.out.symm
  replace HD := Lib.hid (HD.out.trn HL_v8.out t')
  clear t' v8
  have v8 := r'
  clear r'
  go_wp2_with (first | ((with_reducible refine storeTrap (k := r.k) (v := r.v) v9 ?_ ?_ ?_ ?_); rfl; rfl; rfl; intro w' r' t'; refine Hid.out ?_))
  refine Lib.hid ?_
  replace oa := Lib.hid (oa.out.trn v9 (NoU8.trap _ _) t')
  replace v3 := v3.trn t' n_v3_v9.out
  replace v4 := v4.trn t' n_v4_v9.out
  replace v7 := v7.trn t' n_v7_v9.out
  replace v8 := v8.trn t' n_v8_v9.out
  replace HD := Lib.hid (HD.out.trn HL_v9.out t')
  clear t' v9
  have v9 := r'
  clear r'
  go_wp2_with (first | ((with_reducible refine load33 v7 ln3 ?_ ?_ ?_); rfl; rfl) | ((with_reducible refine loadI v4 ?_ ?_ ?_); rfl; rfl) | (go_at_call 12; (with_reducible refine (C2.out _ (hn3.dn HD.out) (T.dn HD.out)).mono ?_); rintro e w' ⟨mb, rfl, ob', ub, d'⟩; refine Hid.out ?_))
  refine Lib.hid ?_
  replace v3 := v3.dn d'
  replace v4 := v4.dn d'
  replace v7 := v7.dn d'
  replace v8 := v8.dn d'
  replace v9 := v9.dn d'
  replace oa := Lib.hid (oa.out.dn d')
  replace HD := Lib.hid (HD.out.trans d')
  clear d'
  have lmb := ob'.out.len
  have nt : mb.t = tm := by rw [ub.out.exd.t]; exact t3.out
  have nh : mb.h = !m.h := by rw [ub.out.exd.h]; exact b3.out
  have ny : mb.ys.length = 0 := by rw [ub.out.exd.ys, y3.out]; rfl
  have qc : ∀ w, (Op.equalIn 10000 26 (.agg (ints .u32 ma.c)) (.agg (ints .u32 mb.c))).run Tryd.prog w = .ok true w := fun w => by rw [ua.out.exd.c, ub.out.exd.c]; exact eq29_self (by rw [← ua.out.exd.c]; exact lma) w
  have ob := Lib.hid ob'.out
  go_wp2_with (first | ((with_reducible refine wpList_alloc zeroMach ?_ ?_); rfl; intro b_v10 w' nn; refine Hid.out ?_))
  refine Lib.hid ?_
  have n_v3_v10 := Lib.hid (nn.ne _ v3.lt)
  have n_v4_v10 := Lib.hid (nn.ne _ v4.lt)
  have n_v7_v10 := Lib.hid (nn.ne _ v7.lt)
  have n_v8_v10 := Lib.hid (nn.ne _ v8.lt)
  have n_v9_v10 := Lib.hid (nn.ne _ v9.lt)
  have HL_v10 : Hid (W.heap.size ≤ b_v10) := Lib.hid (Blk.hi nn HD.out.size)
  have d' := nn.dn
  replace v3 := v3.dn d'
  replace v4 := v4.dn d'
  replace v7 := v7.dn d'
  replace v8 := v8.dn d'
  replace v9 := v9.dn d'
  replace oa := Lib.hid (oa.out.dn d')
  replace ob := Lib.hid (ob.out.dn d')
  replace HD := Lib.hid (HD.out.trans d')
  have v10 := nn.blk
  clear d' nn
  go_wp2_with (first | ((with_reducible refine wpList_alloc zeroTrap ?_ ?_); rfl; intro b_v11 w' nn; refine Hid.out ?_))
  refine Lib.hid ?_
  have n_v3_v11 := Lib.hid (nn.ne _ v3.lt)
  have n_v4_v11 := Lib.hid (nn.ne _ v4.lt)
  have n_v7_v11 := Lib.hid (nn.ne _ v7.lt)
  have n_v8_v11 := Lib.hid (nn.ne _ v8.lt)
  have n_v9_v11 := Lib.hid (nn.ne _ v9.lt)
  have n_v10_v11 := Lib.hid (nn.ne _ v10.lt)
  have HL_v11 : Hid (W.heap.size ≤ b_v11) := Lib.hid (Blk.hi nn HD.out.size)
  have d' := nn.dn
  replace v3 := v3.dn d'
  replace v4 := v4.dn d'
  replace v7 := v7.dn d'
  replace v8 := v8.dn d'
  replace v9 := v9.dn d'
  replace v10 := v10.dn d'
  replace oa := Lib.hid (oa.out.dn d')
  replace ob := Lib.hid (ob.out.dn d')
  replace HD := Lib.hid (HD.out.trans d')
  have v11 := nn.blk
  clear d' nn
  go_wp2_with (first | ((with_reducible refine store33 mb lmb v10 zlen ?_ ?_ ?_ ?_); rfl; rfl; rfl; intro w' r' t'; refine Hid.out ?_))
  refine Lib.hid ?_
  replace oa := Lib.hid (oa.out.trn v10 (NoU8.mach _) t')
  replace ob := Lib.hid (ob.out.trn v10 (NoU8.mach _) t')
  replace v3 := v3.trn t' n_v3_v10.out
  replace v4 := v4.trn t' n_v4_v10.out
  replace v7 := v7.trn t' n_v7_v10.out
  replace v8 := v8.trn t' n_v8_v10.out
  replace v9 := v9.trn t' n_v9_v10.out
  replace v11 := v11.trn t' n_v10_v11.out.symm
  replace HD := Lib.hid (HD.out.trn HL_v10.out t')
  clear t' v10
  have v10 := r'
  clear r'
  go_wp2_with (first | ((with_reducible refine storeTrap (k := r.k) (v := r.v) v11 ?_ ?_ ?_ ?_); rfl; rfl; rfl; intro w' r' t'; refine Hid.out ?_))
  refine Lib.hid ?_
  replace oa := Lib.hid (oa.out.trn v11 (NoU8.trap _ _) t')
  replace ob := Lib.hid (ob.out.trn v11 (NoU8.trap _ _) t')
  replace v3 := v3.trn t' n_v3_v11.out
  replace v4 := v4.trn t' n_v4_v11.out
  replace v7 := v7.trn t' n_v7_v11.out
  replace v8 := v8.trn t' n_v8_v11.out
  replace v9 := v9.trn t' n_v9_v11.out
  replace v10 := v10.trn t' n_v10_v11.out
  replace HD := Lib.hid (HD.out.trn HL_v11.out t')
  clear t' v11
  have v11 := r'
  clear r'
  have ck0 := v8.mem lma
  have ck1 := v10.mem lmb
  go_wp2_with (first | ((with_reducible refine loadTrap v9 ?_ ?_ ?_); rfl; rfl) | ((with_reducible refine loadTrap v11 ?_ ?_ ?_); rfl; rfl) | ((with_reducible refine loadCore v8 lma ?_ ?_ ?_); rfl; rfl) | ((with_reducible refine loadCore v10 lmb ?_ ?_ ?_); rfl; rfl) | (go_at_call 16; (with_reducible refine (CS.out _ ma mb oa.out ob.out ua.out.exd ub.out.exd).mono ?_); rintro e w' ⟨rfl, d'⟩; refine Hid.out ?_))
  refine Lib.hid ?_
  clear ck0 ck1
  replace v3 := v3.dn d'
  replace v4 := v4.dn d'
  replace v7 := v7.dn d'
  replace v8 := v8.dn d'
  replace v9 := v9.dn d'
  replace v10 := v10.dn d'
  replace v11 := v11.dn d'
  replace oa := Lib.hid (oa.out.dn d')
  replace ob := Lib.hid (ob.out.dn d')
  replace HD := Lib.hid (HD.out.trans d')
  clear d'
  have ck0 := v10.time lmb
  rw [nt] at ck0
  have ck1 := v10.halted lmb
  rw [nh] at ck1
  have ck2 := v3.halted hl
  have ck3 := v10.out lmb
  go_wp2_with (first | ((with_reducible refine load33 v3 hl ?_ ?_ ?_); rfl; rfl) | ((with_reducible refine store33 m hl v7 ln3 ?_ ?_ ?_ ?_); rfl; rfl; rfl; intro w' r' t'; refine Hid.out ?_))
  refine Lib.hid ?_
  clear ck0 ck1 ck2 ck3
  replace oa := Lib.hid (oa.out.trn v7 (NoU8.mach _) t')
  replace ob := Lib.hid (ob.out.trn v7 (NoU8.mach _) t')
  replace v3 := v3.trn t' n_v3_v7.out
  replace v4 := v4.trn t' n_v4_v7.out
  replace v8 := v8.trn t' n_v7_v8.out.symm
  replace v9 := v9.trn t' n_v7_v9.out.symm
  replace v10 := v10.trn t' n_v7_v10.out.symm
  replace v11 := v11.trn t' n_v7_v11.out.symm
  replace HD := Lib.hid (HD.out.trn HL_v7.out t')
  clear t' v7
  have v7 := r'
  clear r'
  have ck0 := v3.word hl 16 rfl
  rw [hpc] at ck0
  go_wp2_with (first | ((with_reducible refine storeWord (i := 16) (u := (p + 16) % 4294967296) v7 hl ?_ ?_ ?_ ?_ ?_); rfl; rfl; rfl; rfl; intro w' r' t'; refine Hid.out ?_))
  refine Lib.hid ?_
  clear ck0
  replace oa := Lib.hid (oa.out.trn v7 (NoU8.mach _) t')
  replace ob := Lib.hid (ob.out.trn v7 (NoU8.mach _) t')
  replace v3 := v3.trn t' n_v3_v7.out
  replace v4 := v4.trn t' n_v4_v7.out
  replace v8 := v8.trn t' n_v7_v8.out.symm
  replace v9 := v9.trn t' n_v7_v9.out.symm
  replace v10 := v10.trn t' n_v7_v10.out.symm
  replace v11 := v11.trn t' n_v7_v11.out.symm
  rw [← e4.out] at r'
  replace HD := Lib.hid (HD.out.trn HL_v7.out t')
  clear t' v7
  have v7 := r'
  clear r'
  go_wp2_with (first | ((with_reducible refine load33 v7 ln4 ?_ ?_ ?_); rfl; rfl) | ((with_reducible refine loadI v4 ?_ ?_ ?_); rfl; rfl) | (go_at_call 12; (with_reducible refine (C3.out _ (hn4.dn HD.out) (T.dn HD.out)).mono ?_); rintro e w' ⟨mc, rfl, oc', uc, d'⟩; refine Hid.out ?_))
  refine Lib.hid ?_
  replace v3 := v3.dn d'
  replace v4 := v4.dn d'
  replace v7 := v7.dn d'
  replace v8 := v8.dn d'
  replace v9 := v9.dn d'
  replace v10 := v10.dn d'
  replace v11 := v11.dn d'
  replace oa := Lib.hid (oa.out.dn d')
  replace ob := Lib.hid (ob.out.dn d')
  replace HD := Lib.hid (HD.out.trans d')
  clear d'
  have lmc := oc'.out.len
  have oc := Lib.hid oc'.out
  go_wp2_with (first | ((with_reducible refine wpList_alloc zeroMach ?_ ?_); rfl; intro b_v12 w' nn; refine Hid.out ?_))
  refine Lib.hid ?_
  have n_v3_v12 := Lib.hid (nn.ne _ v3.lt)
  have n_v4_v12 := Lib.hid (nn.ne _ v4.lt)
  have n_v7_v12 := Lib.hid (nn.ne _ v7.lt)
  have n_v8_v12 := Lib.hid (nn.ne _ v8.lt)
  have n_v9_v12 := Lib.hid (nn.ne _ v9.lt)
  have n_v10_v12 := Lib.hid (nn.ne _ v10.lt)
  have n_v11_v12 := Lib.hid (nn.ne _ v11.lt)
  have HL_v12 : Hid (W.heap.size ≤ b_v12) := Lib.hid (Blk.hi nn HD.out.size)
  have d' := nn.dn
  replace v3 := v3.dn d'
  replace v4 := v4.dn d'
  replace v7 := v7.dn d'
  replace v8 := v8.dn d'
  replace v9 := v9.dn d'
  replace v10 := v10.dn d'
  replace v11 := v11.dn d'
  replace oa := Lib.hid (oa.out.dn d')
  replace ob := Lib.hid (ob.out.dn d')
  replace oc := Lib.hid (oc.out.dn d')
  replace HD := Lib.hid (HD.out.trans d')
  have v12 := nn.blk
  clear d' nn
  go_wp2_with (first | ((with_reducible refine wpList_alloc zeroTrap ?_ ?_); rfl; intro b_v13 w' nn; refine Hid.out ?_))
  refine Lib.hid ?_
  have n_v3_v13 := Lib.hid (nn.ne _ v3.lt)
  have n_v4_v13 := Lib.hid (nn.ne _ v4.lt)
  have n_v7_v13 := Lib.hid (nn.ne _ v7.lt)
  have n_v8_v13 := Lib.hid (nn.ne _ v8.lt)
  have n_v9_v13 := Lib.hid (nn.ne _ v9.lt)
  have n_v10_v13 := Lib.hid (nn.ne _ v10.lt)
  have n_v11_v13 := Lib.hid (nn.ne _ v11.lt)
  have n_v12_v13 := Lib.hid (nn.ne _ v12.lt)
  have HL_v13 : Hid (W.heap.size ≤ b_v13) := Lib.hid (Blk.hi nn HD.out.size)
  have d' := nn.dn
  replace v3 := v3.dn d'
  replace v4 := v4.dn d'
  replace v7 := v7.dn d'
  replace v8 := v8.dn d'
  replace v9 := v9.dn d'
  replace v10 := v10.dn d'
  replace v11 := v11.dn d'
  replace v12 := v12.dn d'
  replace oa := Lib.hid (oa.out.dn d')
  replace ob := Lib.hid (ob.out.dn d')
  replace oc := Lib.hid (oc.out.dn d')
  replace HD := Lib.hid (HD.out.trans d')
  have v13 := nn.blk
  clear d' nn
  go_wp2_with (first | ((with_reducible refine store33 mc lmc v12 zlen ?_ ?_ ?_ ?_); rfl; rfl; rfl; intro w' r' t'; refine Hid.out ?_))
  refine Lib.hid ?_
  replace oa := Lib.hid (oa.out.trn v12 (NoU8.mach _) t')
  replace ob := Lib.hid (ob.out.trn v12 (NoU8.mach _) t')
  replace oc := Lib.hid (oc.out.trn v12 (NoU8.mach _) t')
  replace v3 := v3.trn t' n_v3_v12.out
  replace v4 := v4.trn t' n_v4_v12.out
  replace v7 := v7.trn t' n_v7_v12.out
  replace v8 := v8.trn t' n_v8_v12.out
  replace v9 := v9.trn t' n_v9_v12.out
  replace v10 := v10.trn t' n_v10_v12.out
  replace v11 := v11.trn t' n_v11_v12.out
  replace v13 := v13.trn t' n_v12_v13.out.symm
  replace HD := Lib.hid (HD.out.trn HL_v12.out t')
  clear t' v12
  have v12 := r'
  clear r'
  go_wp2_with (first | ((with_reducible refine storeTrap (k := r2.k) (v := r2.v) v13 ?_ ?_ ?_ ?_); rfl; rfl; rfl; intro w' r' t'; refine Hid.out ?_))
  refine Lib.hid ?_
  replace oa := Lib.hid (oa.out.trn v13 (NoU8.trap _ _) t')
  replace ob := Lib.hid (ob.out.trn v13 (NoU8.trap _ _) t')
  replace oc := Lib.hid (oc.out.trn v13 (NoU8.trap _ _) t')
  replace v3 := v3.trn t' n_v3_v13.out
  replace v4 := v4.trn t' n_v4_v13.out
  replace v7 := v7.trn t' n_v7_v13.out
  replace v8 := v8.trn t' n_v8_v13.out
  replace v9 := v9.trn t' n_v9_v13.out
  replace v10 := v10.trn t' n_v10_v13.out
  replace v11 := v11.trn t' n_v11_v13.out
  replace v12 := v12.trn t' n_v12_v13.out
  replace HD := Lib.hid (HD.out.trn HL_v13.out t')
  clear t' v13
  have v13 := r'
  clear r'
  have ck0 := v4.iop
  have ck1 := v12.word lmc 16 rfl
  have ck2 := v8.word lma 16 rfl
  go_wp2_with (first | ((with_reducible refine loadTrap v13 ?_ ?_ ?_); rfl; rfl) | ((with_reducible refine loadTrap v9 ?_ ?_ ?_); rfl; rfl) | ((with_reducible refine loadRegs v12 lmc ?_ ?_ ?_); rfl; rfl) | ((with_reducible refine loadRegs v8 lma ?_ ?_ ?_); rfl; rfl) | fail)
  go_ret
  exact ⟨rfl, HD.out⟩
theorem itWalk (m : Mc) (op rd ra rb imm : Int) (tm : Int) (W : World) (hm : m.Ok W) (T : Is.Tabs W) (i0 : -2147483648 ≤ imm) (i1 : imm < 2147483648) (hx : m.xs.length ≤ 9223372036854775807) (hy : m.ys.length ≤ 9223372036854775807) (b0 : 0 ≤ tm) (b1 : tm < 18446744073709551616) : Calls Tryd.prog 8 #[.agg (mach m), .agg (ins op rd ra rb imm), .int .u64 tm] W fun e W' => e = .returned (.bool true) ∧ Dn W W' := by
  cases hf : decide (m.xs.length ≤ 600 ∧ m.ys.length ≤ 600)
  · exact it_few m op rd ra rb imm tm W hm T i0 i1 hx hy b0 b1 hf
  · cases hpl : (Is.M.ok op rd ra rb imm && !Is.M.priv op)
    · exact it_plain m op rd ra rb imm tm W hm T i0 i1 hx hy b0 b1 hf hpl
    · have hc := hm.core
      have pp := hc.rng 16
      have sh := M.Sh.mk' hm.len
      have key := M.ex_shift sh m.xs op rd ra rb imm
      by_cases h18 : op = 18
      · exact it_18 m op rd ra rb imm tm W hm T i0 i1 hx hy b0 b1 hf hpl _ 0 rfl _ _ rfl rfl pp.1 pp.2 ⟨key.1, key.2.1⟩ (by rw [h18]; rfl)
      · by_cases h19 : op = 19
        · exact it_19 m op rd ra rb imm tm W hm T i0 i1 hx hy b0 b1 hf hpl _ 0 rfl _ _ rfl rfl pp.1 pp.2 ⟨key.1, key.2.1⟩ (beq_eq_false_iff_ne.2 h18) (by rw [h19]; rfl)
        · have s2 := key.2.2 h18 h19
          exact it_n m op rd ra rb imm tm W hm T i0 i1 hx hy b0 b1 hf hpl _ _ rfl _ _ rfl rfl pp.1 pp.2 ⟨key.1, key.2.1⟩ (beq_eq_false_iff_ne.2 h18) (beq_eq_false_iff_ne.2 h19) rfl s2.pc s2.take
end Go.Proofs.YtpdahbcjecphmaaDoor
namespace Go.Proofs.YtpdahbcjecphmaaDoor.execInstructionsIgnoreTime
open Go.ChangeShapes Go.WideShapes Go.ChangeAt Go.RowKit
set_option linter.unusedVariables false

theorem readable : ∀ t ∈ Tryd.f8.params.toList, Tryd.prog.readableRec t = true ∧ t < Tryd.prog.types.size := by
  rw [Tryd.params8]
  intro t ht
  have hall : ([30, 32, 28].all fun t => Tryd.prog.readableRec t && decide (t < Tryd.prog.types.size)) = true := by kernel_rfl
  have h := List.all_eq_true.1 hall t ht
  simp only [Bool.and_eq_true, decide_eq_true_eq] at h
  exact h

theorem said (H : Type) (ds : List (DataW H)) (hl : ds.length = Tryd.f8.params.size) : (Rows.execInstructionsIgnoreTimeSpec.fn H ds).results = [.lit (.bool true)] ∧ (Rows.execInstructionsIgnoreTimeSpec.fn H ds).args = ds ∧ (Rows.execInstructionsIgnoreTimeSpec.fn H ds).vars = [] := by
  rw [Tryd.params8] at hl
  match ds, hl with
  | [d0, d1, d2], _ => exact ⟨rfl, rfl, rfl⟩

set_option maxRecDepth 100000 in
theorem walk {H : Type} {enc : TypeId × Value → H} (W : World) (base : Nat) (args : Array Value) (ds : List (DataW H)) (ps : List MemPlace) (E : Env W)
    (hval : ∀ (j : Nat) t v, Tryd.f8.params[j]? = some t → args[j]? = some v → Value.okWide Tryd.prog W .any base t v)
    (hA : DataW.TrodAll enc Tryd.prog W 0 (fun _ => true) true Tryd.f8.params.toList args.toList ds ps) :
    Calls Tryd.prog 8 args W fun e W' => e = .returned (.bool true) ∧ Dn W W' := by
  rw [Tryd.params8] at hA hval
  obtain ⟨v0, vs0, d0, ds0, p0, q0, hargs, rfl, rfl, h0, r0⟩ := trodAll_cons hA
  obtain ⟨v1, vs1, d1, ds1, p1, q1, rfl, rfl, rfl, h1, r1⟩ := trodAll_cons r0
  obtain ⟨v2, vs2, d2, ds2, p2, q2, rfl, rfl, rfl, h2, r2⟩ := trodAll_cons r1
  obtain ⟨rfl, rfl, rfl⟩ := trodAll_nil r2
  obtain rfl : args = #[v0, v1, v2] := by cases args; simp_all
  obtain ⟨m0, rfl, o0, l0, y0⟩ := open33 (hval 0 30 v0 rfl rfl) h0
  obtain ⟨op1, rd1, ra1, rb1, imm1, rfl, _, _, _, _, _, _, wi1⟩ := Is.open_instr (hval 1 32 v1 rfl rfl) h1
  have bd1 := bounds_i32 wi1
  obtain ⟨x2, rfl, rfl, rfl, w2⟩ := open_int Tryd.underlying28 (hval 2 28 v2 rfl rfl) h2
  have bd2 := bounds_u64 w2
  exact itWalk m0 op1 rd1 ra1 rb1 imm1 x2 W o0 E (by omega) (by omega) l0 y0 (by omega) (by omega)

set_option maxRecDepth 100000 in
theorem lifted (os : Os) (started : os.Started) (H : Type) (enc : TypeId × Value → H) :
    ReturnsInHanded {} Tryd.checked os 8 .any (fun w args => (Rows.execInstructionsIgnoreTimeSpec.pre enc Tryd.prog Tryd.f8 [] false w args ∧ laidMetH Tryd.prog laidL w) ∧ sizedMet enc Tryd.prog Tryd.f8 (OpenSpec.ofChange Rows.execInstructionsIgnoreTimeSpec) false w args)
      (Rows.execInstructionsIgnoreTimeSpec.post enc Tryd.prog Tryd.f8 false true false false) :=
  returns_of_walk (C := Tryd.checked) rfl own started (by kernel_rfl) Tryd.func8 rfl readable (by kernel_rfl) said
    (ChangeSpec.witness_shaped (enc := enc) (C := Tryd.checked) (os := os) (X := fun w _ => laidMetH Tryd.prog laidL w) false (World.laidAll Tryd.prog os laidL) #[.agg #[.int .u32 0, .int .u32 0, .int .u32 0, .int .u32 0, .int .u32 0, .int .u32 0, .int .u32 0, .int .u32 0, .int .u32 0, .int .u32 0, .int .u32 0, .int .u32 0, .int .u32 0, .int .u32 0, .int .u32 0, .int .u32 0, .int .u32 0, .int .u32 0, .int .u32 0, .int .u32 0, .int .u32 0, .int .u32 0, .int .u32 0, .int .u32 0, .int .u32 0, .int .u32 0, .int .u32 0, .int .u32 0, .int .u32 0, .slice none 0 0, .int .u64 0, .slice none 0 0, .bool false], .agg #[.int .i64 0, .int .i64 0, .int .i64 0, .int .i64 0, .int .i32 0], .int .u64 0] 8 (World.laidAll_os _ _ _)
      (start_shaped os _) (by kernel_rfl) (by kernel_rfl) (by kernel_rfl) (start_met os _)) walk

theorem over : Rows.ExecInstructionsIgnoreTimeSaid :=
  OpenClaim.holds_of_wide 8 Tryd.f8 rfl rfl rfl rfl rfl rfl rfl ⟨rfl, rfl, rfl, rfl, rfl⟩ rfl rfl rfl rfl rfl (by kernel_rfl) Tryd.func8 (by kernel_rfl)
    (of_decide_eq_true (by kernel_rfl)) (by unfold Func.isWrapper; first | (rw [if_pos (by decide +kernel)]; kernel_rfl) | (rw [if_neg (by decide +kernel)]; exact ⟨rfl, rfl⟩))
    (fun os started H enc _ => lifted os started H enc)

/-- THE STATEMENT -/
theorem proved : Rows.ExecInstructionsIgnoreTimeCardSaid :=
  Claim7.holds_tied_plain_at .later [] [.data, .data] true (true, "91e72f67f80a65227298d3539401025c22714d779c4228c5751d5c899ac93c42") false
    over (fun _ h => by cases h) (by kernel_rfl) (fun _ h => by cases h) execInstructionsIgnoreTime_row_tie rfl ⟨rfl, rfl⟩ (by kernel_rfl) rfl
    (fun f fn hf hfn => by
      obtain rfl : f = 8 := Option.some.inj ((show Tryd.prog.funcNamed "gaoler/gaolerlaw11.ExecInstructionsIgnoreTime" = some 8 by kernel_rfl).symm.trans hf) |>.symm
      obtain rfl : fn = Tryd.f8 := (Option.some.inj (Tryd.func8.symm.trans hfn)).symm
      exact ⟨by kernel_rfl, fun j t ht => by
        rw [Tryd.params8] at ht
        have hm : t ∈ [30, 32, 28] := by simpa using Array.mem_of_getElem? ht
        have hall : ([30, 32, 28].all fun u => !Tryd.prog.wantsStandIn u) = true := by kernel_rfl
        exact (show Tryd.prog.wantsStandIn t = false by simpa using List.all_eq_true.1 hall t hm)⟩)
    (by kernel_rfl)
#print axioms proved
end Go.Proofs.YtpdahbcjecphmaaDoor.execInstructionsIgnoreTime
