/-
  'gaolerlaw09.TrapDependencies' returns true when called, and writes nothing that was there: contract over the translated program. No conditions beyond what the kinds of its parameters say.
-/
import Derived.Test.YtnbedmjchgfknaaTrapRt
namespace Go.Proofs.Ytnbedmjchgfknaa
open Go.ChangeShapes Go.WideShapes Go.ChangeAt Go.RowKit Go.Sort
set_option linter.unusedVariables false

section
variable {ops : Array Oper} {rest : List Oper} {dst : Option Tmp} {x y : Operand} {ty : TypeId} {pos : String} {aft : Array Edge} {gd : Option (Nat × Bool)} {a : Act} {w : World} {Q : Exit → Act → World → Prop} {b : Nat} {c g : List Int}
theorem load_regs_is (r : Row w b 26 .u32 c) (hl : c.length = 29) (hg : Hid (c.take 16 = g)) (hw : Region.wanted ⟨dst, .load 23 x, ty, pos, aft, gd⟩ (yielded ops a.tmps) = true) (hx : a.eval x = .pointer (some ⟨b, 0, none⟩))
    (h : wpList Try.prog ops Q rest (a.put dst (.agg (ints .u32 g))) w) : wpList Try.prog ops Q (⟨dst, .load 23 x, ty, pos, aft, gd⟩ :: rest) a w := by
  rw [← hg.out] at h
  exact load_regs r hl hw hx h
end
theorem dp_bit (o : Int) (o0 : 0 ≤ o) : (decide (o % 4 % 2 = 1) == (o % 2 == 1)) = true ∧ (decide (o % 4 / 2 % 2 = 1) == (o / 2 % 2 == 1)) = true := by
  have e1 : o % 4 % 2 = o % 2 := by omega
  have e2 : o % 4 / 2 % 2 = o / 2 % 2 := by omega
  rw [e1, e2]
  constructor
  · by_cases h : o % 2 = 1 <;> simp [h]
  · by_cases h : o / 2 % 2 = 1 <;> simp [h]

set_option maxRecDepth 100000 in
set_option maxHeartbeats 2000000 in
theorem dp_a (c : List Int) (hc : M.Core c) (g : List Int) (hg : M.Regs g) (k : Int) (k0 : -9223372036854775808 ≤ k) (k1 : k < 9223372036854775808) (v : Int) (v0 : 0 ≤ v) (v1 : v < 4294967296) (o : Int) (o0 : 0 ≤ o) (o1 : o < 256) (h : k = 0) (W : World) :
    Calls Try.prog 6 #[.agg (ints .u32 c), .agg (ints .u32 g), .agg #[.int .i64 k, .int .u32 v], .int .u8 o] W fun e W' => e = .returned (.bool true) ∧ Dn W W' := by
  subst h
  obtain ⟨w, b0, b1, b2, hw, hb0, hb1, hb2, rc, rg, gt, n01, n02, n12, D⟩ := box3 W c 26 23 28 (ints .u32 g) #[.int .i64 0, .int .u32 v]
  have HD := Lib.hid D
  clear D
  have A := Lib.hid awake
  go_enter Try.func6, Try.ntmps6
  go_wp2_with fail
  rw [← hw, ← hb2, ← hb1, ← hb0]
  clear hw hb0 hb1 hb2
  refine (A.out _).mono ?_
  rintro e w' ⟨rfl, d'⟩
  replace rc := rc.dn d'; replace gt := gt.dn d'; replace HD := Lib.hid (HD.out.trans d'); clear d'
  have c1 : w'.cell? ⟨b2, 0, none⟩ = some (.int .i64 0) := gt.cell rfl
  go_wp2_with (go_at_call 7; (with_reducible refine (A.out _).mono ?_); rintro e w' ⟨rfl, d'⟩; replace rc := rc.dn d'; replace gt := gt.dn d'; replace HD := Lib.hid (HD.out.trans d'); clear d')
  go_ret
  exact ⟨rfl, HD.out⟩
set_option maxRecDepth 100000 in
set_option maxHeartbeats 2000000 in
theorem dp_b (c : List Int) (hc : M.Core c) (g : List Int) (hg : M.Regs g) (k : Int) (k0 : -9223372036854775808 ≤ k) (k1 : k < 9223372036854775808) (v : Int) (v0 : 0 ≤ v) (v1 : v < 4294967296) (o : Int) (o0 : 0 ≤ o) (o1 : o < 256) (h : k ≠ 0) (W : World) :
    Calls Try.prog 6 #[.agg (ints .u32 c), .agg (ints .u32 g), .agg #[.int .i64 k, .int .u32 v], .int .u8 o] W fun e W' => e = .returned (.bool true) ∧ Dn W W' := by
  obtain ⟨w, b0, b1, b2, hw, hb0, hb1, hb2, rc, rg, gt, n01, n02, n12, D⟩ := box3 W c 26 23 28 (ints .u32 g) #[.int .i64 k, .int .u32 v]
  replace rg : Row w b1 23 .u32 g := rg
  have s0 := hc.csr 0
  obtain ⟨hd, N1, N2, N3, N4, N5⟩ := M.other hc hg h v0 v1 (o % 4) (by omega) (by omega) (s := M.csr c 0 / 16 * 16 + o % 4 * 4 + M.csr c 0 % 4) rfl
  have hA := hc.enter (k := k) v0 v1
  have hE := hd.enter (k := k) v0 v1
  have hR := hd.leave
  have C1 := Lib.hid fun w => trapEnter c k v w hc k0 k1 v0 v1
  have C2 := Lib.hid fun w => trapEnter _ k v w hd k0 k1 v0 v1
  have C3 := Lib.hid fun w => trapReturn _ w hd
  have C4 := Lib.hid fun w => trapSup _ w hR
  have C5 := Lib.hid fun w => trapIe _ w hR
  rw [N2] at C4
  rw [N3] at C5
  have p1 := (dp_bit o o0).1
  have p2 := (dp_bit o o0).2
  replace N1 := Lib.hid N1
  replace N4 := Lib.hid N4
  replace N5 := Lib.hid N5
  clear N2 N3
  generalize decide (o % 4 % 2 = 1) = p at *
  generalize decide (o % 4 / 2 % 2 = 1) = q at *
  have t1 : (k == 0) = false := by simpa using h
  have lg : (g ++ c.drop 16).length = 29 := by simp [hg.len, hc.len]
  have q1 := fun w => eq29_self hA.len w
  have q2 := fun w => eq16 hg.len hg.len w
  simp only [beq_self_eq_true] at q2
  clear h
  obtain ⟨u, hu⟩ : ∃ u, M.csr c 0 / 16 * 16 + o % 4 * 4 + M.csr c 0 % 4 = u := ⟨_, rfl⟩
  rw [hu] at hd hE hR C2 C3 C4 C5 N1 N4 N5
  have HU := Lib.hid hu
  clear hu
  obtain ⟨d, hdd⟩ : ∃ d, (g ++ c.drop 16).set 17 u = d := ⟨_, rfl⟩
  rw [hdd] at hd hE hR C2 C3 C4 C5 N1 N4 N5
  have HDD := Lib.hid hdd
  clear hdd
  generalize M.leave d = f at *
  generalize M.enter d k v = x2 at *
  generalize M.enter c k v = x1 at *
  have HD := Lib.hid D
  clear D
  have A := Lib.hid awake
  go_enter Try.func6, Try.ntmps6
  go_wp2_with fail
  rw [← hw, ← hb2, ← hb1, ← hb0]
  clear hw hb0 hb1 hb2
  refine (A.out _).mono ?_
  rintro e w' ⟨rfl, d'⟩
  replace rc := rc.dn d'; replace rg := rg.dn d'; replace gt := gt.dn d'; replace HD := Lib.hid (HD.out.trans d'); clear d'
  have c1 : w'.cell? ⟨b2, 0, none⟩ = some (.int .i64 k) := gt.cell rfl
  go_wp2_with (first | ((with_reducible refine load29 rc hc.len ?_ ?_ ?_); rfl; rfl) | ((with_reducible refine load16 rg hg.len ?_ ?_ ?_); rfl; rfl) | ((with_reducible refine loadTrap gt ?_ ?_ ?_); rfl; rfl) | ((with_reducible refine load_regs rc hc.len ?_ ?_ ?_); rfl; rfl) | ((with_reducible refine alloc29 (b := w'.heap.size) rfl ?_ ?_); rfl; refine Hid.out ?_))
  refine Lib.hid ?_
  obtain ⟨xrd, b3, hw, hb, rd, dd, nn⟩ := new_core w' 26
  have n_rc_rd := nn _ rc.lt
  have n_rg_rd := nn _ rg.lt
  have n_gt_rd := nn _ gt.lt
  have HL_rd : Hid (W.heap.size ≤ b3) := Lib.hid (by have := HD.out.size; omega)
  rw [← hw, ← hb]
  replace rc := rc.dn dd; replace rg := rg.dn dd; replace gt := gt.dn dd; replace HD := Lib.hid (HD.out.trans dd)
  clear hw hb dd nn
  go_wp2_with ((with_reducible refine restore29 c hc.len rd core_zeros.len ?_ ?_ ?_ ?_); rfl; rfl; rfl; intro w' r' t'; refine Hid.out ?_)
  refine Lib.hid ?_
  replace rc := rc.trn t' n_rc_rd
  replace rg := rg.trn t' n_rg_rd
  replace gt := gt.trn t' n_gt_rd
  replace HD := Lib.hid (HD.out.trn HL_rd.out t')
  clear t' rd
  have rd := r'
  clear r' 
  clear c1
  go_wp2_with (first | ((with_reducible refine load29 rc hc.len ?_ ?_ ?_); rfl; rfl) | ((with_reducible refine load29 rd hc.len ?_ ?_ ?_); rfl; rfl) | ((with_reducible refine load16 rg hg.len ?_ ?_ ?_); rfl; rfl) | ((with_reducible refine loadTrap gt ?_ ?_ ?_); rfl; rfl) | ((with_reducible refine load_regs rc hc.len ?_ ?_ ?_); rfl; rfl) | ((with_reducible refine load_regs rd hc.len ?_ ?_ ?_); rfl; rfl) | ((with_reducible refine store_regs g hg.len rd hc.len ?_ ?_ ?_ ?_); rfl; rfl; rfl; intro w' r' t'; refine Hid.out ?_))
  refine Lib.hid ?_
  replace rc := rc.trn t' n_rc_rd
  replace rg := rg.trn t' n_rg_rd
  replace gt := gt.trn t' n_gt_rd
  replace HD := Lib.hid (HD.out.trn HL_rd.out t')
  clear t' rd
  have rd := r'
  clear r'
  have m1 : w'.cell? ⟨b0, 17, none⟩ = some (.int .u32 (M.csr c 0)) := rc.cell 17 (by rw [hc.len]; decide)
  generalize M.csr c 0 = s at m1 s0 HU
  have x1w : IntKind.u32.wrap (s / 16 * 16) = s / 16 * 16 := by rw [IntKind.wrap_u32]; omega
  have x2w : IntKind.u32.wrap (o % 4 * 4) = o % 4 * 4 := by rw [IntKind.wrap_u32]; omega
  have x3w : IntKind.u32.wrap (s / 16 * 16 + o % 4 * 4) = s / 16 * 16 + o % 4 * 4 := by rw [IntKind.wrap_u32]; omega
  have x4w : IntKind.u32.wrap (s / 16 * 16 + o % 4 * 4 + s % 4) = s / 16 * 16 + o % 4 * 4 + s % 4 := by rw [IntKind.wrap_u32]; omega
  go_wp2_with (first | ((with_reducible refine load29 rc hc.len ?_ ?_ ?_); rfl; rfl) | ((with_reducible refine load29 rd lg ?_ ?_ ?_); rfl; rfl) | ((with_reducible refine load16 rg hg.len ?_ ?_ ?_); rfl; rfl) | ((with_reducible refine loadTrap gt ?_ ?_ ?_); rfl; rfl) | ((with_reducible refine load_regs rc hc.len ?_ ?_ ?_); rfl; rfl) | ((with_reducible refine load_regs rd lg ?_ ?_ ?_); rfl; rfl) | ((with_reducible refine wpList_store_int (i := 17) (u := s / 16 * 16 + o % 4 * 4 + s % 4) rd infoU32 ?_ ?_ ?_ (by rw [lg]; decide) ?_); rfl; rfl; rfl; intro w' r' t'; refine Hid.out ?_))
  refine Lib.hid ?_
  rw [HU.out, HDD.out] at r'
  replace rc := rc.trn t' n_rc_rd
  replace rg := rg.trn t' n_rg_rd
  replace gt := gt.trn t' n_gt_rd
  replace HD := Lib.hid (HD.out.trn HL_rd.out t')
  clear t' rd
  have rd := r'
  clear r'
  clear m1 x1w x2w x3w x4w HU HDD n_rc_rd n_rg_rd n_gt_rd
  go_wp2_with (first | ((with_reducible refine load29 rc hc.len ?_ ?_ ?_); rfl; rfl) | ((with_reducible refine load29 rd hd.len ?_ ?_ ?_); rfl; rfl) | ((with_reducible refine load16 rg hg.len ?_ ?_ ?_); rfl; rfl) | ((with_reducible refine loadTrap gt ?_ ?_ ?_); rfl; rfl) | ((with_reducible refine load_regs rc hc.len ?_ ?_ ?_); rfl; rfl) | ((with_reducible refine load_regs rd hd.len ?_ ?_ ?_); rfl; rfl) | (go_at_call 8; (first | (with_reducible refine (C1.out _).mono ?_)); rintro e w' ⟨rfl, d'⟩; replace rc := rc.dn d'; replace rd := rd.dn d'; replace rg := rg.dn d'; replace gt := gt.dn d'; replace HD := Lib.hid (HD.out.trans d'); clear d') | ((with_reducible refine alloc29 (b := w'.heap.size) rfl ?_ ?_); rfl; refine Hid.out ?_))
  refine Lib.hid ?_
  obtain ⟨xra, b4, hw, hb, ra, dd, nn⟩ := new_core w' 26
  have n_rc_ra := nn _ rc.lt
  have n_rd_ra := nn _ rd.lt
  have n_rg_ra := nn _ rg.lt
  have n_gt_ra := nn _ gt.lt
  have HL_ra : Hid (W.heap.size ≤ b4) := Lib.hid (by have := HD.out.size; omega)
  rw [← hw, ← hb]
  replace rc := rc.dn dd; replace rd := rd.dn dd; replace rg := rg.dn dd; replace gt := gt.dn dd; replace HD := Lib.hid (HD.out.trans dd)
  clear hw hb dd nn
  go_wp2_with ((with_reducible refine restore29 x1 hA.len ra core_zeros.len ?_ ?_ ?_ ?_); rfl; rfl; rfl; intro w' r' t'; refine Hid.out ?_)
  refine Lib.hid ?_
  replace rc := rc.trn t' n_rc_ra
  replace rd := rd.trn t' n_rd_ra
  replace rg := rg.trn t' n_rg_ra
  replace gt := gt.trn t' n_gt_ra
  replace HD := Lib.hid (HD.out.trn HL_ra.out t')
  clear t' ra
  have ra := r'
  clear r' n_rc_ra n_rd_ra n_rg_ra n_gt_ra
  go_wp2_with (first | ((with_reducible refine load29 rc hc.len ?_ ?_ ?_); rfl; rfl) | ((with_reducible refine load29 rd hd.len ?_ ?_ ?_); rfl; rfl) | ((with_reducible refine load29 ra hA.len ?_ ?_ ?_); rfl; rfl) | ((with_reducible refine load16 rg hg.len ?_ ?_ ?_); rfl; rfl) | ((with_reducible refine loadTrap gt ?_ ?_ ?_); rfl; rfl) | ((with_reducible refine load_regs rc hc.len ?_ ?_ ?_); rfl; rfl) | ((with_reducible refine load_regs rd hd.len ?_ ?_ ?_); rfl; rfl) | ((with_reducible refine load_regs ra hA.len ?_ ?_ ?_); rfl; rfl) | (go_at_call 8; (first | (with_reducible refine (C2.out _).mono ?_)); rintro e w' ⟨rfl, d'⟩; replace rc := rc.dn d'; replace rd := rd.dn d'; replace ra := ra.dn d'; replace rg := rg.dn d'; replace gt := gt.dn d'; replace HD := Lib.hid (HD.out.trans d'); clear d') | ((with_reducible refine alloc29 (b := w'.heap.size) rfl ?_ ?_); rfl; refine Hid.out ?_))
  refine Lib.hid ?_
  obtain ⟨xrb, b5, hw, hb, rb, dd, nn⟩ := new_core w' 26
  have n_rc_rb := nn _ rc.lt
  have n_rd_rb := nn _ rd.lt
  have n_ra_rb := nn _ ra.lt
  have n_rg_rb := nn _ rg.lt
  have n_gt_rb := nn _ gt.lt
  have HL_rb : Hid (W.heap.size ≤ b5) := Lib.hid (by have := HD.out.size; omega)
  rw [← hw, ← hb]
  replace rc := rc.dn dd; replace rd := rd.dn dd; replace ra := ra.dn dd; replace rg := rg.dn dd; replace gt := gt.dn dd; replace HD := Lib.hid (HD.out.trans dd)
  clear hw hb dd nn
  go_wp2_with ((with_reducible refine restore29 x2 hE.len rb core_zeros.len ?_ ?_ ?_ ?_); rfl; rfl; rfl; intro w' r' t'; refine Hid.out ?_)
  refine Lib.hid ?_
  replace rc := rc.trn t' n_rc_rb
  replace rd := rd.trn t' n_rd_rb
  replace ra := ra.trn t' n_ra_rb
  replace rg := rg.trn t' n_rg_rb
  replace gt := gt.trn t' n_gt_rb
  replace HD := Lib.hid (HD.out.trn HL_rb.out t')
  clear t' rb
  have rb := r'
  clear r' 
  go_wp2_with (first | ((with_reducible refine load29 rc hc.len ?_ ?_ ?_); rfl; rfl) | ((with_reducible refine load29 rd hd.len ?_ ?_ ?_); rfl; rfl) | ((with_reducible refine load29 ra hA.len ?_ ?_ ?_); rfl; rfl) | ((with_reducible refine load29 rb hE.len ?_ ?_ ?_); rfl; rfl) | ((with_reducible refine load16 rg hg.len ?_ ?_ ?_); rfl; rfl) | ((with_reducible refine loadTrap gt ?_ ?_ ?_); rfl; rfl) | ((with_reducible refine load_regs rc hc.len ?_ ?_ ?_); rfl; rfl) | ((with_reducible refine load_regs rd hd.len ?_ ?_ ?_); rfl; rfl) | ((with_reducible refine load_regs ra hA.len ?_ ?_ ?_); rfl; rfl) | ((with_reducible refine load_regs rb hE.len ?_ ?_ ?_); rfl; rfl) | ((with_reducible refine store_regs (c.take 16) (by simp [hc.len]) rb hE.len ?_ ?_ ?_ ?_); rfl; rfl; rfl; intro w' r' t'; refine Hid.out ?_))
  refine Lib.hid ?_
  rw [N1.out] at r'
  replace rc := rc.trn t' n_rc_rb
  replace rd := rd.trn t' n_rd_rb
  replace ra := ra.trn t' n_ra_rb
  replace rg := rg.trn t' n_rg_rb
  replace gt := gt.trn t' n_gt_rb
  replace HD := Lib.hid (HD.out.trn HL_rb.out t')
  clear t' rb
  have rb := r'
  clear r'
  clear n_rc_rb n_rg_rb n_gt_rb n_rd_rb n_ra_rb
  go_wp2_with (first | ((with_reducible refine load29 rc hc.len ?_ ?_ ?_); rfl; rfl) | ((with_reducible refine load29 rd hd.len ?_ ?_ ?_); rfl; rfl) | ((with_reducible refine load29 ra hA.len ?_ ?_ ?_); rfl; rfl) | ((with_reducible refine load29 rb hA.len ?_ ?_ ?_); rfl; rfl) | ((with_reducible refine load16 rg hg.len ?_ ?_ ?_); rfl; rfl) | ((with_reducible refine loadTrap gt ?_ ?_ ?_); rfl; rfl) | ((with_reducible refine load_regs rc hc.len ?_ ?_ ?_); rfl; rfl) | ((with_reducible refine load_regs rd hd.len ?_ ?_ ?_); rfl; rfl) | ((with_reducible refine load_regs ra hA.len ?_ ?_ ?_); rfl; rfl) | ((with_reducible refine load_regs rb hA.len ?_ ?_ ?_); rfl; rfl) | (go_at_call 10; (first | (with_reducible refine (C3.out _).mono ?_)); rintro e w' ⟨rfl, d'⟩; replace rc := rc.dn d'; replace rd := rd.dn d'; replace ra := ra.dn d'; replace rb := rb.dn d'; replace rg := rg.dn d'; replace gt := gt.dn d'; replace HD := Lib.hid (HD.out.trans d'); clear d') | ((with_reducible refine alloc29 (b := w'.heap.size) rfl ?_ ?_); rfl; refine Hid.out ?_))
  refine Lib.hid ?_
  obtain ⟨xrr, b6, hw, hb, rr, dd, nn⟩ := new_core w' 26
  have n_rc_rr := nn _ rc.lt
  have n_rd_rr := nn _ rd.lt
  have n_ra_rr := nn _ ra.lt
  have n_rb_rr := nn _ rb.lt
  have n_rg_rr := nn _ rg.lt
  have n_gt_rr := nn _ gt.lt
  have HL_rr : Hid (W.heap.size ≤ b6) := Lib.hid (by have := HD.out.size; omega)
  rw [← hw, ← hb]
  replace rc := rc.dn dd; replace rd := rd.dn dd; replace ra := ra.dn dd; replace rb := rb.dn dd; replace rg := rg.dn dd; replace gt := gt.dn dd; replace HD := Lib.hid (HD.out.trans dd)
  clear hw hb dd nn
  go_wp2_with ((with_reducible refine restore29 f hR.len rr core_zeros.len ?_ ?_ ?_ ?_); rfl; rfl; rfl; intro w' r' t'; refine Hid.out ?_)
  refine Lib.hid ?_
  replace rc := rc.trn t' n_rc_rr
  replace rd := rd.trn t' n_rd_rr
  replace ra := ra.trn t' n_ra_rr
  replace rb := rb.trn t' n_rb_rr
  replace rg := rg.trn t' n_rg_rr
  replace gt := gt.trn t' n_gt_rr
  replace HD := Lib.hid (HD.out.trn HL_rr.out t')
  clear t' rr
  have rr := r'
  clear r' n_rc_rr n_rd_rr n_ra_rr n_rb_rr n_rg_rr n_gt_rr
  go_wp2_with (first | ((with_reducible refine load29 rc hc.len ?_ ?_ ?_); rfl; rfl) | ((with_reducible refine load29 rd hd.len ?_ ?_ ?_); rfl; rfl) | ((with_reducible refine load29 ra hA.len ?_ ?_ ?_); rfl; rfl) | ((with_reducible refine load29 rb hA.len ?_ ?_ ?_); rfl; rfl) | ((with_reducible refine load29 rr hR.len ?_ ?_ ?_); rfl; rfl) | ((with_reducible refine load16 rg hg.len ?_ ?_ ?_); rfl; rfl) | ((with_reducible refine loadTrap gt ?_ ?_ ?_); rfl; rfl) | ((with_reducible refine load_regs rc hc.len ?_ ?_ ?_); rfl; rfl) | ((with_reducible refine load_regs rd hd.len ?_ ?_ ?_); rfl; rfl) | ((with_reducible refine load_regs ra hA.len ?_ ?_ ?_); rfl; rfl) | ((with_reducible refine load_regs rb hA.len ?_ ?_ ?_); rfl; rfl) | ((with_reducible refine load_regs_is rr hR.len N5 ?_ ?_ ?_); rfl; rfl) | (go_at_call 12; (with_reducible refine (C4.out _).mono ?_); rintro e w' ⟨rfl, d'⟩; replace rc := rc.dn d'; replace rd := rd.dn d'; replace ra := ra.dn d'; replace rb := rb.dn d'; replace rr := rr.dn d'; replace rg := rg.dn d'; replace gt := gt.dn d'; replace HD := Lib.hid (HD.out.trans d'); clear d') | (go_at_call 14; (with_reducible refine (C5.out _).mono ?_); rintro e w' ⟨rfl, d'⟩; replace rc := rc.dn d'; replace rd := rd.dn d'; replace ra := ra.dn d'; replace rb := rb.dn d'; replace rr := rr.dn d'; replace rg := rg.dn d'; replace gt := gt.dn d'; replace HD := Lib.hid (HD.out.trans d'); clear d'; have m1 : w'.cell? ⟨b6, 16, none⟩ = some (.int .u32 (M.csr d 1)) := (by have h := rr.cell 16 (by rw [hR.len]; decide); rw [← N4.out]; exact h); have m2 : w'.cell? ⟨b3, 18, none⟩ = some (.int .u32 (M.csr d 1)) := (rd.cell 18 (by rw [hd.len]; decide))))
  go_ret
  exact ⟨rfl, HD.out⟩
theorem trapDpWalk (c : List Int) (hc : M.Core c) (g : List Int) (hg : M.Regs g) (k : Int) (k0 : -9223372036854775808 ≤ k) (k1 : k < 9223372036854775808) (v : Int) (v0 : 0 ≤ v) (v1 : v < 4294967296) (o : Int) (o0 : 0 ≤ o) (o1 : o < 256) (W : World) :
    Calls Try.prog 6 #[.agg (ints .u32 c), .agg (ints .u32 g), .agg #[.int .i64 k, .int .u32 v], .int .u8 o] W fun e W' => e = .returned (.bool true) ∧ Dn W W' := by
  by_cases h : k = 0
  · exact dp_a c hc g hg k k0 k1 v v0 v1 o o0 o1 h W
  · exact dp_b c hc g hg k k0 k1 v v0 v1 o o0 o1 h W
end Go.Proofs.Ytnbedmjchgfknaa
