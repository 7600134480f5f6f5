/-
  What each function of package trap returns when called: contracts over the translated program. Conditions: those that stand in each theorem.
-/
import Derived.Test.YtnbedmjchgfknaaBlk
import Derived.Test.YtnbedmjchgfknaaTrapMath
namespace Go.Proofs.Ytnbedmjchgfknaa
open Go.ChangeShapes Go.WideShapes Go.ChangeAt Go.RowKit Go.Sort
set_option linter.unusedVariables false

theorem infoU32 : (Try.prog.info? 22).map (·.size) = some 1 := by kernel_rfl
theorem len29 {c : List Int} (h : M.Core c) (i : Nat) (hi : decide (i < 29) = true) : i < c.length := by
  rw [h.len]; exact of_decide_eq_true hi

section
variable {ops : Array Oper} {rest : List Oper} {dst : Option Tmp} {x y : Operand} {ty : TypeId} {pos : String} {aft : Array Edge} {gd : Option (Nat × Bool)} {a : Act} {w : World} {Q : Exit → Act → World → Prop} {b : Nat} {c : List Int}
/-- a word is stored into a processor -/
theorem store1 {u : Int} {i : Nat} (r : Row w b 26 .u32 c) (hc : M.Core c)
    (hw : Region.wanted ⟨none, .store 22 x y, ty, pos, aft, gd⟩ (yielded ops a.tmps) = true) (hx : a.eval x = .pointer (some ⟨b, i, none⟩)) (hy : a.eval y = .int .u32 u) (hl : decide (i < 29) = true)
    (h : ∀ w', Row w' b 26 .u32 (c.set i u) → Trn b w w' → wpList Try.prog ops Q rest a w') : wpList Try.prog ops Q (⟨none, .store 22 x y, ty, pos, aft, gd⟩ :: rest) a w :=
  wpList_store_int r infoU32 hw hx hy (len29 hc i hl) h
/-- a processor is stored into a processor -/
theorem restore29 (d : List Int) (hd : d.length = 29) (r : Row w b 26 .u32 c) (hc : c.length = 29)
    (hw : Region.wanted ⟨none, .store 26 x y, ty, pos, aft, gd⟩ (yielded ops a.tmps) = true) (hx : a.eval x = .pointer (some ⟨b, 0, none⟩)) (hy : a.eval y = .agg (ints .u32 d))
    (h : ∀ w', Row w' b 26 .u32 d → Trn b w w' → wpList Try.prog ops Q rest a w') : wpList Try.prog ops Q (⟨none, .store 26 x y, ty, pos, aft, gd⟩ :: rest) a w :=
  wpList_store_whole (ints .u32 d) r.blk (info_core d hd) (by rw [ints_size, ints_size, hc, hd]) (ints_one _ d) hw hx hy h
end
/-- a processor is handed back -/
theorem ret29 {fn : Func} {p : Tmp} {act : Act} {w : World} {b : Nat} {c : List Int} {Post : Ending → World → Prop} (h : fn.results = #[.cell p 26]) (hp : act.tmps.getD p undef = .pointer (some ⟨b, 0, none⟩)) (r : Row w b 26 .u32 c) (hl : c.length = 29)
    (k : Post (.returned (.agg (ints .u32 c))) w) (hd : act.defers = []) : bodyPost Try.prog fn Post .ret act w :=
  bodyPost_ret (results_cell_row h _ _ b 26 _ (0, 0) _ hp r Try.underlying26 rfl (info_core c hl)) hd k

theorem stHas (s p : Int) (W : World) (s0 : 0 ≤ s) (s1 : s < 4294967296) (hp : M.P4 p) :
    Calls Try.prog 25 #[.int .u32 s, .int .u32 p] W fun e W' => e = .returned (.bool (M.bt s p)) ∧ W = W' := by
  have HE := Lib.hid (M.bt_and s p s0 s1 hp)
  clear hp
  go_enter Try.func25, Try.ntmps25
  go_wp2
  go_ret
  exact ⟨ret_bool HE.out, rfl⟩
theorem stWith (s p : Int) (b : Bool) (W : World) (s0 : 0 ≤ s) (s1 : s < 4294967296) (hp : M.P4 p) :
    Calls Try.prog 24 #[.int .u32 s, .int .u32 p, .bool b] W fun e W' => e = .returned (.int .u32 (M.wt s p b)) ∧ W = W' := by
  cases b
  · have HE := Lib.hid (M.wt_not s p s0 s1 hp)
    clear hp
    go_enter Try.func24, Try.ntmps24
    go_wp2
    go_ret
    exact ⟨ret_int HE.out, rfl⟩
  · have HE := Lib.hid (M.wt_or s p s0 s1 hp)
    clear hp
    go_enter Try.func24, Try.ntmps24
    go_wp2
    go_ret
    exact ⟨ret_int HE.out, rfl⟩
theorem P1 : M.P4 1 := .inl rfl
theorem P2 : M.P4 2 := .inr (.inl rfl)
theorem P3 : M.P4 4 := .inr (.inr (.inl rfl))
theorem P8 : M.P4 8 := .inr (.inr (.inr rfl))
theorem stEntered (s : Int) (W : World) (s0 : 0 ≤ s) (s1 : s < 4294967296) :
    Calls Try.prog 17 #[.int .u32 s] W fun e W' => e = .returned (.int .u32 (M.ent s)) ∧ W = W' := by
  have HE := Lib.hid (M.wt_ent s)
  have C1 := Lib.hid fun w => stHas s 1 w s0 s1 P1
  have C2 := Lib.hid fun w => stHas s 2 w s0 s1 P2
  have r1 := M.wt_rng s 4 (M.bt s 1) s0 s1 P3
  have C3 := Lib.hid fun w => stWith s 4 (M.bt s 1) w s0 s1 P3
  generalize M.wt s 4 (M.bt s 1) = x1 at *
  have r2 := M.wt_rng x1 8 (M.bt s 2) r1.1 r1.2 P8
  have C4 := Lib.hid fun w => stWith x1 8 (M.bt s 2) w r1.1 r1.2 P8
  generalize M.wt x1 8 (M.bt s 2) = x2 at *
  have r3 := M.wt_rng x2 1 true r2.1 r2.2 P1
  have C5 := Lib.hid fun w => stWith x2 1 true w r2.1 r2.2 P1
  generalize M.wt x2 1 true = x3 at *
  have C6 := Lib.hid fun w => stWith x3 2 false w r3.1 r3.2 P2
  generalize M.wt x3 2 false = x4 at *
  generalize M.bt s 1 = b1 at *
  generalize M.bt s 2 = b2 at *
  go_enter Try.func17, Try.ntmps17
  go_wp2_with (first
    | (go_at_call 25; (first | (with_reducible refine (C1.out _).mono ?_) | (with_reducible refine (C2.out _).mono ?_)); rintro e w ⟨rfl, rfl⟩)
    | (go_at_call 24; (first | (with_reducible refine (C3.out _).mono ?_) | (with_reducible refine (C4.out _).mono ?_) | (with_reducible refine (C5.out _).mono ?_) | (with_reducible refine (C6.out _).mono ?_)); rintro e w ⟨rfl, rfl⟩))
  go_ret
  exact ⟨ret_int HE.out, rfl⟩
theorem stReturned (s : Int) (W : World) (s0 : 0 ≤ s) (s1 : s < 4294967296) :
    Calls Try.prog 20 #[.int .u32 s] W fun e W' => e = .returned (.int .u32 (M.rtn s)) ∧ W = W' := by
  have HE := Lib.hid (M.wt_rtn s)
  have C1 := Lib.hid fun w => stHas s 4 w s0 s1 P3
  have C2 := Lib.hid fun w => stHas s 8 w s0 s1 P8
  have r1 := M.wt_rng s 1 (M.bt s 4) s0 s1 P1
  have C3 := Lib.hid fun w => stWith s 1 (M.bt s 4) w s0 s1 P1
  generalize M.wt s 1 (M.bt s 4) = x1 at *
  have C4 := Lib.hid fun w => stWith x1 2 (M.bt s 8) w r1.1 r1.2 P2
  generalize M.wt x1 2 (M.bt s 8) = x2 at *
  generalize M.bt s 4 = b1 at *
  generalize M.bt s 8 = b2 at *
  go_enter Try.func20, Try.ntmps20
  go_wp2_with (first
    | (go_at_call 25; (first | (with_reducible refine (C1.out _).mono ?_) | (with_reducible refine (C2.out _).mono ?_)); rintro e w ⟨rfl, rfl⟩)
    | (go_at_call 24; (first | (with_reducible refine (C3.out _).mono ?_) | (with_reducible refine (C4.out _).mono ?_)); rintro e w ⟨rfl, rfl⟩))
  go_ret
  exact ⟨ret_int HE.out, rfl⟩
theorem stSup (s : Int) (W : World) (s0 : 0 ≤ s) (s1 : s < 4294967296) :
    Calls Try.prog 22 #[.int .u32 s] W fun e W' => e = .returned (.bool (M.bt s 1)) ∧ W = W' := by
  have C1 := Lib.hid fun w => stHas s 1 w s0 s1 P1
  generalize M.bt s 1 = b at *
  go_enter Try.func22, Try.ntmps22
  go_wp2_with (go_at_call 25; (with_reducible refine (C1.out _).mono ?_); rintro e w ⟨rfl, rfl⟩)
  go_ret
  exact ⟨rfl, rfl⟩
theorem stIe (s : Int) (W : World) (s0 : 0 ≤ s) (s1 : s < 4294967296) :
    Calls Try.prog 23 #[.int .u32 s] W fun e W' => e = .returned (.bool (M.bt s 2)) ∧ W = W' := by
  have C1 := Lib.hid fun w => stHas s 2 w s0 s1 P2
  generalize M.bt s 2 = b at *
  go_enter Try.func23, Try.ntmps23
  go_wp2_with (go_at_call 25; (with_reducible refine (C1.out _).mono ?_); rintro e w ⟨rfl, rfl⟩)
  go_ret
  exact ⟨rfl, rfl⟩

/-- the blocks of a call with one processor and a result -/
theorem box_res (W : World) (c : List Int) (t : TypeId) : ∃ w b0 b1, w = (W.alloc (.cells (ints .u32 c) t)).alloc (.cells (ints .u32 (zeros 29)) t) ∧ b0 = W.heap.size ∧ b1 = W.heap.size + 1 ∧
    Row w b0 t .u32 c ∧ Row w b1 t .u32 (zeros 29) ∧ b0 ≠ b1 ∧ W.heap.size ≤ b0 ∧ W.heap.size ≤ b1 ∧ Dn W w := by
  refine ⟨_, _, _, rfl, rfl, rfl, (Row.new W t .u32 c).old _, ?_, by omega, Nat.le_refl _, by omega, ((Dn.refl W).alloc _).alloc _⟩
  have h := Row.new (W.alloc (.cells (ints .u32 c) t)) t .u32 (zeros 29)
  rwa [size_alloc] at h
theorem core_zeros : M.Core (zeros 29) := M.core_zero

set_option maxHeartbeats 1000000 in
theorem trEnt (c : List Int) (p : Int) (W : World) (hc : M.Core c) (p0 : 0 ≤ p) (p1 : p < 4294967296) :
    Calls Try.prog 16 #[.agg (ints .u32 c), .int .u32 p, .func (.func 17) #[] #[]] W fun e W' => e = .returned (.agg (ints .u32 (M.goTo c p (M.ent (M.csr c 0))))) ∧ Dn W W' := by
  obtain ⟨w, b0, b1, hw, hb0, hb1, r0, r1, ne, l0, l1, D⟩ := box_res W c 26
  have s := hc.csr 0
  have rs := M.ent_rng _ s.1 s.2
  have C := Lib.hid fun w => stEntered (M.csr c 0) w s.1 s.2
  have k0 : w.cell? ⟨b0, 17, none⟩ = some (.int .u32 (M.csr c 0)) := r0.cell 17 (by rw [hc.len]; decide)
  have hc1 := hc.set 17 _ rs.1 rs.2
  have hc2 := hc1.set 16 _ p0 p1
  have HD := Lib.hid D
  have HL := Lib.hid (And.intro l0 l1)
  clear D l0 l1
  go_enter Try.func16, Try.ntmps16
  go_wp2_with ((with_reducible refine alloc29 (b := W.heap.size + 1) (size_alloc _ _) ?_ ?_); rfl; refine Hid.out ?_)
  refine Lib.hid ?_
  rw [← hw, ← hb1, ← hb0]
  clear hw hb0 hb1
  go_wp2_with (first
    | (go_at_call 17; (with_reducible refine (C.out _).mono ?_); rintro e w1 ⟨rfl, rfl⟩)
    | ((with_reducible refine store1 (i := 17) (u := M.ent (M.csr c 0)) r0 hc ?_ ?_ ?_ ?_ ?_); rfl; rfl; rfl; rfl; intro w2 r2 t2; refine Hid.out ?_))
  refine Lib.hid ?_
  replace r1 := r1.trn t2 ne.symm
  replace HD := Lib.hid (HD.out.trn HL.out.1 t2)
  clear t2 r0 k0
  go_wp2_with ((with_reducible refine store1 (i := 16) (u := p) r2 hc1 ?_ ?_ ?_ ?_ ?_); rfl; rfl; rfl; rfl; intro w3 r3 t3; refine Hid.out ?_)
  refine Lib.hid ?_
  replace r1 := r1.trn t3 ne.symm
  replace HD := Lib.hid (HD.out.trn HL.out.1 t3)
  clear t3 r2
  go_wp2_with (first
    | ((with_reducible refine load29 r3 hc2.len ?_ ?_ ?_); rfl; rfl)
    | ((with_reducible refine restore29 _ hc2.len r1 core_zeros.len ?_ ?_ ?_ ?_); rfl; rfl; rfl; intro w4 r4 t4))
  exact ret29 rfl rfl r4 hc2.len ⟨rfl, HD.out.trn HL.out.2 t4⟩ rfl
set_option maxHeartbeats 1000000 in
theorem trRtn (c : List Int) (p : Int) (W : World) (hc : M.Core c) (p0 : 0 ≤ p) (p1 : p < 4294967296) :
    Calls Try.prog 16 #[.agg (ints .u32 c), .int .u32 p, .func (.func 20) #[] #[]] W fun e W' => e = .returned (.agg (ints .u32 (M.goTo c p (M.rtn (M.csr c 0))))) ∧ Dn W W' := by
  obtain ⟨w, b0, b1, hw, hb0, hb1, r0, r1, ne, l0, l1, D⟩ := box_res W c 26
  have s := hc.csr 0
  have rs := M.rtn_rng _ s.1 s.2
  have C := Lib.hid fun w => stReturned (M.csr c 0) w s.1 s.2
  have k0 : w.cell? ⟨b0, 17, none⟩ = some (.int .u32 (M.csr c 0)) := r0.cell 17 (by rw [hc.len]; decide)
  have hc1 := hc.set 17 _ rs.1 rs.2
  have hc2 := hc1.set 16 _ p0 p1
  have HD := Lib.hid D
  have HL := Lib.hid (And.intro l0 l1)
  clear D l0 l1
  go_enter Try.func16, Try.ntmps16
  go_wp2_with ((with_reducible refine alloc29 (b := W.heap.size + 1) (size_alloc _ _) ?_ ?_); rfl; refine Hid.out ?_)
  refine Lib.hid ?_
  rw [← hw, ← hb1, ← hb0]
  clear hw hb0 hb1
  go_wp2_with (first
    | (go_at_call 20; (with_reducible refine (C.out _).mono ?_); rintro e w1 ⟨rfl, rfl⟩)
    | ((with_reducible refine store1 (i := 17) (u := M.rtn (M.csr c 0)) r0 hc ?_ ?_ ?_ ?_ ?_); rfl; rfl; rfl; rfl; intro w2 r2 t2; refine Hid.out ?_))
  refine Lib.hid ?_
  replace r1 := r1.trn t2 ne.symm
  replace HD := Lib.hid (HD.out.trn HL.out.1 t2)
  clear t2 r0 k0
  go_wp2_with ((with_reducible refine store1 (i := 16) (u := p) r2 hc1 ?_ ?_ ?_ ?_ ?_); rfl; rfl; rfl; rfl; intro w3 r3 t3; refine Hid.out ?_)
  refine Lib.hid ?_
  replace r1 := r1.trn t3 ne.symm
  replace HD := Lib.hid (HD.out.trn HL.out.1 t3)
  clear t3 r2
  go_wp2_with (first
    | ((with_reducible refine load29 r3 hc2.len ?_ ?_ ?_); rfl; rfl)
    | ((with_reducible refine restore29 _ hc2.len r1 core_zeros.len ?_ ?_ ?_ ?_); rfl; rfl; rfl; intro w4 r4 t4))
  exact ret29 rfl rfl r4 hc2.len ⟨rfl, HD.out.trn HL.out.2 t4⟩ rfl
theorem askS (c : List Int) (W : World) (hc : M.Core c) :
    Calls Try.prog 21 #[.agg (ints .u32 c), .func (.func 22) #[] #[]] W fun e W' => e = .returned (.bool (M.bt (M.csr c 0) 1)) ∧ Dn W W' := by
  have s := hc.csr 0
  have C := Lib.hid fun w => stSup (M.csr c 0) w s.1 s.2
  have k : (W.alloc (.cells (ints .u32 c) 26)).cell? ⟨W.heap.size, 17, none⟩ = some (.int .u32 (M.csr c 0)) := (Row.new W 26 .u32 c).cell 17 (by rw [hc.len]; decide)
  go_enter Try.func21, Try.ntmps21
  go_wp2_with (go_at_call 22; (with_reducible refine (C.out _).mono ?_); rintro e w1 ⟨rfl, rfl⟩)
  go_ret
  exact ⟨rfl, (Dn.refl W).alloc _⟩
theorem askI (c : List Int) (W : World) (hc : M.Core c) :
    Calls Try.prog 21 #[.agg (ints .u32 c), .func (.func 23) #[] #[]] W fun e W' => e = .returned (.bool (M.bt (M.csr c 0) 2)) ∧ Dn W W' := by
  have s := hc.csr 0
  have C := Lib.hid fun w => stIe (M.csr c 0) w s.1 s.2
  have k : (W.alloc (.cells (ints .u32 c) 26)).cell? ⟨W.heap.size, 17, none⟩ = some (.int .u32 (M.csr c 0)) := (Row.new W 26 .u32 c).cell 17 (by rw [hc.len]; decide)
  go_enter Try.func21, Try.ntmps21
  go_wp2_with (go_at_call 23; (with_reducible refine (C.out _).mono ?_); rintro e w1 ⟨rfl, rfl⟩)
  go_ret
  exact ⟨rfl, (Dn.refl W).alloc _⟩
theorem trapSup (c : List Int) (W : World) (hc : M.Core c) :
    Calls Try.prog 12 #[.agg (ints .u32 c)] W fun e W' => e = .returned (.bool (M.sup c)) ∧ Dn W W' := by
  have hl := hc.len
  have r := Row.new W 26 .u32 c
  have D := Lib.hid ((Dn.refl W).alloc (.cells (ints .u32 c) 26))
  have C := Lib.hid fun w => askS c w hc
  rw [M.sup_bt]
  go_enter Try.func12, Try.ntmps12
  go_wp2_with (first
    | ((with_reducible refine load29 r hl ?_ ?_ ?_); rfl; rfl)
    | (go_at_call 21; (with_reducible refine (C.out _).mono ?_); rintro e w1 ⟨rfl, d1⟩))
  go_ret
  exact ⟨rfl, D.out.trans d1⟩
theorem trapIe (c : List Int) (W : World) (hc : M.Core c) :
    Calls Try.prog 14 #[.agg (ints .u32 c)] W fun e W' => e = .returned (.bool (M.ien c)) ∧ Dn W W' := by
  have hl := hc.len
  have r := Row.new W 26 .u32 c
  have D := Lib.hid ((Dn.refl W).alloc (.cells (ints .u32 c) 26))
  have C := Lib.hid fun w => askI c w hc
  rw [show M.ien c = M.bt (M.csr c 0) 2 from rfl]
  go_enter Try.func14, Try.ntmps14
  go_wp2_with (first
    | ((with_reducible refine load29 r hl ?_ ?_ ?_); rfl; rfl)
    | (go_at_call 21; (with_reducible refine (C.out _).mono ?_); rintro e w1 ⟨rfl, d1⟩))
  go_ret
  exact ⟨rfl, D.out.trans d1⟩
end Go.Proofs.Ytnbedmjchgfknaa
