/-
  What each function of package trap returns when called: contracts over the translated program. Conditions: those that stand in each theorem.
-/
import Derived.Test.YtchekfipdhoejaaBlk
import Derived.Test.YtchekfipdhoejaaTrapMath
namespace Go.Proofs.Ytchekfipdhoejaa
open Go.ChangeShapes Go.WideShapes Go.ChangeAt Go.RowKit Go.Sort
set_option linter.unusedVariables false

theorem infoU32 : (Try.prog.info? 22).map (·.size) = some 1 := by kernel_rfl
theorem len29 {c : List Int} (h : M.Core c) (i : Nat) (hi : decide (i < 29) = true) : i < c.length := by
  rw [h.len]; exact of_decide_eq_true hi

section
variable {ops : Array Oper} {rest : List Oper} {dst : Option Tmp} {x y : Operand} {ty : TypeId} {pos : String} {aft : Array Edge} {gd : Option (Nat × Bool)} {a : Act} {w : World} {Q : Exit → Act → World → Prop} {b : Nat} {c : List Int}
/-- a word is stored into a processor -/
theorem store1 {u : Int} {i : Nat} (r : Row w b 26 .u32 c) (hc : M.Core c)
    (hw : Region.wanted ⟨none, .store 22 x y, ty, pos, aft, gd⟩ (yielded ops a.tmps) = true) (hx : a.eval x = .pointer (some ⟨b, i, none⟩)) (hy : a.eval y = .int .u32 u) (hl : decide (i < 29) = true)
    (h : ∀ w', Row w' b 26 .u32 (c.set i u) → Trn b w w' → wpList Try.prog ops Q rest a w') : wpList Try.prog ops Q (⟨none, .store 22 x y, ty, pos, aft, gd⟩ :: rest) a w :=
  wpList_store_int r infoU32 hw hx hy (len29 hc i hl) h
/-- a processor is stored into a processor -/
theorem restore29 (d : List Int) (hd : d.length = 29) (r : Row w b 26 .u32 c) (hc : c.length = 29)
    (hw : Region.wanted ⟨none, .store 26 x y, ty, pos, aft, gd⟩ (yielded ops a.tmps) = true) (hx : a.eval x = .pointer (some ⟨b, 0, none⟩)) (hy : a.eval y = .agg (ints .u32 d))
    (h : ∀ w', Row w' b 26 .u32 d → Trn b w w' → wpList Try.prog ops Q rest a w') : wpList Try.prog ops Q (⟨none, .store 26 x y, ty, pos, aft, gd⟩ :: rest) a w :=
  wpList_store_whole (ints .u32 d) r.blk (info_core d hd) (by rw [ints_size, ints_size, hc, hd]) (ints_one _ d) hw hx hy h
end
/-- a processor is handed back -/
theorem ret29 {fn : Func} {p : Tmp} {act : Act} {w : World} {b : Nat} {c : List Int} {Post : Ending → World → Prop} (h : fn.results = #[.cell p 26]) (hp : act.tmps.getD p undef = .pointer (some ⟨b, 0, none⟩)) (r : Row w b 26 .u32 c) (hl : c.length = 29)
    (k : Post (.returned (.agg (ints .u32 c))) w) (hd : act.defers = []) : bodyPost Try.prog fn Post .ret act w :=
  bodyPost_ret (results_cell_row h _ _ b 26 _ (0, 0) _ hp r Try.underlying26 rfl (info_core c hl)) hd k

theorem stHas (s p : Int) (W : World) (s0 : 0 ≤ s) (s1 : s < 4294967296) (hp : M.P4 p) :
    Calls Try.prog 46 #[.int .u32 s, .int .u32 p] W fun e W' => e = .returned (.bool (M.bt s p)) ∧ W = W' := by
  have HE := Lib.hid (M.bt_and s p s0 s1 hp)
  clear hp
  go_enter Try.func46, Try.ntmps46
  go_wp2
  go_ret
  exact ⟨ret_bool HE.out, rfl⟩
theorem P1 : M.P4 1 := .inl rfl
theorem P2 : M.P4 2 := .inr (.inl rfl)
theorem P3 : M.P4 4 := .inr (.inr (.inl rfl))
theorem P8 : M.P4 8 := .inr (.inr (.inr rfl))
theorem stIe (s : Int) (W : World) (s0 : 0 ≤ s) (s1 : s < 4294967296) :
    Calls Try.prog 43 #[.int .u32 s] W fun e W' => e = .returned (.bool (M.bt s 2)) ∧ W = W' := by
  have C1 := Lib.hid fun w => stHas s 2 w s0 s1 P2
  generalize M.bt s 2 = b at *
  go_enter Try.func43, Try.ntmps43
  go_wp2_with (go_at_call 46; (with_reducible refine (C1.out _).mono ?_); rintro e w ⟨rfl, rfl⟩)
  go_ret
  exact ⟨rfl, rfl⟩

/-- the blocks of a call with one processor and a result -/
theorem box_res (W : World) (c : List Int) (t : TypeId) : ∃ w b0 b1, w = (W.alloc (.cells (ints .u32 c) t)).alloc (.cells (ints .u32 (zeros 29)) t) ∧ b0 = W.heap.size ∧ b1 = W.heap.size + 1 ∧
    Row w b0 t .u32 c ∧ Row w b1 t .u32 (zeros 29) ∧ b0 ≠ b1 ∧ W.heap.size ≤ b0 ∧ W.heap.size ≤ b1 ∧ Dn W w := by
  refine ⟨_, _, _, rfl, rfl, rfl, (Row.new W t .u32 c).old _, ?_, by omega, Nat.le_refl _, by omega, ((Dn.refl W).alloc _).alloc _⟩
  have h := Row.new (W.alloc (.cells (ints .u32 c) t)) t .u32 (zeros 29)
  rwa [size_alloc] at h
theorem core_zeros : M.Core (zeros 29) := M.core_zero

theorem askI (c : List Int) (W : World) (hc : M.Core c) :
    Calls Try.prog 42 #[.agg (ints .u32 c), .func (.func 43) #[] #[]] W fun e W' => e = .returned (.bool (M.bt (M.csr c 0) 2)) ∧ Dn W W' := by
  have s := hc.csr 0
  have C := Lib.hid fun w => stIe (M.csr c 0) w s.1 s.2
  have k : (W.alloc (.cells (ints .u32 c) 26)).cell? ⟨W.heap.size, 17, none⟩ = some (.int .u32 (M.csr c 0)) := (Row.new W 26 .u32 c).cell 17 (by rw [hc.len]; decide)
  go_enter Try.func42, Try.ntmps42
  go_wp2_with (go_at_call 43; (with_reducible refine (C.out _).mono ?_); rintro e w1 ⟨rfl, rfl⟩)
  go_ret
  exact ⟨rfl, (Dn.refl W).alloc _⟩
theorem trapIe (c : List Int) (W : World) (hc : M.Core c) :
    Calls Try.prog 32 #[.agg (ints .u32 c)] W fun e W' => e = .returned (.bool (M.ien c)) ∧ Dn W W' := by
  have hl := hc.len
  have r := Row.new W 26 .u32 c
  have D := Lib.hid ((Dn.refl W).alloc (.cells (ints .u32 c) 26))
  have C := Lib.hid fun w => askI c w hc
  rw [show M.ien c = M.bt (M.csr c 0) 2 from rfl]
  go_enter Try.func32, Try.ntmps32
  go_wp2_with (first
    | ((with_reducible refine load29 r hl ?_ ?_ ?_); rfl; rfl)
    | (go_at_call 42; (with_reducible refine (C.out _).mono ?_); rintro e w1 ⟨rfl, d1⟩))
  go_ret
  exact ⟨rfl, D.out.trans d1⟩
end Go.Proofs.Ytchekfipdhoejaa
