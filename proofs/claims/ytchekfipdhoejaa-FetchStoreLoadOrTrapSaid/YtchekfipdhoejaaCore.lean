/-
  A whole processor (29 words) loaded and stored, with and without a drawn order: no statement of the program by itself.
-/
import Derived.Test.YtchekfipdhoejaaBase
import Derived.Test.YtchekfipdhoejaaRelMath
import Derived.BigQuiet
namespace Go.Proofs.Ytchekfipdhoejaa
open Go.ChangeShapes Go.WideShapes Go.ChangeAt Go.RowKit Go.Sort
set_option linter.unusedVariables false

theorem info29 : (Try.prog.info? 26).map (·.size) = some 29 := by kernel_rfl
theorem info_core (c : List Int) (h : c.length = 29) : (Try.prog.info? 26).map (·.size) = some (ints .u32 c).size := by rw [ints_size, h]; exact info29
theorem size_alloc (w : World) (o : Obj) : (w.alloc o).heap.size = w.heap.size + 1 := by simp
def zeros (n : Nat) : List Int := List.replicate n 0
theorem zsize : (ints .u32 (zeros 29)).size = 29 := by rw [ints_size]; rfl

section
variable {P : Program} {ops : Array Oper} {rest : List Oper} {dst : Option Tmp} {x y : Operand} {ty : TypeId} {pos : String} {aft : Array Edge} {gd : Option (Nat × Bool)} {a : Act} {w : World} {Q : Exit → Act → World → Prop} {t : TypeId} {b : Nat} {cs : Array Value}
/-- a whole struct is loaded -/
theorem wpList_load_str {fs : Array Field} (hb : w.heap[b]? = some (.cells cs t)) (hu : P.underlying t = some (.struct fs)) (hi : (P.info? t).map (·.size) = some cs.size)
    (hw : Region.wanted ⟨dst, .load t x, ty, pos, aft, gd⟩ (yielded ops a.tmps) = true) (hx : a.eval x = .pointer (some ⟨b, 0, none⟩))
    (h : wpList P ops Q rest (a.put dst (.agg cs)) w) : wpList P ops Q (⟨dst, .load t x, ty, pos, aft, gd⟩ :: rest) a w := by
  unfold wpList
  rw [if_pos hw]
  exact .inl (wp_load_row t x rfl b hx t cs (0, 0) _ hb hu rfl hi h)
end

section
variable {ops : Array Oper} {rest : List Oper} {dst : Option Tmp} {x y : Operand} {ty : TypeId} {pos : String} {aft : Array Edge} {gd : Option (Nat × Bool)} {a : Act} {w : World} {Q : Exit → Act → World → Prop} {b : Nat} {c : List Int}
/-- a processor is loaded -/
theorem load29 (r : Row w b 26 .u32 c) (hl : c.length = 29) (hw : Region.wanted ⟨dst, .load 26 x, ty, pos, aft, gd⟩ (yielded ops a.tmps) = true) (hx : a.eval x = .pointer (some ⟨b, 0, none⟩))
    (h : wpList Try.prog ops Q rest (a.put dst (.agg (ints .u32 c))) w) : wpList Try.prog ops Q (⟨dst, .load 26 x, ty, pos, aft, gd⟩ :: rest) a w :=
  wpList_load_str r Try.underlying26 (info_core c hl) hw hx h
/-- a new variable of a processor -/
theorem alloc29 (hb : w.heap.size = b) (hw : Region.wanted ⟨dst, .alloc 26, ty, pos, aft, gd⟩ (yielded ops a.tmps) = true)
    (h : wpList Try.prog ops Q rest (a.put dst (.pointer (some ⟨b, 0, none⟩))) (w.alloc (.cells (ints .u32 (zeros 29)) 26))) :
    wpList Try.prog ops Q (⟨dst, .alloc 26, ty, pos, aft, gd⟩ :: rest) a w := by
  subst hb
  have hz : (Try.prog.info? 26).map (fun i => (i.zero, i.size)) = some (some (.agg (ints .u32 (zeros 29))), 29) := by kernel_rfl
  have hz1 := (zero_of_info hz).1
  unfold wpList
  rw [if_pos hw]
  refine .inl ?_
  unfold Oper.wp execOp
  simp only [Instr.alloc, Sem.run_bind, hz1, Result.andThen_ok]
  simp only [newVar, newRow, Value.cells, go_sem]
  exact h
/-- a processor is stored into a new variable -/
theorem store29 {old : Array Value} (d : List Int) (hl : d.length = 29) (ho : old.size = 29) (hw : Region.wanted ⟨none, .store 26 x y, ty, pos, aft, gd⟩ (yielded ops a.tmps) = true) (hx : a.eval x = .pointer (some ⟨b, 0, none⟩)) (hy : a.eval y = .agg (ints .u32 d)) (hb : b = w.heap.size)
    (h : wpList Try.prog ops Q rest a (w.alloc (.cells (ints .u32 d) 26))) :
    wpList Try.prog ops Q (⟨none, .store 26 x y, ty, pos, aft, gd⟩ :: rest) a (w.alloc (.cells old 26)) :=
  wpList_store_last (info_core d hl) (by rw [ints_size, hl, ho]) (ints_one _ d) hw hx hy hb h
end

section
variable {ops : Array Oper} {rest : List Oper} {dst : Option Tmp} {x y : Operand} {ty : TypeId} {pos : String} {aft : Array Edge} {gd : Option (Nat × Bool)} {a : Act} {w : World} {b : Nat} {c : List Int} {Q : Act → Prop}
/-- the worlds in which nothing of w has turned -/
abbrev Later (w : World) : World → Prop := fun w' => ∃ p : Regrown, w' = grow (redrawn w p.d) p.os
theorem Row.later {t : TypeId} {k : IntKind} (r : Row w b t k c) (w' : World) (h : Later w w') : Row w' b t k c := by
  obtain ⟨p, rfl⟩ := h
  exact r.dn (below_regrown w p.d p.os)
/-- a processor is loaded where the order is drawn -/
theorem qop29 {K : Act → Prop} (r : Row w b 26 .u32 c) (hl : c.length = 29) (hx : a.eval x = .pointer (some ⟨b, 0, none⟩)) (h : K (a.put dst (.agg (ints .u32 c)))) : Oper.quiet Try.prog ⟨dst, .load 26 x, ty, pos, aft, gd⟩ a (Later w) K := by
  refine ⟨_, fun w' hw' => ?_, h⟩
  have r' := r.later w' hw'
  unfold Oper.quietAt execOp
  simp only [hx, Instr.loadAt, Instr.sureAddr, Sem.run_bind, Sem.run_pure, Result.andThen_ok, run_loadVar_row w' b 26 26 (ints .u32 c) (0, 0) _ r' Try.underlying26 rfl (info_core c hl)]
  exact ⟨rfl, rfl⟩
end
end Go.Proofs.Ytchekfipdhoejaa
