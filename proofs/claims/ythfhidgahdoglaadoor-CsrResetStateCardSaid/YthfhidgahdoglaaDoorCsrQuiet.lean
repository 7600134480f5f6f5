/-
  Whole arrays loaded and compared where the order is drawn: no statement of the program by itself.
-/
import Derived.Test.YthfhidgahdoglaaDoorCsrAwake
import Derived.Test.YthfhidgahdoglaaDoorCsrLaws
import Derived.Lib.QuietBelow
import Derived.BigQuiet
namespace Go.Proofs.YthfhidgahdoglaaDoor
open Go.ChangeShapes Go.WideShapes Go.ChangeAt Go.RowKit Go.Sort
set_option linter.unusedVariables false

section
variable {ops : Array Oper} {rest : List Oper} {dst : Option Tmp} {x y : Operand} {ty : TypeId} {pos : String} {aft : Array Edge} {gd : Option (Nat × Bool)} {a : Act} {w : World} {b : Nat} {c : List Int} {Q : Act → Prop}
/-- the worlds in which nothing of w has turned -/
abbrev Later (w : World) : World → Prop := fun w' => ∃ p : Regrown, w' = grow (redrawn w p.d) p.os
theorem Row.later (r : Row w b 23 .u32 c) (w' : World) (h : Later w w') : Row w' b 23 .u32 c := by
  obtain ⟨p, rfl⟩ := h
  exact r.dn (below_regrown w p.d p.os)
/-- twelve words are loaded where the order is drawn -/
theorem quiet12 (r : Row w b 23 .u32 c) (hl : c.length = 12) (hw : Region.wanted ⟨dst, .load 23 x, ty, pos, aft, gd⟩ (yielded ops a.tmps) = true) (hx : a.eval x = .pointer (some ⟨b, 0, none⟩))
    (h : wpQuiet Tryd.prog ops (Later w) Q rest (a.put dst (.agg (ints .u32 c)))) : wpQuiet Tryd.prog ops (Later w) Q (⟨dst, .load 23 x, ty, pos, aft, gd⟩ :: rest) a := by
  unfold wpQuiet
  rw [if_pos hw]
  refine ⟨_, fun w' hw' => ?_, h⟩
  have r' := r.later w' hw'
  unfold Oper.quietAt execOp
  simp only [hx, Instr.loadAt, Instr.sureAddr, Sem.run_bind, Sem.run_pure, Result.andThen_ok, run_loadVar_row w' b 23 23 (ints .u32 c) (0, 0) _ r' Tryd.underlying23 rfl (info_ints c hl)]
  exact ⟨rfl, rfl⟩
/-- .. the operation alone -/
theorem qop12 {K : Act → Prop} (r : Row w b 23 .u32 c) (hl : c.length = 12) (hx : a.eval x = .pointer (some ⟨b, 0, none⟩)) (h : K (a.put dst (.agg (ints .u32 c)))) : Oper.quiet Tryd.prog ⟨dst, .load 23 x, ty, pos, aft, gd⟩ a (Later w) K := by
  refine ⟨_, fun w' hw' => ?_, h⟩
  have r' := r.later w' hw'
  unfold Oper.quietAt execOp
  simp only [hx, Instr.loadAt, Instr.sureAddr, Sem.run_bind, Sem.run_pure, Result.andThen_ok, run_loadVar_row w' b 23 23 (ints .u32 c) (0, 0) _ r' Tryd.underlying23 rfl (info_ints c hl)]
  exact ⟨rfl, rfl⟩
end
/-- two arrays of twelve words are compared -/
theorem eq12 {c d : List Int} (hc : c.length = 12) (hd : d.length = 12) (w : World) : (Op.equalIn 10000 23 (.agg (ints .u32 c)) (.agg (ints .u32 d))).run Tryd.prog w = .ok (c == d) w :=
  equal_ints 9998 Tryd.underlying23 Tryd.underlying22 (by kernel_rfl) c d hc hd w
end Go.Proofs.YthfhidgahdoglaaDoor
