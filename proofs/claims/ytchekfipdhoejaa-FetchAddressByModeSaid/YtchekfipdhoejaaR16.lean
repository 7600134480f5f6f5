/-
  Sixteen words loaded, stored, compared and handed back, with and without a drawn order: no statement of the program by itself.
-/
import Derived.Test.YtchekfipdhoejaaBase
import Derived.BigQuiet
import Derived.Test.YtchekfipdhoejaaCore
namespace Go.Proofs.Ytchekfipdhoejaa
open Go.ChangeShapes Go.WideShapes Go.ChangeAt Go.RowKit Go.Sort
set_option linter.unusedVariables false

theorem info16 : (Try.prog.info? 23).map (·.size) = some 16 := by kernel_rfl
theorem info_16 (c : List Int) (h : c.length = 16) : (Try.prog.info? 23).map (·.size) = some (ints .u32 c).size := by rw [ints_size, h]; exact info16
theorem zsize16 : (ints .u32 (zeros 16)).size = 16 := by rw [ints_size]; rfl
theorem size2 (w : World) (o p : Obj) : ((w.alloc o).alloc p).heap.size = w.heap.size + 1 + 1 := by simp

theorem Row.second (w : World) (o : Obj) (t : TypeId) (k : IntKind) (c : List Int) : Row ((w.alloc o).alloc (.cells (ints k c) t)) (w.heap.size + 1) t k c := by
  have h := Row.new (w.alloc o) t k c
  rwa [size_alloc] at h
theorem Row.third (w : World) (o p : Obj) (t : TypeId) (k : IntKind) (c : List Int) : Row (((w.alloc o).alloc p).alloc (.cells (ints k c) t)) (w.heap.size + 1 + 1) t k c := by
  have h := Row.new ((w.alloc o).alloc p) t k c
  rwa [size2] at h
/-- another block is stored into -/
theorem Row.other {w : World} {b g : Nat} {t : TypeId} {k : IntKind} {c : List Int} (h : Row w b t k c) (e : b ≠ g) (cs : Array Value) : Row (w.setRow g cs) b t k c := (setRow_other w g b cs e).trans h
theorem Row.otherCell {w : World} {b g i : Nat} {t : TypeId} {k : IntKind} {c : List Int} (h : Row w b t k c) (e : b ≠ g) (v : Value) : Row (w.setCell ⟨g, i, none⟩ v) b t k c := (heap_setCell_other w ⟨g, i, none⟩ b v e).trans h

section
variable {ops : Array Oper} {rest : List Oper} {dst : Option Tmp} {x y : Operand} {ty : TypeId} {pos : String} {aft : Array Edge} {gd : Option (Nat × Bool)} {a : Act} {w : World} {Q : Exit → Act → World → Prop} {b : Nat} {c : List Int}
/-- sixteen words are loaded -/
theorem load16 (r : Row w b 23 .u32 c) (hl : c.length = 16) (hw : Region.wanted ⟨dst, .load 23 x, ty, pos, aft, gd⟩ (yielded ops a.tmps) = true) (hx : a.eval x = .pointer (some ⟨b, 0, none⟩))
    (h : wpList Try.prog ops Q rest (a.put dst (.agg (ints .u32 c))) w) : wpList Try.prog ops Q (⟨dst, .load 23 x, ty, pos, aft, gd⟩ :: rest) a w :=
  wpList_load_blk r Try.underlying23 (info_16 c hl) hw hx h
/-- a new variable of sixteen words -/
theorem alloc16 (hb : w.heap.size = b) (hw : Region.wanted ⟨dst, .alloc 23, ty, pos, aft, gd⟩ (yielded ops a.tmps) = true)
    (h : wpList Try.prog ops Q rest (a.put dst (.pointer (some ⟨b, 0, none⟩))) (w.alloc (.cells (ints .u32 (zeros 16)) 23))) :
    wpList Try.prog ops Q (⟨dst, .alloc 23, ty, pos, aft, gd⟩ :: rest) a w := by
  subst hb
  have hz : (Try.prog.info? 23).map (fun i => (i.zero, i.size)) = some (some (.agg (ints .u32 (zeros 16))), 16) := by kernel_rfl
  have hz1 := (zero_of_info hz).1
  unfold wpList
  rw [if_pos hw]
  refine .inl ?_
  unfold Oper.wp execOp
  simp only [Instr.alloc, Sem.run_bind, hz1, Result.andThen_ok]
  simp only [newVar, newRow, Value.cells, go_sem]
  exact h
/-- sixteen words are stored into the block that was made last -/
theorem store16 {old : Array Value} (d : List Int) (hl : d.length = 16) (ho : old.size = 16) (hw : Region.wanted ⟨none, .store 23 x y, ty, pos, aft, gd⟩ (yielded ops a.tmps) = true) (hx : a.eval x = .pointer (some ⟨b, 0, none⟩)) (hy : a.eval y = .agg (ints .u32 d)) (hb : b = w.heap.size)
    (h : wpList Try.prog ops Q rest a (w.alloc (.cells (ints .u32 d) 23))) :
    wpList Try.prog ops Q (⟨none, .store 23 x y, ty, pos, aft, gd⟩ :: rest) a (w.alloc (.cells old 23)) :=
  wpList_store_last (info_16 d hl) (by rw [ints_size, hl, ho]) (ints_one _ d) hw hx hy hb h
/-- .. or into any block of sixteen words -/
theorem restore16 (r : Row w b 23 .u32 c) (d : List Int) (hc : c.length = 16) (hl : d.length = 16) (hw : Region.wanted ⟨none, .store 23 x y, ty, pos, aft, gd⟩ (yielded ops a.tmps) = true) (hx : a.eval x = .pointer (some ⟨b, 0, none⟩)) (hy : a.eval y = .agg (ints .u32 d))
    (h : wpList Try.prog ops Q rest a (w.setRow b (ints .u32 d))) : wpList Try.prog ops Q (⟨none, .store 23 x y, ty, pos, aft, gd⟩ :: rest) a w :=
  wpList_store_blk r (info_16 d hl) (by rw [ints_size, ints_size, hl, hc]) (ints_one _ d) hw hx hy h
end
/-- sixteen words are handed back -/
theorem ret16 {fn : Func} {p : Tmp} {act : Act} {w : World} {b : Nat} {c : List Int} {Post : Ending → World → Prop} (h : fn.results = #[.cell p 23]) (hp : act.tmps.getD p undef = .pointer (some ⟨b, 0, none⟩)) (r : Row w b 23 .u32 c) (hl : c.length = 16)
    (k : Post (.returned (.agg (ints .u32 c))) w) (hd : act.defers = []) : bodyPost Try.prog fn Post .ret act w :=
  bodyPost_ret (results_cell_row h _ _ b 23 _ (0, 0) _ hp r Try.underlying23 rfl (info_16 c hl)) hd k

section
variable {ops : Array Oper} {rest : List Oper} {dst : Option Tmp} {x y : Operand} {ty : TypeId} {pos : String} {aft : Array Edge} {gd : Option (Nat × Bool)} {a : Act} {w : World} {b : Nat} {c : List Int} {Q : Act → Prop}
/-- sixteen words are loaded where the order is drawn -/
theorem qop16 {K : Act → Prop} (r : Row w b 23 .u32 c) (hl : c.length = 16) (hx : a.eval x = .pointer (some ⟨b, 0, none⟩)) (h : K (a.put dst (.agg (ints .u32 c)))) : Oper.quiet Try.prog ⟨dst, .load 23 x, ty, pos, aft, gd⟩ a (Later w) K := by
  refine ⟨_, fun w' hw' => ?_, h⟩
  have r' := r.later w' hw'
  unfold Oper.quietAt execOp
  simp only [hx, Instr.loadAt, Instr.sureAddr, Sem.run_bind, Sem.run_pure, Result.andThen_ok, run_loadVar_row w' b 23 23 (ints .u32 c) (0, 0) _ r' Try.underlying23 rfl (info_16 c hl)]
  exact ⟨rfl, rfl⟩
end
/-- a contract that holds in every world, where the order is drawn -/
theorem later_of {P : Program} {f : FuncId} {args : Array Value} {R : Value} (w : World) (h : ∀ w', Calls P f args w' fun e w'' => e = .returned R ∧ Dn w' w'') :
    ∀ p q, Calls P f args (grow (redrawn w p) q) fun e w'' => e = .returned R ∧ ∃ p : Regrown, w'' = grow (redrawn w p.d) p.os := fun p q => Calls.regrown_of (h _)
/-- sixteen words are compared with sixteen -/
theorem eq16 {c d : List Int} (hc : c.length = 16) (hd : d.length = 16) (w : World) : (Op.equalIn 10000 23 (.agg (ints .u32 c)) (.agg (ints .u32 d))).run Try.prog w = .ok (c == d) w :=
  equal_ints 9998 Try.underlying23 Try.underlying22 (by kernel_rfl) c d hc hd w
end Go.Proofs.Ytchekfipdhoejaa
