/-
  A block of cells, whole or in part, loaded and stored, with and without a drawn order; behind a store the world is a letter of which only one block has turned. No statement of the program by itself.
-/
import Derived.Test.YtchekfipdhoejaaBase
import Derived.BigQuiet
import Derived.Deep.MidRow
import Derived.Laws.CopyRow
import Derived.Test.YtchekfipdhoejaaCore
namespace Go.Proofs.Ytchekfipdhoejaa
open Go.ChangeShapes Go.WideShapes Go.ChangeAt Go.RowKit Go.Sort
set_option linter.unusedVariables false

/-- block b holds these cells -/
def Blk (w : World) (b : Nat) (t : TypeId) (cs : Array Value) : Prop := w.heap[b]? = some (.cells cs t)
theorem Blk.lt {w : World} {b : Nat} {t : TypeId} {cs : Array Value} (h : Blk w b t cs) : b < w.heap.size := (Array.getElem?_eq_some_iff.1 h).1
theorem Blk.dn {w w' : World} {b : Nat} {t : TypeId} {cs : Array Value} (h : Blk w b t cs) (hd : Dn w w') : Blk w' b t cs := (hd.block b h.lt).trans h
theorem Blk.new (w : World) (t : TypeId) (cs : Array Value) : Blk (w.alloc (.cells cs t)) w.heap.size t cs := heap_alloc_last _ _
theorem Blk.old {w : World} {b : Nat} {t : TypeId} {cs : Array Value} (h : Blk w b t cs) (o : Obj) : Blk (w.alloc o) b t cs := h.dn ((Dn.refl w).alloc o)
theorem Blk.cell {w : World} {b : Nat} {t : TypeId} {cs : Array Value} (h : Blk w b t cs) {i : Nat} {v : Value} (hv : cs[i]? = some v) : w.cell? ⟨b, i, none⟩ = some v := (cell_of_row w b i _ t (0, 0) h).trans hv
theorem Row.blk {w : World} {b : Nat} {t : TypeId} {k : IntKind} {c : List Int} (h : Row w b t k c) : Blk w b t (ints k c) := h
theorem Blk.row {w : World} {b : Nat} {t : TypeId} {k : IntKind} {c : List Int} (h : Blk w b t (ints k c)) : Row w b t k c := h
theorem Row.old {w : World} {b : Nat} {t : TypeId} {k : IntKind} {c : List Int} (h : Row w b t k c) (o : Obj) : Row (w.alloc o) b t k c := h.dn ((Dn.refl w).alloc o)

/-- only block b has turned -/
structure Trn (b : Nat) (w w' : World) : Prop where
  os : w'.os = w.os
  tape : w'.tape = w.tape
  output : w'.output = w.output
  size : w'.heap.size = w.heap.size
  block : ∀ i, i ≠ b → w'.heap[i]? = w.heap[i]?
theorem Trn.setRow (w : World) (b : Nat) (cs : Array Value) : Trn b w (w.setRow b cs) := ⟨rfl, rfl, rfl, by simp, fun i hi => setRow_other w b i cs hi⟩
theorem Dn.trn {a w w' : World} {b : Nat} (h : Dn a w) (hb : a.heap.size ≤ b) (t : Trn b w w') : Dn a w' :=
  ⟨t.os.trans h.os, t.tape.trans h.tape, t.output.trans h.output, by rw [t.size]; exact h.size, fun i hi => (t.block i (by omega)).trans (h.block i hi)⟩
theorem Blk.trn {w w' : World} {b b' : Nat} {t : TypeId} {cs : Array Value} (h : Blk w b t cs) (k : Trn b' w w') (hn : b ≠ b') : Blk w' b t cs := (k.block b hn).trans h
theorem Row.trn {w w' : World} {b b' : Nat} {t : TypeId} {k : IntKind} {c : List Int} (h : Row w b t k c) (e : Trn b' w w') (hn : b ≠ b') : Row w' b t k c := (e.block b hn).trans h

/-- the cells vs from place o on -/
def lay (cs : Array Value) (o : Nat) (vs : Array Value) : Array Value := (cs.toList.take o ++ vs.toList ++ cs.toList.drop (o + vs.size)).toArray
theorem lay_size (cs : Array Value) (o : Nat) (vs : Array Value) (h : o + vs.size ≤ cs.size) : (lay cs o vs).size = cs.size := by
  simp [lay]; omega
theorem lay_one (cs : Array Value) (o : Nat) (v : Value) (h : o < cs.size) : lay cs o #[v] = cs.setIfInBounds o v := by
  apply Array.toList_inj.1
  rw [Array.toList_setIfInBounds, List.set_eq_take_append_cons_drop, if_pos (by simpa using h)]
  simp [lay]
theorem lay_all (cs vs : Array Value) (h : cs.size = vs.size) : lay cs 0 vs = vs := by
  apply Array.toList_inj.1
  simp [lay, h]
theorem lay_ints (k : IntKind) (c d : List Int) (o : Nat) : lay (ints k c) o (ints k d) = ints k (c.take o ++ d ++ c.drop (o + d.length)) := by
  simp [lay, ints]
theorem part_ints (k : IntKind) (c : List Int) (o n : Nat) : (ints k c).extract o (o + n) = ints k ((c.drop o).take n) := by
  apply Array.toList_inj.1
  simp [ints, List.map_take, List.map_drop]

section
variable {P : Program} {ops : Array Oper} {rest : List Oper} {dst : Option Tmp} {x y : Operand} {ty : TypeId} {pos : String} {aft : Array Edge} {gd : Option (Nat × Bool)} {a : Act} {w : World} {Q : Exit → Act → World → Prop} {t s : TypeId} {b : Nat} {cs : Array Value} {d : TypeDesc} {k : IntKind} {c : List Int}

theorem run_storeVar_at (o : Nat) (v : Value) (hb : Blk w b t cs) (hi : (P.info? s).map (·.size) = some v.cells.size) (ho : o + v.cells.size ≤ cs.size) (h1 : v.cells.all (·.oneCell') = true) :
    (storeVar s ⟨b, o, none⟩ v).run P w = .ok () (w.setRow b (lay cs o v.cells)) := by
  have hst := run_storeCells_at (P := P) b o t v.cells.toList 0 cs w hb (by simpa using ho) (fun u hu => (Array.all_eq_true_iff_forall_mem.1 h1) u (by simpa using hu))
  simp only [Nat.add_zero, Array.length_toList] at hst
  cases hq : P.info? s with
  | none => simp [hq] at hi
  | some i =>
    have hs : v.cells.size = i.size := by simp [hq] at hi; omega
    simp only [storeVar, sizeOf, typeInfo, Sem.run_bind]
    simp [hq, hs, hst, lay]

/-- a value is stored into a part of a block -/
theorem wpList_store_at (o : Nat) (v : Value) (hb : Blk w b t cs) (hi : (P.info? s).map (·.size) = some v.cells.size) (ho : o + v.cells.size ≤ cs.size) (h1 : v.cells.all (·.oneCell') = true)
    (hw : Region.wanted ⟨none, .store s x y, ty, pos, aft, gd⟩ (yielded ops a.tmps) = true) (hx : a.eval x = .pointer (some ⟨b, o, none⟩)) (hy : a.eval y = v)
    (h : ∀ w', Blk w' b t (lay cs o v.cells) → Trn b w w' → wpList P ops Q rest a w') : wpList P ops Q (⟨none, .store s x y, ty, pos, aft, gd⟩ :: rest) a w := by
  unfold wpList
  rw [if_pos hw]
  refine .inl ?_
  unfold Oper.wp execOp
  simp only [hx, hy, Instr.storeAt, Instr.sureAddr, Sem.run_bind, Sem.run_pure, Result.andThen_ok, run_storeVar_at o v hb hi ho h1]
  exact h _ (setRow_heap w b _ _ t _ hb) (Trn.setRow w b _)
/-- a whole block is stored -/
theorem wpList_store_whole (vs : Array Value) (hb : Blk w b t cs) (hi : (P.info? s).map (·.size) = some vs.size) (ho : cs.size = vs.size) (h1 : vs.all (·.oneCell') = true)
    (hw : Region.wanted ⟨none, .store s x y, ty, pos, aft, gd⟩ (yielded ops a.tmps) = true) (hx : a.eval x = .pointer (some ⟨b, 0, none⟩)) (hy : a.eval y = .agg vs)
    (h : ∀ w', Blk w' b t vs → Trn b w w' → wpList P ops Q rest a w') : wpList P ops Q (⟨none, .store s x y, ty, pos, aft, gd⟩ :: rest) a w := by
  refine wpList_store_at 0 (.agg vs) hb hi (by simp only [Value.cells]; omega) h1 hw hx hy fun w' hb' ht => h w' ?_ ht
  rwa [show lay cs 0 (Value.agg vs).cells = vs from lay_all cs vs ho] at hb'
/-- an integer is stored into a row -/
theorem wpList_store_int {u : Int} {i : Nat} (r : Row w b t k c) (hi : (P.info? s).map (·.size) = some 1)
    (hw : Region.wanted ⟨none, .store s x y, ty, pos, aft, gd⟩ (yielded ops a.tmps) = true) (hx : a.eval x = .pointer (some ⟨b, i, none⟩)) (hy : a.eval y = .int k u) (hl : i < c.length)
    (h : ∀ w', Row w' b t k (c.set i u) → Trn b w w' → wpList P ops Q rest a w') : wpList P ops Q (⟨none, .store s x y, ty, pos, aft, gd⟩ :: rest) a w := by
  refine wpList_store_at i (.int k u) r.blk hi (by rw [ints_size]; simp only [Value.cells, List.size_toArray, List.length_singleton]; omega) (by simp [Value.cells, Value.oneCell']) hw hx hy fun w' hb' ht => h w' ?_ ht
  rwa [show lay (ints k c) i (Value.int k u).cells = ints k (c.set i u) by rw [← ints_set]; exact lay_one _ _ _ (by rw [ints_size]; exact hl)] at hb'
/-- several integers are stored into a row -/
theorem wpList_store_ints (e : List Int) {i : Nat} (r : Row w b t k c) (hi : (P.info? s).map (·.size) = some e.length)
    (hw : Region.wanted ⟨none, .store s x y, ty, pos, aft, gd⟩ (yielded ops a.tmps) = true) (hx : a.eval x = .pointer (some ⟨b, i, none⟩)) (hy : a.eval y = .agg (ints k e)) (hl : i + e.length ≤ c.length)
    (h : ∀ w', Row w' b t k (c.take i ++ e ++ c.drop (i + e.length)) → Trn b w w' → wpList P ops Q rest a w') : wpList P ops Q (⟨none, .store s x y, ty, pos, aft, gd⟩ :: rest) a w := by
  refine wpList_store_at i (.agg (ints k e)) r.blk (by rw [hi]; simp [Value.cells, ints_size]) (by rw [ints_size]; simp only [Value.cells, ints_size]; omega) (ints_one k e) hw hx hy fun w' hb' ht => h w' ?_ ht
  rwa [show lay (ints k c) i (Value.agg (ints k e)).cells = _ from lay_ints k c e i] at hb'

/-- a part of a row is loaded -/
theorem run_loadVar_part (r : Row w b t k c) (o n : Nat) (hu : P.underlying s = some d) (hd : d.isRow = true) (hi : (P.info? s).map (·.size) = some n) (hl : o + n ≤ c.length) :
    (loadVar s ⟨b, o, none⟩).run P w = .ok (.agg (ints k ((c.drop o).take n))) w := by
  have hr := World.rangeAt_of_block (C := ints k c) r o n
  rw [part_ints] at hr
  have h := run_loadVar_mid w b o s _ d hr hu hd (by rw [hi, Array.length_toList, ints_size, List.length_take, List.length_drop]; congr 1; omega)
  rwa [Array.toArray_toList] at h
theorem wpList_load_part (r : Row w b t k c) (o n : Nat) (hu : P.underlying s = some d) (hd : d.isRow = true) (hi : (P.info? s).map (·.size) = some n) (hl : o + n ≤ c.length)
    (hw : Region.wanted ⟨dst, .load s x, ty, pos, aft, gd⟩ (yielded ops a.tmps) = true) (hx : a.eval x = .pointer (some ⟨b, o, none⟩))
    (h : wpList P ops Q rest (a.put dst (.agg (ints k ((c.drop o).take n)))) w) : wpList P ops Q (⟨dst, .load s x, ty, pos, aft, gd⟩ :: rest) a w := by
  unfold wpList
  rw [if_pos hw]
  refine .inl ?_
  unfold Oper.wp execOp
  simp only [hx, Instr.loadAt, Instr.sureAddr, Sem.run_bind, Sem.run_pure, Result.andThen_ok, run_loadVar_part r o n hu hd hi hl]
  exact h
/-- a whole block is loaded -/
theorem wpList_load_whole (hb : Blk w b t cs) (hu : P.underlying s = some d) (hd : d.isRow = true) (hi : (P.info? s).map (·.size) = some cs.size)
    (hw : Region.wanted ⟨dst, .load s x, ty, pos, aft, gd⟩ (yielded ops a.tmps) = true) (hx : a.eval x = .pointer (some ⟨b, 0, none⟩))
    (h : wpList P ops Q rest (a.put dst (.agg cs)) w) : wpList P ops Q (⟨dst, .load s x, ty, pos, aft, gd⟩ :: rest) a w := by
  unfold wpList
  rw [if_pos hw]
  exact .inl (wp_load_row s x rfl b hx t cs (0, 0) d hb hu (by cases d <;> simp_all) hi h)
end

section
variable {P : Program} {dst : Option Tmp} {x y : Operand} {ty : TypeId} {pos : String} {aft : Array Edge} {gd : Option (Nat × Bool)} {a : Act} {w : World} {t s : TypeId} {b : Nat} {cs : Array Value} {d : TypeDesc} {k : IntKind} {c : List Int} {K : Act → Prop}
theorem Blk.later (r : Blk w b t cs) (w' : World) (h : Later w w') : Blk w' b t cs := by
  obtain ⟨p, rfl⟩ := h
  exact r.dn (below_regrown w p.d p.os)
/-- a whole block is loaded where the order is drawn -/
theorem quiet_whole (hb : Blk w b t cs) (hu : P.underlying s = some d) (hd : d.isRow = true) (hi : (P.info? s).map (·.size) = some cs.size) (hx : a.eval x = .pointer (some ⟨b, 0, none⟩)) (h : K (a.put dst (.agg cs))) :
    Oper.quiet P ⟨dst, .load s x, ty, pos, aft, gd⟩ a (Later w) K := by
  refine ⟨_, fun w' hw' => ?_, h⟩
  have r' := hb.later w' hw'
  unfold Oper.quietAt execOp
  simp only [hx, Instr.loadAt, Instr.sureAddr, Sem.run_bind, Sem.run_pure, Result.andThen_ok, run_loadVar_row w' b t s cs (0, 0) d r' hu (by cases d <;> simp_all) hi]
  exact ⟨rfl, rfl⟩
/-- .. a part of a row -/
theorem quiet_part (r : Row w b t k c) (o n : Nat) (hu : P.underlying s = some d) (hd : d.isRow = true) (hi : (P.info? s).map (·.size) = some n) (hl : o + n ≤ c.length) (hx : a.eval x = .pointer (some ⟨b, o, none⟩)) (h : K (a.put dst (.agg (ints k ((c.drop o).take n))))) :
    Oper.quiet P ⟨dst, .load s x, ty, pos, aft, gd⟩ a (Later w) K := by
  refine ⟨_, fun w' hw' => ?_, h⟩
  have r' := r.later w' hw'
  unfold Oper.quietAt execOp
  simp only [hx, Instr.loadAt, Instr.sureAddr, Sem.run_bind, Sem.run_pure, Result.andThen_ok, run_loadVar_part r' o n hu hd hi hl]
  exact ⟨rfl, rfl⟩
end
end Go.Proofs.Ytchekfipdhoejaa
