/-
  What is kept from call to call (Dn: of what was there nothing has turned), and a block that holds a whole array of integers: no statement of the program by itself.
-/
import Derived.Test.YtchekfipdhoejaaRows
import Derived.WalkKit
import Derived.ProofKit
import Derived.OpenShut
import Derived.Lib.Hide
import Derived.Lib.SmallJoins
import Derived.Lib.QuietBelow
import Derived.Deep.WholeRow
import Derived.Handy
import Derived.Laws.StructEq
namespace Go.Proofs.Ytchekfipdhoejaa
open Go.ChangeShapes Go.WideShapes Go.ChangeAt Go.RowKit Go.Sort
set_option linter.unusedVariables false

theorem ret_bool {a b : Bool} (h : a = b) : Ending.returned (.bool a) = .returned (.bool b) := by rw [h]
theorem ret_int {k : IntKind} {a b : Int} (h : a = b) : Ending.returned (.int k a) = .returned (.int k b) := by rw [h]
theorem lt_of_cell {w : World} {p : Addr} {v : Value} (h : w.cell? p = some v) : p.block < w.heap.size := by
  by_cases hb : p.block < w.heap.size
  · exact hb
  · have : w.heap[p.block]? = none := Array.getElem?_eq_none (by omega)
    simp [World.cell?, this] at h

/-- of what was there nothing has turned -/
abbrev Dn (W W' : World) : Prop := Below W.heap.size W W'
theorem Dn.refl (W : World) : Dn W W := Below.refl _ _
theorem Dn.trans {a b c : World} (h : Dn a b) (k : Dn b c) : Dn a c := Below.trans h (Below.mono k h.size)
theorem Dn.alloc {a w : World} (h : Dn a w) (o : Obj) : Dn a (w.alloc o) := Below.alloc h h.size o
theorem Dn.setCell {a w : World} (h : Dn a w) {p : Addr} (hp : a.heap.size ≤ p.block) (u : Value) : Dn a (w.setCell p u) := Below.setCell h hp u
theorem Dn.setRow {a w : World} (h : Dn a w) {g : Nat} (hp : a.heap.size ≤ g) (c : Array Value) : Dn a (w.setRow g c) :=
  ⟨h.os, h.tape, h.output, by simp; exact h.size, fun i hi => (setRow_other w g i c (by omega)).trans (h.block i hi)⟩
theorem Dn.drew {a w : World} (h : Dn a w) : Dn a w.drew := Below.drew h
theorem Dn.drewN {a w : World} (h : Dn a w) (n : Nat) : Dn a (w.drewN n) := ⟨h.os, h.tape, h.output, h.size, h.block⟩
theorem Dn.keep {w w' : World} (h : Dn w w') {p : Addr} {v : Value} (hc : w.cell? p = some v) : w'.cell? p = some v := (h.cell (lt_of_cell hc)).trans hc

/-- the cells of a whole array of integers -/
def ints (k : IntKind) (c : List Int) : Array Value := (c.map (Value.int k)).toArray
theorem ints_size (k : IntKind) (c : List Int) : (ints k c).size = c.length := by simp [ints]
theorem ints_one (k : IntKind) (c : List Int) : (ints k c).all (·.oneCell') = true := by
  rw [Array.all_eq_true_iff_forall_mem]
  intro x hx
  simp [ints] at hx
  obtain ⟨a, _, rfl⟩ := hx
  rfl
theorem ints_get (k : IntKind) (c : List Int) (i : Nat) (h : i < c.length) : (ints k c)[i]? = some (.int k (c.getD i 0)) := by
  simp [ints, List.getD, h]
theorem ints_set (k : IntKind) (c : List Int) (i : Nat) (x : Int) : (ints k c).setIfInBounds i (.int k x) = ints k (c.set i x) := by
  apply Array.ext_getElem?
  intro j
  simp only [ints, Array.getElem?_setIfInBounds, List.getElem?_toArray, List.size_toArray, List.length_map, List.getElem?_map, List.getElem?_set]
  by_cases h : i = j
  · subst h
    by_cases h2 : i < c.length <;> simp [h2]
  · simp [h]
theorem ints_inj {k : IntKind} {c d : List Int} (h : ints k c = ints k d) : c = d := by
  have h2 : c.map (Value.int k) = d.map (Value.int k) := by simpa [ints] using h
  exact (List.map_inj_right (fun a b e => by injection e)).1 h2

/-- a block that holds a whole array of integers -/
def Row (w : World) (b : Nat) (t : TypeId) (k : IntKind) (c : List Int) : Prop := w.heap[b]? = some (.cells (ints k c) t)
theorem Row.lt {w : World} {b : Nat} {t : TypeId} {k : IntKind} {c : List Int} (h : Row w b t k c) : b < w.heap.size := by
  unfold Row at h
  exact (Array.getElem?_eq_some_iff.1 h).1
theorem Row.dn {w w' : World} {b : Nat} {t : TypeId} {k : IntKind} {c : List Int} (h : Row w b t k c) (hd : Dn w w') : Row w' b t k c := (hd.block b h.lt).trans h
theorem Row.new (w : World) (t : TypeId) (k : IntKind) (c : List Int) : Row (w.alloc (.cells (ints k c) t)) w.heap.size t k c := heap_alloc_last _ _
theorem Row.cell {w : World} {b : Nat} {t : TypeId} {k : IntKind} {c : List Int} (h : Row w b t k c) (i : Nat) (hi : i < c.length) : w.cell? ⟨b, i, none⟩ = some (.int k (c.getD i 0)) :=
  (cell_of_row w b i _ t (0, 0) h).trans (ints_get k c i hi)
theorem Row.fr {w : World} {b : Nat} {t : TypeId} {k : IntKind} {c : List Int} (h : Row w b t k c) (i : Nat) : w.frozen? ⟨b, i, none⟩ = false := frozen_of_row w b i _ t h
theorem Row.load {P : Program} {w : World} {b : Nat} {t : TypeId} {k : IntKind} {c : List Int} (h : Row w b t k c) {n : Nat} {e : TypeId} (hu : P.underlying t = some (.array n e)) (hi : (P.info? t).map (·.size) = some c.length) :
    (Instr.loadAt t (.pointer (some ⟨b, 0, none⟩))).run P w = .ok (.agg (ints k c)) w := by
  simp only [Instr.loadAt, Instr.sureAddr, Sem.run_bind, Sem.run_pure, Result.andThen]
  exact run_loadVar_row _ _ t t _ (0, 0) _ h hu rfl (by rw [ints_size]; exact hi)
theorem Row.store {P : Program} {w : World} {b : Nat} {t : TypeId} {k : IntKind} {c : List Int} (h : Row w b t k c) (d : List Int) (hi : (P.info? t).map (·.size) = some d.length) (hl : c.length = d.length) :
    (Instr.storeAt t (.pointer (some ⟨b, 0, none⟩)) (.agg (ints k d))).run P w = .ok () (w.setRow b (ints k d)) := by
  simp only [Instr.storeAt, Instr.sureAddr, Sem.run_bind, Sem.run_pure, Result.andThen]
  exact run_storeVar_row _ _ t t _ _ h (by rw [ints_size]; exact hi) (by rw [ints_size, ints_size]; exact hl) (ints_one k d)
theorem Row.stored {w : World} {b : Nat} {t : TypeId} {k : IntKind} {c : List Int} (h : Row w b t k c) (d : List Int) : Row (w.setRow b (ints k d)) b t k d := setRow_heap w b _ _ t _ h
theorem Row.put {w : World} {b : Nat} {t : TypeId} {k : IntKind} {c : List Int} (h : Row w b t k c) (i : Nat) (x : Int) : Row (w.setCell ⟨b, i, none⟩ (.int k x)) b t k (c.set i x) := by
  have := heap_setCell_same w b i _ t (.int k x) h
  rw [ints_set] at this
  exact this

section
variable {P : Program} {ops : Array Oper} {rest : List Oper} {dst : Option Tmp} {x y : Operand} {ty : TypeId} {pos : String} {aft : Array Edge} {gd : Option (Nat × Bool)} {a : Act} {w : World} {Q : Exit → Act → World → Prop} {t : TypeId} {b : Nat} {cs old : Array Value} {n : Nat} {e : TypeId}

/-- a whole array is loaded -/
theorem wpList_load_blk {t' : TypeId} {fr : Nat × Nat} (hb : w.heap[b]? = some (.cells cs t' fr)) (hu : P.underlying t = some (.array n e)) (hi : (P.info? t).map (·.size) = some cs.size)
    (hw : Region.wanted ⟨dst, .load t x, ty, pos, aft, gd⟩ (yielded ops a.tmps) = true) (hx : a.eval x = .pointer (some ⟨b, 0, none⟩))
    (h : wpList P ops Q rest (a.put dst (.agg cs)) w) : wpList P ops Q (⟨dst, .load t x, ty, pos, aft, gd⟩ :: rest) a w := by
  unfold wpList
  rw [if_pos hw]
  exact .inl (wp_load_row t x rfl b hx t' cs fr _ hb hu rfl hi h)

/-- a whole array is stored -/
theorem wpList_store_blk (hb : w.heap[b]? = some (.cells old t)) (hi : (P.info? t).map (·.size) = some cs.size) (ho : old.size = cs.size) (h1 : cs.all (·.oneCell') = true)
    (hw : Region.wanted ⟨dst, .store t x y, ty, pos, aft, gd⟩ (yielded ops a.tmps) = true) (hx : a.eval x = .pointer (some ⟨b, 0, none⟩)) (hy : a.eval y = .agg cs)
    (h : wpList P ops Q rest (a.put dst undef) (w.setRow b cs)) : wpList P ops Q (⟨dst, .store t x y, ty, pos, aft, gd⟩ :: rest) a w := by
  unfold wpList
  rw [if_pos hw]
  refine .inl ?_
  unfold Oper.wp execOp
  simp only [hx, hy, Instr.storeAt, Instr.sureAddr, Sem.run_bind, Sem.run_pure, Result.andThen_ok, run_storeVar_row _ _ t t _ _ hb hi ho h1]
  exact h

/-- .. into the block that was made last -/
theorem wpList_store_last (hi : (P.info? t).map (·.size) = some cs.size) (ho : old.size = cs.size) (h1 : cs.all (·.oneCell') = true)
    (hw : Region.wanted ⟨dst, .store t x y, ty, pos, aft, gd⟩ (yielded ops a.tmps) = true) (hx : a.eval x = .pointer (some ⟨b, 0, none⟩)) (hy : a.eval y = .agg cs) (hb : b = w.heap.size)
    (h : wpList P ops Q rest (a.put dst undef) (w.alloc (.cells cs t))) : wpList P ops Q (⟨dst, .store t x y, ty, pos, aft, gd⟩ :: rest) a (w.alloc (.cells old t)) :=
  wpList_store_blk (heap_alloc_last w _) hi ho h1 hw (hb ▸ hx) hy (by rw [World.setRow_alloc_new]; exact h)
end

theorem run_part_int {P : Program} {e : TypeId} {k k' : IntKind} (he : P.underlying e = some (.int k')) (zs : List Int) (i : Nat) (hi : i < zs.length) (w : World) :
    (part e (ints k zs) i).run P w = .ok (.int k (zs.getD i 0)) w := by
  have hg := ints_get k zs i hi
  simp [part, isAgg, run_underlying he, hg]

theorem drop_beq (xs ys : List Int) (j : Nat) (h1 : j < xs.length) (h2 : j < ys.length) : (xs.drop j == ys.drop j) = ((xs.getD j 0 == ys.getD j 0) && (xs.drop (j + 1) == ys.drop (j + 1))) := by
  have e1 : xs.getD j 0 = xs[j] := by simp [List.getD, h1]
  have e2 : ys.getD j 0 = ys[j] := by simp [List.getD, h2]
  rw [List.drop_eq_getElem_cons h1, List.drop_eq_getElem_cons h2, e1, e2, List.cons_beq_cons]

/-- two whole arrays of integers are compared -/
theorem equal_ints {P : Program} {t e : TypeId} {k k' : IntKind} {n : Nat} (d : Nat) (hu : P.underlying t = some (.array n e)) (he : P.underlying e = some (.int k')) (hc : (P.info? e).map (·.size) = some 1) (xs ys : List Int) (hx : xs.length = n) (hy : ys.length = n) (w : World) :
    (Op.equalIn (d + 2) t (.agg (ints k xs)) (.agg (ints k ys))).run P w = .ok (xs == ys) w := by
  have hs : ∀ w : World, (sizeOf e).run P w = .ok 1 w := fun w => by
    cases hq : P.info? e with
    | none => simp [hq] at hc
    | some i => simp [hq] at hc; simp [sizeOf, typeInfo, hq, hc]
  unfold Op.equalIn
  simp only [Sem.run_bind, run_underlying hu, Result.andThen_ok, hs, Std.Legacy.Range.forIn_eq_forIn_range']
  have key : ∀ m j, j + m = n → ((Sem.run P (forIn (List.range' j m) ((none, ()) : Option Bool × Unit) fun i __s => do
              let __do_lift ← part e (ints k xs) (i * 1)
              let __do_lift_1 ← part e (ints k ys) (i * 1)
              let __do_lift ← Op.equalIn (d + 1) e __do_lift __do_lift_1
              if (!__do_lift) = true then pure (ForInStep.done (some false, ())) else pure (ForInStep.yield (none, ()))) w).andThen fun a w' => Sem.run P (match a.fst with | some r => pure r | none => pure true) w') = Result.ok (xs.drop j == ys.drop j) w := by
    intro m
    induction m with
    | zero =>
      intro j hj
      have h1 : xs.drop j = [] := by rw [List.drop_eq_nil_iff]; omega
      have h2 : ys.drop j = [] := by rw [List.drop_eq_nil_iff]; omega
      rw [h1, h2]
      simp
    | succ m ih =>
      intro j hj
      have h1 : j < xs.length := by omega
      have h2 : j < ys.length := by omega
      have hq := run_equalIn_int (P := P) w d e k k' (xs.getD j 0) (ys.getD j 0) he
      rw [drop_beq xs ys j h1 h2, List.range'_succ, List.forIn_cons]
      simp only [Sem.run_bind, Nat.mul_one, run_part_int he xs j h1, run_part_int he ys j h2, Result.andThen_ok, hq, Sem.run_ite]
      cases hb : (xs.getD j 0 == ys.getD j 0)
      · simp
      · have := ih (j + 1) (by omega)
        simp only [Nat.mul_one] at this
        simpa using this
  have := key n 0 (by omega)
  rw [List.drop_zero, List.drop_zero] at this
  have hz : [:n].size = n := by simp [Std.Legacy.Range.size]
  rw [hz]
  refine Eq.trans ?_ this
  congr 1
  funext a w'
  cases a.fst <;> rfl

end Go.Proofs.Ytchekfipdhoejaa
