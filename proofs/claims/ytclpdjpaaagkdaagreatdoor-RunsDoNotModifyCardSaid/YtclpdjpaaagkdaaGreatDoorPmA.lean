/-
  Contracts over the translated program and the plain facts behind them, of the texts: Base, PlainFrame, RelMath, Core, Blk, Drawn, MemMath, MemBase, R16, CoreEq, Mach, Ret2, Dx, Lw, Zx, Zy. Conditions: those that stand in each theorem.
-/
import Derived.Test.YtclpdjpaaagkdaaGreatDoorRows
import Derived.WalkKit
import Derived.ProofKit
import Derived.OpenShut
import Derived.Lib.Hide
import Derived.Lib.SmallJoins
import Derived.Lib.QuietBelow
import Derived.Deep.WholeRow
import Derived.Handy
import Derived.Laws.StructEq
import Derived.WideKeyArgs
import Derived.ChangeSame
import Derived.ChangeCalls
import Derived.ChangeOld
import Derived.Below
import Derived.ShutString
import Derived.BigQuiet
import Derived.Deep.MidRow
import Derived.Laws.CopyRow
import Derived.OrdersHeld
import Derived.Deep.RegionHeld3
import Derived.Laws.CopyOwn
import Derived.Deep.QuietTactic
import Derived.StillTailTactics
import Derived.RegionTactic
import Derived.Deep.Cut
namespace Go.Proofs.YtclpdjpaaagkdaaGreatDoor
open Go.ChangeShapes Go.WideShapes Go.ChangeAt Go.RowKit Go.Sort
set_option linter.unusedVariables false

theorem ret_bool {a b : Bool} (h : a = b) : Ending.returned (.bool a) = .returned (.bool b) := by rw [h]
theorem ret_int {k : IntKind} {a b : Int} (h : a = b) : Ending.returned (.int k a) = .returned (.int k b) := by rw [h]
theorem lt_of_cell {w : World} {p : Addr} {v : Value} (h : w.cell? p = some v) : p.block < w.heap.size := by
 by_cases hb : p.block < w.heap.size
 · exact hb
 · have : w.heap[p.block]? = none := Array.getElem?_eq_none (by omega)
   simp [World.cell?, this] at h

abbrev Dn (W W' : World) : Prop := Below W.heap.size W W'
theorem Dn.refl (W : World) : Dn W W := Below.refl _ _
theorem Dn.trans {a b c : World} (h : Dn a b) (k : Dn b c) : Dn a c := Below.trans h (Below.mono k h.size)
theorem Dn.alloc {a w : World} (h : Dn a w) (o : Obj) : Dn a (w.alloc o) := Below.alloc h h.size o
theorem Dn.setCell {a w : World} (h : Dn a w) {p : Addr} (hp : a.heap.size ≤ p.block) (u : Value) : Dn a (w.setCell p u) := Below.setCell h hp u
theorem Dn.setRow {a w : World} (h : Dn a w) {g : Nat} (hp : a.heap.size ≤ g) (c : Array Value) : Dn a (w.setRow g c) :=
 ⟨h.os, h.tape, h.output, by simp; exact h.size, fun i hi => (setRow_other w g i c (by omega)).trans (h.block i hi)⟩
theorem Dn.drew {a w : World} (h : Dn a w) : Dn a w.drew := Below.drew h
theorem Dn.drewN {a w : World} (h : Dn a w) (n : Nat) : Dn a (w.drewN n) := ⟨h.os, h.tape, h.output, h.size, h.block⟩
theorem Dn.keep {w w' : World} (h : Dn w w') {p : Addr} {v : Value} (hc : w.cell? p = some v) : w'.cell? p = some v := (h.cell (lt_of_cell hc)).trans hc

def ints (k : IntKind) (c : List Int) : Array Value := (c.map (Value.int k)).toArray
theorem ints_size (k : IntKind) (c : List Int) : (ints k c).size = c.length := by simp [ints]
theorem ints_one (k : IntKind) (c : List Int) : (ints k c).all (·.oneCell') = true := by
 rw [Array.all_eq_true_iff_forall_mem]
 intro x hx
 simp [ints] at hx
 obtain ⟨a, _, rfl⟩ := hx
 rfl
theorem ints_get (k : IntKind) (c : List Int) (i : Nat) (h : i < c.length) : (ints k c)[i]? = some (.int k (c.getD i 0)) := by
 simp [ints, List.getD, h]
theorem ints_set (k : IntKind) (c : List Int) (i : Nat) (x : Int) : (ints k c).setIfInBounds i (.int k x) = ints k (c.set i x) := by
 apply Array.ext_getElem?
 intro j
 simp only [ints, Array.getElem?_setIfInBounds, List.getElem?_toArray, List.size_toArray, List.length_map, List.getElem?_map, List.getElem?_set]
 by_cases h : i = j
 · subst h
   by_cases h2 : i < c.length <;> simp [h2]
 · simp [h]
def Row (w : World) (b : Nat) (t : TypeId) (k : IntKind) (c : List Int) : Prop := w.heap[b]? = some (.cells (ints k c) t)
theorem Row.lt {w : World} {b : Nat} {t : TypeId} {k : IntKind} {c : List Int} (h : Row w b t k c) : b < w.heap.size := by
 unfold Row at h
 exact (Array.getElem?_eq_some_iff.1 h).1
theorem Row.dn {w w' : World} {b : Nat} {t : TypeId} {k : IntKind} {c : List Int} (h : Row w b t k c) (hd : Dn w w') : Row w' b t k c := (hd.block b h.lt).trans h
theorem Row.new (w : World) (t : TypeId) (k : IntKind) (c : List Int) : Row (w.alloc (.cells (ints k c) t)) w.heap.size t k c := heap_alloc_last _ _
theorem Row.cell {w : World} {b : Nat} {t : TypeId} {k : IntKind} {c : List Int} (h : Row w b t k c) (i : Nat) (hi : i < c.length) : w.cell? ⟨b, i, none⟩ = some (.int k (c.getD i 0)) :=
 (cell_of_row w b i _ t (0, 0) h).trans (ints_get k c i hi)
theorem Row.fr {w : World} {b : Nat} {t : TypeId} {k : IntKind} {c : List Int} (h : Row w b t k c) (i : Nat) : w.frozen? ⟨b, i, none⟩ = false := frozen_of_row w b i _ t h
theorem Row.stored {w : World} {b : Nat} {t : TypeId} {k : IntKind} {c : List Int} (h : Row w b t k c) (d : List Int) : Row (w.setRow b (ints k d)) b t k d := setRow_heap w b _ _ t _ h
theorem Row.put {w : World} {b : Nat} {t : TypeId} {k : IntKind} {c : List Int} (h : Row w b t k c) (i : Nat) (x : Int) : Row (w.setCell ⟨b, i, none⟩ (.int k x)) b t k (c.set i x) := by
 have := heap_setCell_same w b i _ t (.int k x) h
 rw [ints_set] at this
 exact this

section
variable {P : Program} {ops : Array Oper} {rest : List Oper} {dst : Option Tmp} {x y : Operand} {ty : TypeId} {pos : String} {aft : Array Edge} {gd : Option (Nat × Bool)} {a : Act} {w : World} {Q : Exit → Act → World → Prop} {t : TypeId} {b : Nat} {cs old : Array Value} {n : Nat} {e : TypeId}

theorem wpList_load_blk {t' : TypeId} {fr : Nat × Nat} (hb : w.heap[b]? = some (.cells cs t' fr)) (hu : P.underlying t = some (.array n e)) (hi : (P.info? t).map (·.size) = some cs.size)
   (hw : Region.wanted ⟨dst, .load t x, ty, pos, aft, gd⟩ (yielded ops a.tmps) = true) (hx : a.eval x = .pointer (some ⟨b, 0, none⟩))
   (h : wpList P ops Q rest (a.put dst (.agg cs)) w) : wpList P ops Q (⟨dst, .load t x, ty, pos, aft, gd⟩ :: rest) a w := by
 unfold wpList
 rw [if_pos hw]
 exact .inl (wp_load_row t x rfl b hx t' cs fr _ hb hu rfl hi h)

theorem wpList_store_blk (hb : w.heap[b]? = some (.cells old t)) (hi : (P.info? t).map (·.size) = some cs.size) (ho : old.size = cs.size) (h1 : cs.all (·.oneCell') = true)
   (hw : Region.wanted ⟨dst, .store t x y, ty, pos, aft, gd⟩ (yielded ops a.tmps) = true) (hx : a.eval x = .pointer (some ⟨b, 0, none⟩)) (hy : a.eval y = .agg cs)
   (h : wpList P ops Q rest (a.put dst undef) (w.setRow b cs)) : wpList P ops Q (⟨dst, .store t x y, ty, pos, aft, gd⟩ :: rest) a w := by
 unfold wpList
 rw [if_pos hw]
 refine .inl ?_
 unfold Oper.wp execOp
 simp only [hx, hy, Instr.storeAt, Instr.sureAddr, Sem.run_bind, Sem.run_pure, Result.andThen_ok, run_storeVar_row _ _ t t _ _ hb hi ho h1]
 exact h

theorem wpList_store_last (hi : (P.info? t).map (·.size) = some cs.size) (ho : old.size = cs.size) (h1 : cs.all (·.oneCell') = true)
   (hw : Region.wanted ⟨dst, .store t x y, ty, pos, aft, gd⟩ (yielded ops a.tmps) = true) (hx : a.eval x = .pointer (some ⟨b, 0, none⟩)) (hy : a.eval y = .agg cs) (hb : b = w.heap.size)
   (h : wpList P ops Q rest (a.put dst undef) (w.alloc (.cells cs t))) : wpList P ops Q (⟨dst, .store t x y, ty, pos, aft, gd⟩ :: rest) a (w.alloc (.cells old t)) :=
 wpList_store_blk (heap_alloc_last w _) hi ho h1 hw (hb ▸ hx) hy (by rw [World.setRow_alloc_new]; exact h)
end

theorem run_part_int {P : Program} {e : TypeId} {k k' : IntKind} (he : P.underlying e = some (.int k')) (zs : List Int) (i : Nat) (hi : i < zs.length) (w : World) :
   (part e (ints k zs) i).run P w = .ok (.int k (zs.getD i 0)) w := by
 have hg := ints_get k zs i hi
 simp [part, isAgg, run_underlying he, hg]

theorem drop_beq (xs ys : List Int) (j : Nat) (h1 : j < xs.length) (h2 : j < ys.length) : (xs.drop j == ys.drop j) = ((xs.getD j 0 == ys.getD j 0) && (xs.drop (j + 1) == ys.drop (j + 1))) := by
 have e1 : xs.getD j 0 = xs[j] := by simp [List.getD, h1]
 have e2 : ys.getD j 0 = ys[j] := by simp [List.getD, h2]
 rw [List.drop_eq_getElem_cons h1, List.drop_eq_getElem_cons h2, e1, e2, List.cons_beq_cons]

theorem equal_ints {P : Program} {t e : TypeId} {k k' : IntKind} {n : Nat} (d : Nat) (hu : P.underlying t = some (.array n e)) (he : P.underlying e = some (.int k')) (hc : (P.info? e).map (·.size) = some 1) (xs ys : List Int) (hx : xs.length = n) (hy : ys.length = n) (w : World) :
   (Op.equalIn (d + 2) t (.agg (ints k xs)) (.agg (ints k ys))).run P w = .ok (xs == ys) w := by
 have hs : ∀ w : World, (sizeOf e).run P w = .ok 1 w := fun w => by
   cases hq : P.info? e with
   | none => simp [hq] at hc
   | some i => simp [hq] at hc; simp [sizeOf, typeInfo, hq, hc]
 unfold Op.equalIn
 simp only [Sem.run_bind, run_underlying hu, Result.andThen_ok, hs, Std.Legacy.Range.forIn_eq_forIn_range']
 have key : ∀ m j, j + m = n → ((Sem.run P (forIn (List.range' j m) ((none, ()) : Option Bool × Unit) fun i __s => do
             let __do_lift ← part e (ints k xs) (i * 1)
             let __do_lift_1 ← part e (ints k ys) (i * 1)
             let __do_lift ← Op.equalIn (d + 1) e __do_lift __do_lift_1
             if (!__do_lift) = true then pure (ForInStep.done (some false, ())) else pure (ForInStep.yield (none, ()))) w).andThen fun a w' => Sem.run P (match a.fst with | some r => pure r | none => pure true) w') = Result.ok (xs.drop j == ys.drop j) w := by
   intro m
   induction m with
   | zero =>
     intro j hj
     have h1 : xs.drop j = [] := by rw [List.drop_eq_nil_iff]; omega
     have h2 : ys.drop j = [] := by rw [List.drop_eq_nil_iff]; omega
     rw [h1, h2]
     simp
   | succ m ih =>
     intro j hj
     have h1 : j < xs.length := by omega
     have h2 : j < ys.length := by omega
     have hq := run_equalIn_int (P := P) w d e k k' (xs.getD j 0) (ys.getD j 0) he
     rw [drop_beq xs ys j h1 h2, List.range'_succ, List.forIn_cons]
     simp only [Sem.run_bind, Nat.mul_one, run_part_int he xs j h1, run_part_int he ys j h2, Result.andThen_ok, hq, Sem.run_ite]
     cases hb : (xs.getD j 0 == ys.getD j 0)
     · simp
     · have := ih (j + 1) (by omega)
       simp only [Nat.mul_one] at this
       simpa using this
 have := key n 0 (by omega)
 rw [List.drop_zero, List.drop_zero] at this
 have hz : [:n].size = n := by simp [Std.Legacy.Range.size]
 rw [hz]
 refine Eq.trans ?_ this
 congr 1
 funext a w'
 cases a.fst <;> rfl

theorem tA {α : Type _} (l : List α) (i : Nat) (a : α) : l.toArray.setIfInBounds i a = (l.set i a).toArray := List.setIfInBounds_toArray ..
theorem tS {α : Type _} (x : α) (xs : List α) (n : Nat) (a : α) : (x :: xs).set (n + 1) a = x :: xs.set n a := List.set_cons_succ ..
theorem tZ {α : Type _} (x : α) (xs : List α) (a : α) : (x :: xs).set 0 a = a :: xs := List.set_cons_zero ..
theorem hT {a b c : World} (h : Hid (Dn a b)) (d : Dn b c) : Hid (Dn a c) := Lib.hid (h.out.trans d)
end Go.Proofs.YtclpdjpaaagkdaaGreatDoor
namespace Go.Proofs.YtclpdjpaaagkdaaGreatDoor
open Go.ChangeShapes Go.WideShapes Go.ChangeAt Go.RowKit
set_option linter.unusedVariables false

theorem own : ownKnob Tryz.prog.godebug = none := by kernel_rfl
theorem laidOut : laidOutB Tryz.prog = true := by kernel_rfl

section
variable {H : Type} {enc : TypeId × Value → H} {w : World} {base : Nat} {spare : Nat → Bool} {held : Bool}

theorem okWide_struct {P : Program} {r : Reach} {fs : Array Field} {t : TypeId} {b0 : Nat} {v : Value} (ht : P.underlying t = some (.struct fs)) (h : Value.okWide P w r b0 t v) : ∃ cs, v = .agg cs ∧ cs.size = P.cellsOf t := by
 simp only [Value.okWide, ht] at h
 obtain ⟨cs, h1, h2, _⟩ := h
 exact ⟨cs, h1, h2⟩
theorem arg_stays {W W' : World} (hb : Dn W W') {t : TypeId} (hr : Tryz.prog.readableRec t = true) (hrow : t < Tryz.prog.types.size) {sp' : Nat → Bool} {v : Value} {d : DataW H} {ps : List MemPlace}
   (h : DataW.Trod enc Tryz.prog W 0 (fun _ => true) true t v d ps) (hlt : ∀ p ∈ ps, p.block < W.heap.size) (hs : ∀ p ∈ ps, sp' p.block = true) : DataW.Trod enc Tryz.prog W' 0 sp' true t v d ps := by
 refine WideElems.Trod_stays laidOut hr hrow h (fun p hp => ?_) hs
 have := hlt p hp
 cases p with
 | cell b off => exact hb.cell this
 | map b => exact hb.block b this

theorem args_stay {W W' : World} (hb : Dn W W') : ∀ {ts : List TypeId} {vs : List Value} {ds : List (DataW H)} {ps : List MemPlace} {sp' : Nat → Bool}, (∀ t ∈ ts, Tryz.prog.readableRec t = true ∧ t < Tryz.prog.types.size) →
   DataW.TrodAll enc Tryz.prog W 0 (fun _ => true) true ts vs ds ps → (∀ p ∈ ps, p.block < W.heap.size) → (∀ p ∈ ps, sp' p.block = true) → DataW.TrodAll enc Tryz.prog W' 0 sp' true ts vs ds ps
 | [], vs, ds, ps, sp', _, h, _, _ => by
   cases vs <;> cases ds <;> first | exact h | (simp [DataW.TrodAll] at h)
 | t :: ts, vs, ds, ps, sp', ht, h, hlt, hs => by
   obtain ⟨v, vs', d, ds', p, q, rfl, rfl, rfl, h1, h2⟩ := trodAll_cons h
   exact trodAll_cons_mk (arg_stays hb (ht t List.mem_cons_self).1 (ht t List.mem_cons_self).2 h1 (fun x hx => hlt x (List.mem_append_left _ hx)) (fun x hx => hs x (List.mem_append_left _ hx)))
     (args_stay hb (fun u hu => ht u (List.mem_cons_of_mem _ hu)) h2 (fun x hx => hlt x (List.mem_append_right _ hx)) (fun x hx => hs x (List.mem_append_right _ hx)))

end
end Go.Proofs.YtclpdjpaaagkdaaGreatDoor
namespace Go.Proofs.YtclpdjpaaagkdaaGreatDoor.M
set_option linter.unusedVariables false

structure Core (c : List Int) : Prop where
 len : c.length = 29
 rng : ∀ i : Nat, 0 ≤ c.getD i 0 ∧ c.getD i 0 < 4294967296

theorem core_of {c : List Int} (hl : c.length = 29) (h : ∀ x ∈ c, 0 ≤ x ∧ x < 4294967296) : Core c := by
 refine ⟨hl, fun i => ?_⟩
 rw [List.getD_eq_getElem?_getD]
 cases hx : c[i]? with
 | none => simp
 | some x => exact h x (List.mem_of_getElem? hx)
theorem Core.set {c : List Int} (h : Core c) (i : Nat) (x : Int) (h0 : 0 ≤ x) (h1 : x < 4294967296) : Core (c.set i x) := by
 refine ⟨by simp [h.len], fun j => ?_⟩
 have hj := h.rng j
 rw [List.getD_eq_getElem?_getD] at hj ⊢
 rw [List.getElem?_set]
 split
 · split
   · exact ⟨h0, h1⟩
   · simp
 · exact hj
theorem core_zero : Core (List.replicate 29 0) := core_of (by simp) fun x hx => by
 have := List.eq_of_mem_replicate hx
 omega

def csr (c : List Int) (i : Nat) : Int := c.getD (17 + i) 0
theorem Core.csr {c : List Int} (h : Core c) (i : Nat) : 0 ≤ M.csr c i ∧ M.csr c i < 4294967296 := h.rng _
theorem csr_set {c : List Int} (h : Core c) (i j : Nat) (x : Int) (hi : i < 12) : M.csr (c.set (17 + i) x) j = if i = j then x else M.csr c j := by
 unfold M.csr
 rw [List.getD_eq_getElem?_getD, List.getElem?_set, List.getD_eq_getElem?_getD]
 by_cases e : i = j
 · subst e
   rw [if_pos rfl, if_pos rfl, if_pos (by have := h.len; omega)]
   rfl
 · rw [if_neg (by omega), if_neg e]
def sup (c : List Int) : Bool := csr c 0 % 2 == 1

def hit (base bound size a n : Int) : Bool := decide (a + n ≤ bound) && decide (base + a + n ≤ size)
def phys (base bound size a n : Int) : Int := if hit base bound size a n = true then base + a else 0
theorem hit_iff (base bound size a n : Int) : hit base bound size a n = true ↔ a + n ≤ bound ∧ base + a + n ≤ size := by unfold hit; simp
theorem phys_hit {base bound size a n : Int} (h : hit base bound size a n = true) : phys base bound size a n = base + a := by unfold phys; rw [if_pos h]
theorem phys_miss {base bound size a n : Int} (h : hit base bound size a n = false) : phys base bound size a n = 0 := by unfold phys; rw [h]; rfl

def ub (c : List Int) : Int := if sup c = true then 0 else csr c 5
def un (c : List Int) (size : Int) : Int := if sup c = true then size else csr c 6
theorem ub_rng {c : List Int} (h : Core c) : 0 ≤ ub c ∧ ub c < 4294967296 := by
 unfold ub; split
 · decide
 · exact h.csr 5
theorem un_rng {c : List Int} (h : Core c) {size : Int} (h0 : 0 ≤ size) (h1 : size < 4294967296) : 0 ≤ un c size ∧ un c size < 4294967296 := by
 unfold un; split
 · exact ⟨h0, h1⟩
 · exact h.csr 6
end Go.Proofs.YtclpdjpaaagkdaaGreatDoor.M
namespace Go.Proofs.YtclpdjpaaagkdaaGreatDoor
open Go.ChangeShapes Go.WideShapes Go.ChangeAt Go.RowKit Go.Sort
set_option linter.unusedVariables false

theorem info29 : (Tryz.prog.info? 26).map (·.size) = some 29 := by kernel_rfl
theorem info_core (c : List Int) (h : c.length = 29) : (Tryz.prog.info? 26).map (·.size) = some (ints .u32 c).size := by rw [ints_size, h]; exact info29
theorem size_alloc (w : World) (o : Obj) : (w.alloc o).heap.size = w.heap.size + 1 := by simp
def zeros (n : Nat) : List Int := List.replicate n 0
section
variable {P : Program} {ops : Array Oper} {rest : List Oper} {dst : Option Tmp} {x y : Operand} {ty : TypeId} {pos : String} {aft : Array Edge} {gd : Option (Nat × Bool)} {a : Act} {w : World} {Q : Exit → Act → World → Prop} {t : TypeId} {b : Nat} {cs : Array Value}
theorem wpList_load_str {fs : Array Field} (hb : w.heap[b]? = some (.cells cs t)) (hu : P.underlying t = some (.struct fs)) (hi : (P.info? t).map (·.size) = some cs.size)
   (hw : Region.wanted ⟨dst, .load t x, ty, pos, aft, gd⟩ (yielded ops a.tmps) = true) (hx : a.eval x = .pointer (some ⟨b, 0, none⟩))
   (h : wpList P ops Q rest (a.put dst (.agg cs)) w) : wpList P ops Q (⟨dst, .load t x, ty, pos, aft, gd⟩ :: rest) a w := by
 unfold wpList
 rw [if_pos hw]
 exact .inl (wp_load_row t x rfl b hx t cs (0, 0) _ hb hu rfl hi h)
end

section
variable {ops : Array Oper} {rest : List Oper} {dst : Option Tmp} {x y : Operand} {ty : TypeId} {pos : String} {aft : Array Edge} {gd : Option (Nat × Bool)} {a : Act} {w : World} {Q : Exit → Act → World → Prop} {b : Nat} {c : List Int}
theorem load29 (r : Row w b 26 .u32 c) (hl : c.length = 29) (hw : Region.wanted ⟨dst, .load 26 x, ty, pos, aft, gd⟩ (yielded ops a.tmps) = true) (hx : a.eval x = .pointer (some ⟨b, 0, none⟩))
   (h : wpList Tryz.prog ops Q rest (a.put dst (.agg (ints .u32 c))) w) : wpList Tryz.prog ops Q (⟨dst, .load 26 x, ty, pos, aft, gd⟩ :: rest) a w :=
 wpList_load_str r Tryz.underlying26 (info_core c hl) hw hx h
theorem alloc29 (hb : w.heap.size = b) (hw : Region.wanted ⟨dst, .alloc 26, ty, pos, aft, gd⟩ (yielded ops a.tmps) = true)
   (h : wpList Tryz.prog ops Q rest (a.put dst (.pointer (some ⟨b, 0, none⟩))) (w.alloc (.cells (ints .u32 (zeros 29)) 26))) :
   wpList Tryz.prog ops Q (⟨dst, .alloc 26, ty, pos, aft, gd⟩ :: rest) a w := by
 subst hb
 have hz : (Tryz.prog.info? 26).map (fun i => (i.zero, i.size)) = some (some (.agg (ints .u32 (zeros 29))), 29) := by kernel_rfl
 have hz1 := (zero_of_info hz).1
 unfold wpList
 rw [if_pos hw]
 refine .inl ?_
 unfold Oper.wp execOp
 simp only [Instr.alloc, Sem.run_bind, hz1, Result.andThen_ok]
 simp only [newVar, newRow, Value.cells, go_sem]
 exact h
end

section
variable {ops : Array Oper} {rest : List Oper} {dst : Option Tmp} {x y : Operand} {ty : TypeId} {pos : String} {aft : Array Edge} {gd : Option (Nat × Bool)} {a : Act} {w : World} {b : Nat} {c : List Int} {Q : Act → Prop}
abbrev Later (w : World) : World → Prop := fun w' => ∃ p : Regrown, w' = grow (redrawn w p.d) p.os
end

def Blk (w : World) (b : Nat) (t : TypeId) (cs : Array Value) : Prop := w.heap[b]? = some (.cells cs t)
theorem Blk.lt {w : World} {b : Nat} {t : TypeId} {cs : Array Value} (h : Blk w b t cs) : b < w.heap.size := (Array.getElem?_eq_some_iff.1 h).1
theorem Blk.dn {w w' : World} {b : Nat} {t : TypeId} {cs : Array Value} (h : Blk w b t cs) (hd : Dn w w') : Blk w' b t cs := (hd.block b h.lt).trans h
theorem Blk.new (w : World) (t : TypeId) (cs : Array Value) : Blk (w.alloc (.cells cs t)) w.heap.size t cs := heap_alloc_last _ _
theorem Blk.old {w : World} {b : Nat} {t : TypeId} {cs : Array Value} (h : Blk w b t cs) (o : Obj) : Blk (w.alloc o) b t cs := h.dn ((Dn.refl w).alloc o)
theorem Blk.cell {w : World} {b : Nat} {t : TypeId} {cs : Array Value} (h : Blk w b t cs) {i : Nat} {v : Value} (hv : cs[i]? = some v) : w.cell? ⟨b, i, none⟩ = some v := (cell_of_row w b i _ t (0, 0) h).trans hv
theorem Row.blk {w : World} {b : Nat} {t : TypeId} {k : IntKind} {c : List Int} (h : Row w b t k c) : Blk w b t (ints k c) := h
theorem Blk.row {w : World} {b : Nat} {t : TypeId} {k : IntKind} {c : List Int} (h : Blk w b t (ints k c)) : Row w b t k c := h
theorem Row.old {w : World} {b : Nat} {t : TypeId} {k : IntKind} {c : List Int} (h : Row w b t k c) (o : Obj) : Row (w.alloc o) b t k c := h.dn ((Dn.refl w).alloc o)

structure Trn (b : Nat) (w w' : World) : Prop where
 os : w'.os = w.os
 tape : w'.tape = w.tape
 output : w'.output = w.output
 size : w'.heap.size = w.heap.size
 block : ∀ i, i ≠ b → w'.heap[i]? = w.heap[i]?
theorem Trn.setRow (w : World) (b : Nat) (cs : Array Value) : Trn b w (w.setRow b cs) := ⟨rfl, rfl, rfl, by simp, fun i hi => setRow_other w b i cs hi⟩
theorem Dn.trn {a w w' : World} {b : Nat} (h : Dn a w) (hb : a.heap.size ≤ b) (t : Trn b w w') : Dn a w' :=
 ⟨t.os.trans h.os, t.tape.trans h.tape, t.output.trans h.output, by rw [t.size]; exact h.size, fun i hi => (t.block i (by omega)).trans (h.block i hi)⟩
theorem Blk.trn {w w' : World} {b b' : Nat} {t : TypeId} {cs : Array Value} (h : Blk w b t cs) (k : Trn b' w w') (hn : b ≠ b') : Blk w' b t cs := (k.block b hn).trans h
theorem Row.trn {w w' : World} {b b' : Nat} {t : TypeId} {k : IntKind} {c : List Int} (h : Row w b t k c) (e : Trn b' w w') (hn : b ≠ b') : Row w' b t k c := (e.block b hn).trans h

def lay (cs : Array Value) (o : Nat) (vs : Array Value) : Array Value := (cs.toList.take o ++ vs.toList ++ cs.toList.drop (o + vs.size)).toArray
theorem lay_one (cs : Array Value) (o : Nat) (v : Value) (h : o < cs.size) : lay cs o #[v] = cs.setIfInBounds o v := by
 apply Array.toList_inj.1
 rw [Array.toList_setIfInBounds, List.set_eq_take_append_cons_drop, if_pos (by simpa using h)]
 simp [lay]
theorem lay_all (cs vs : Array Value) (h : cs.size = vs.size) : lay cs 0 vs = vs := by
 apply Array.toList_inj.1
 simp [lay, h]
theorem lay_ints (k : IntKind) (c d : List Int) (o : Nat) : lay (ints k c) o (ints k d) = ints k (c.take o ++ d ++ c.drop (o + d.length)) := by
 simp [lay, ints]
theorem part_ints (k : IntKind) (c : List Int) (o n : Nat) : (ints k c).extract o (o + n) = ints k ((c.drop o).take n) := by
 apply Array.toList_inj.1
 simp [ints, List.map_take, List.map_drop]

section
variable {P : Program} {ops : Array Oper} {rest : List Oper} {dst : Option Tmp} {x y : Operand} {ty : TypeId} {pos : String} {aft : Array Edge} {gd : Option (Nat × Bool)} {a : Act} {w : World} {Q : Exit → Act → World → Prop} {t s : TypeId} {b : Nat} {cs : Array Value} {d : TypeDesc} {k : IntKind} {c : List Int}

theorem run_storeVar_at (o : Nat) (v : Value) (hb : Blk w b t cs) (hi : (P.info? s).map (·.size) = some v.cells.size) (ho : o + v.cells.size ≤ cs.size) (h1 : v.cells.all (·.oneCell') = true) :
   (storeVar s ⟨b, o, none⟩ v).run P w = .ok () (w.setRow b (lay cs o v.cells)) := by
 have hst := run_storeCells_at (P := P) b o t v.cells.toList 0 cs w hb (by simpa using ho) (fun u hu => (Array.all_eq_true_iff_forall_mem.1 h1) u (by simpa using hu))
 simp only [Nat.add_zero, Array.length_toList] at hst
 cases hq : P.info? s with
 | none => simp [hq] at hi
 | some i =>
   have hs : v.cells.size = i.size := by simp [hq] at hi; omega
   simp only [storeVar, sizeOf, typeInfo, Sem.run_bind]
   simp [hq, hs, hst, lay]

theorem wpList_store_at (o : Nat) (v : Value) (hb : Blk w b t cs) (hi : (P.info? s).map (·.size) = some v.cells.size) (ho : o + v.cells.size ≤ cs.size) (h1 : v.cells.all (·.oneCell') = true)
   (hw : Region.wanted ⟨none, .store s x y, ty, pos, aft, gd⟩ (yielded ops a.tmps) = true) (hx : a.eval x = .pointer (some ⟨b, o, none⟩)) (hy : a.eval y = v)
   (h : ∀ w', Blk w' b t (lay cs o v.cells) → Trn b w w' → wpList P ops Q rest a w') : wpList P ops Q (⟨none, .store s x y, ty, pos, aft, gd⟩ :: rest) a w := by
 unfold wpList
 rw [if_pos hw]
 refine .inl ?_
 unfold Oper.wp execOp
 simp only [hx, hy, Instr.storeAt, Instr.sureAddr, Sem.run_bind, Sem.run_pure, Result.andThen_ok, run_storeVar_at o v hb hi ho h1]
 exact h _ (setRow_heap w b _ _ t _ hb) (Trn.setRow w b _)
theorem wpList_store_whole (vs : Array Value) (hb : Blk w b t cs) (hi : (P.info? s).map (·.size) = some vs.size) (ho : cs.size = vs.size) (h1 : vs.all (·.oneCell') = true)
   (hw : Region.wanted ⟨none, .store s x y, ty, pos, aft, gd⟩ (yielded ops a.tmps) = true) (hx : a.eval x = .pointer (some ⟨b, 0, none⟩)) (hy : a.eval y = .agg vs)
   (h : ∀ w', Blk w' b t vs → Trn b w w' → wpList P ops Q rest a w') : wpList P ops Q (⟨none, .store s x y, ty, pos, aft, gd⟩ :: rest) a w := by
 refine wpList_store_at 0 (.agg vs) hb hi (by simp only [Value.cells]; omega) h1 hw hx hy fun w' hb' ht => h w' ?_ ht
 rwa [show lay cs 0 (Value.agg vs).cells = vs from lay_all cs vs ho] at hb'
theorem wpList_store_int {u : Int} {i : Nat} (r : Row w b t k c) (hi : (P.info? s).map (·.size) = some 1)
   (hw : Region.wanted ⟨none, .store s x y, ty, pos, aft, gd⟩ (yielded ops a.tmps) = true) (hx : a.eval x = .pointer (some ⟨b, i, none⟩)) (hy : a.eval y = .int k u) (hl : i < c.length)
   (h : ∀ w', Row w' b t k (c.set i u) → Trn b w w' → wpList P ops Q rest a w') : wpList P ops Q (⟨none, .store s x y, ty, pos, aft, gd⟩ :: rest) a w := by
 refine wpList_store_at i (.int k u) r.blk hi (by rw [ints_size]; simp only [Value.cells, List.size_toArray, List.length_singleton]; omega) (by simp [Value.cells, Value.oneCell']) hw hx hy fun w' hb' ht => h w' ?_ ht
 rwa [show lay (ints k c) i (Value.int k u).cells = ints k (c.set i u) by rw [← ints_set]; exact lay_one _ _ _ (by rw [ints_size]; exact hl)] at hb'
theorem wpList_store_ints (e : List Int) {i : Nat} (r : Row w b t k c) (hi : (P.info? s).map (·.size) = some e.length)
   (hw : Region.wanted ⟨none, .store s x y, ty, pos, aft, gd⟩ (yielded ops a.tmps) = true) (hx : a.eval x = .pointer (some ⟨b, i, none⟩)) (hy : a.eval y = .agg (ints k e)) (hl : i + e.length ≤ c.length)
   (h : ∀ w', Row w' b t k (c.take i ++ e ++ c.drop (i + e.length)) → Trn b w w' → wpList P ops Q rest a w') : wpList P ops Q (⟨none, .store s x y, ty, pos, aft, gd⟩ :: rest) a w := by
 refine wpList_store_at i (.agg (ints k e)) r.blk (by rw [hi]; simp [Value.cells, ints_size]) (by rw [ints_size]; simp only [Value.cells, ints_size]; omega) (ints_one k e) hw hx hy fun w' hb' ht => h w' ?_ ht
 rwa [show lay (ints k c) i (Value.agg (ints k e)).cells = _ from lay_ints k c e i] at hb'

theorem wpList_load_whole (hb : Blk w b t cs) (hu : P.underlying s = some d) (hd : d.isRow = true) (hi : (P.info? s).map (·.size) = some cs.size)
   (hw : Region.wanted ⟨dst, .load s x, ty, pos, aft, gd⟩ (yielded ops a.tmps) = true) (hx : a.eval x = .pointer (some ⟨b, 0, none⟩))
   (h : wpList P ops Q rest (a.put dst (.agg cs)) w) : wpList P ops Q (⟨dst, .load s x, ty, pos, aft, gd⟩ :: rest) a w := by
 unfold wpList
 rw [if_pos hw]
 exact .inl (wp_load_row s x rfl b hx t cs (0, 0) d hb hu (by cases d <;> simp_all) hi h)
end

section
variable {P : Program} {dst : Option Tmp} {x y : Operand} {ty : TypeId} {pos : String} {aft : Array Edge} {gd : Option (Nat × Bool)} {a : Act} {w : World} {t s : TypeId} {b : Nat} {cs : Array Value} {d : TypeDesc} {k : IntKind} {c : List Int} {K : Act → Prop}
theorem Blk.later (r : Blk w b t cs) (w' : World) (h : Later w w') : Blk w' b t cs := by
 obtain ⟨p, rfl⟩ := h
 exact r.dn (below_regrown w p.d p.os)
end

section
variable {P : Program} {ops : Array Oper} {Q : Exit → Act → World → Prop} {md : Region.Mode} {w0 : World}

def Like (ops : Array Oper) (o : Oper) (a a' : Act) : Prop := execOp a'.eval o = execOp a.eval o ∧ Region.wanted o (yielded ops a'.tmps) = Region.wanted o (yielded ops a.tmps)
theorem Like.trans {o : Oper} {a b c : Act} (h : Like ops o a b) (k : Like ops o b c) : Like ops o a c := ⟨k.1.trans h.1, k.2.trans h.2⟩

theorem swap {j : Nat} {oi oj : Oper} {v : Value} (hj : ops[j]? = some oj) (hap : oi.apart ops oj = true) (hsi : ∀ cs b, oi.op ≠ .select cs b) (hsj : ∀ cs b, oj.op ≠ .select cs b)
   (hQ : ∀ c a w, Q (.panic c) (a.put oi.dst v) w → Q (.panic c) a w) {K : Act → World → Prop} {a : Act} {w : World} (h : wpOp P ops Q j K (a.put oi.dst v) w) :
   wpOp P ops Q j (fun a' w' => Like ops oi a a' ∧ K (a'.put oi.dst v) w') a w := by
 obtain ⟨h1, h2, h3⟩ := Oper.apart_spec hap
 have lk : ∀ (b : Act) (u : Value), Like ops oi b (b.put oj.dst u) := fun b u => ⟨execOp_put oi hsi b oj.dst u h3, wanted_put oi b oj.dst u h3⟩
 have go : ∀ (u : Value) (x : World), K ((a.put oi.dst v).put oj.dst u) x → Like ops oi a (a.put oj.dst u) ∧ K ((a.put oj.dst u).put oi.dst v) x := fun u x hk => ⟨lk a u, by rw [← Act.put_comm a v u h2]; exact hk⟩
 unfold wpOp at h ⊢
 simp only [hj] at h ⊢
 rw [wanted_put oj a oi.dst v h1] at h
 by_cases hw : Region.wanted oj (yielded ops a.tmps) = true
 · rw [if_pos hw] at h ⊢
   rcases h with h | ⟨ha, hl⟩
   · refine .inl ?_
     unfold Oper.wp at h ⊢
     rw [execOp_put oj hsj a oi.dst v h1] at h
     revert h
     generalize (execOp a.eval oj).run P w = r
     intro h
     match r, h with
     | .ok (.value u) x, h => exact go u x h
     | .ok .skip x, h => exact go undef x h
     | .ok (.defer d) x, h =>
       refine ⟨Like.trans (b := { a with defers := d :: a.defers }) ⟨rfl, rfl⟩ (lk _ _), ?_⟩
       rw [← Act.put_comm _ v undef h2, ← Act.put_defers]
       exact h
     | .ok (.enter f args) x, h =>
       refine Calls.mono h fun e y he => ?_
       match e, he with
       | .returned u, he => exact go u y he
       | .panicked c, he => exact hQ _ _ _ he
       | .outgrown, he => exact he
     | .ok (.row row args) x, h => exact Rows.mono h fun u y he => go u y he
     | .halt (.panic u) x, h => exact hQ _ _ _ h
   · refine .inr ⟨?_, hl⟩
     unfold Oper.asks at ha ⊢
     rwa [execOp_put oj hsj a oi.dst v h1] at ha
 · rw [if_neg hw] at h ⊢
   exact go undef w h

def CalmUpon (P : Program) (w : World) (v : Value) : Result Next → Prop
 | .ok (.value u) x => x = w ∧ u = v
 | .ok .skip x => x = w ∧ v = undef
 | .ok (.enter f args) x => x = w ∧ Calls P f args w fun e y => e = .returned v ∧ Dn w y
 | _ => False
theorem no_wait {i : Nat} {oj : Oper} {listed : Array Bool} (hi : listed.getD i true = false) (hall : ∀ e ∈ oj.after, Region.binds md e = true → listed.getD e.on false = true) : ∀ e ∈ oj.after, Region.binds md e = true → e.on ≠ i := by
 intro e he hb
 rintro rfl
 have h1 := hall e he hb
 rw [Array.getD_eq_getD_getElem?] at hi h1
 cases hq : listed[e.on]? with
 | none => rw [hq] at hi; cases hi
 | some z => rw [hq] at hi h1; exact absurd (hi.symm.trans h1) (by decide)
theorem Dn.drawn (w : World) : Dn w w.drew := (Dn.refl w).drew

end

section
variable {P : Program} {ops : Array Oper} {dst : Option Tmp} {x y : Operand} {ty : TypeId} {pos : String} {aft : Array Edge} {gd : Option (Nat × Bool)} {a : Act} {w0 : World} {t s : TypeId} {b : Nat} {cs : Array Value} {d : TypeDesc}
end
end Go.Proofs.YtclpdjpaaagkdaaGreatDoor
namespace Go.Proofs.YtclpdjpaaagkdaaGreatDoor.M
open Go.RowKit
set_option linter.unusedVariables false

def wr (xs : List Int) (a : Nat) (bs : List Int) : List Int := xs.take a ++ (bs ++ xs.drop (a + bs.length))
def rd (xs : List Int) (a n : Nat) : List Int := (xs.drop a).take n
def leval : List Int → Int
 | [] => 0
 | x :: r => x + 256 * leval r
def bytes (v : Int) : Nat → List Int
 | 0 => []
 | n + 1 => bytes v n ++ [v / 256 ^ n % 256]
def By (xs : List Int) : Prop := ∀ x ∈ xs, 0 ≤ x ∧ x ≤ 255

theorem wr_at (xs bs : List Int) (a i : Nat) (h : a ≤ xs.length) : (wr xs a bs)[i]? = if i < a then xs[i]? else if i < a + bs.length then bs[i - a]? else xs[i]? := by
 unfold wr
 have hl : (xs.take a).length = a := by simp; omega
 rw [List.getElem?_append, List.getElem?_append, List.getElem?_drop, hl]
 by_cases h1 : i < a
 · rw [if_pos h1, if_pos h1, List.getElem?_take, if_pos h1]
 · rw [if_neg h1, if_neg h1]
   by_cases h2 : i < a + bs.length
   · rw [if_pos h2, if_pos (by omega)]
   · rw [if_neg h2, if_neg (by omega)]
     congr 1
     omega
theorem wr_len {xs bs : List Int} {a : Nat} (h : a + bs.length ≤ xs.length) : (wr xs a bs).length = xs.length := by
 unfold wr
 simp
 omega
theorem rd_len {xs : List Int} {a n : Nat} (h : a + n ≤ xs.length) : (rd xs a n).length = n := by
 unfold rd
 simp
 omega
theorem wr_nil (xs : List Int) (a : Nat) : wr xs a [] = xs := by simp [wr]
theorem getD_at {xs : List Int} {i : Nat} (h : i < xs.length) : xs[i]? = some (xs.getD i 0) := by simp [List.getD, h]
theorem wr_step {xs bs : List Int} {a : Nat} (x : Int) (h : a + bs.length < xs.length) : (wr xs a bs).set (a + bs.length) x = wr xs a (bs ++ [x]) := by
 apply List.ext_getElem?
 intro i
 rw [List.getElem?_set, wr_len (by omega), wr_at _ _ _ _ (by omega), wr_at _ _ _ _ (by omega)]
 simp only [List.length_append, List.length_cons, List.length_nil]
 by_cases h1 : i < a
 · rw [if_neg (by omega), if_pos h1, if_pos h1]
 · by_cases h2 : i < a + bs.length
   · rw [if_neg (by omega), if_neg h1, if_neg h1, if_pos h2, if_pos (by omega), List.getElem?_append, if_pos (by omega)]
   · by_cases h3 : i = a + bs.length
     · subst h3
       rw [if_pos rfl, if_pos h, if_neg h1, if_pos (by omega), List.getElem?_append, if_neg (by omega)]
       simp [Nat.add_sub_cancel_left]
     · rw [if_neg (by omega), if_neg h1, if_neg h2, if_neg h1, if_neg (by omega)]
theorem rd_succ {xs : List Int} {a k : Nat} (h : a + k < xs.length) : rd xs a (k + 1) = rd xs a k ++ [xs.getD (a + k) 0] := by
 unfold rd
 rw [List.take_succ_eq_append_getElem (by simp; omega)]
 simp [List.getD, h]
theorem rd_cons {xs : List Int} {a n : Nat} (h : a < xs.length) : rd xs a (n + 1) = xs.getD a 0 :: rd xs (a + 1) n := by
 unfold rd
 rw [List.drop_eq_getElem_cons h, List.take_succ_cons]
 simp [List.getD, h]
theorem rd_zero (xs : List Int) (a : Nat) : rd xs a 0 = [] := by simp [rd]
theorem wr_full (zs xs : List Int) (h : zs.length = xs.length) : wr zs 0 xs = xs := by simp [wr, h]
theorem By.wr {xs bs : List Int} {a : Nat} (h : By xs) (k : By bs) : By (wr xs a bs) := by
 intro x hx
 unfold M.wr at hx
 rcases List.mem_append.1 hx with h1 | h1
 · exact h x (List.mem_of_mem_take h1)
 · rcases List.mem_append.1 h1 with h2 | h2
   · exact k x h2
   · exact h x (List.mem_of_mem_drop h2)
theorem By.rd {xs : List Int} {a n : Nat} (h : By xs) : By (rd xs a n) := fun x hx => h x (List.mem_of_mem_drop (List.mem_of_mem_take hx))
theorem By.app {xs ys : List Int} (h : By xs) (k : By ys) : By (xs ++ ys) := fun x hx => by
 rcases List.mem_append.1 hx with h1 | h1
 · exact h x h1
 · exact k x h1
theorem By.getD {xs : List Int} (h : By xs) (i : Nat) : 0 ≤ xs.getD i 0 ∧ xs.getD i 0 ≤ 255 := by
 by_cases hi : i < xs.length
 · have := h (xs.getD i 0) (List.mem_of_getElem? (getD_at hi))
   exact this
 · simp [List.getD, List.getElem?_eq_none (by omega : xs.length ≤ i)]
theorem bytes_by (v : Int) (n : Nat) : By (bytes v n) := by
 induction n with
 | zero => intro x hx; simp [bytes] at hx
 | succ n ih =>
   refine ih.app ?_
   intro x hx
   simp at hx
   subst hx
   generalize v / 256 ^ n = y
   omega
theorem bytes_len (v : Int) (n : Nat) : (bytes v n).length = n := by
 induction n with
 | zero => rfl
 | succ n ih => simp [bytes, ih]
theorem leval_snoc (l : List Int) (x : Int) : leval (l ++ [x]) = leval l + 256 ^ l.length * x := by
 induction l with
 | nil => simp [leval]
 | cons y r ih =>
   simp only [List.cons_append, leval, ih, List.length_cons, Int.pow_succ]
   rw [Int.mul_add, Int.add_assoc, ← Int.mul_assoc, Int.mul_comm 256 (256 ^ r.length)]
theorem leval_range {l : List Int} (h : By l) : 0 ≤ leval l ∧ leval l < 256 ^ l.length := by
 induction l with
 | nil => simp [leval]
 | cons y r ih =>
   have h1 := ih (fun x hx => h x (by simp [hx]))
   have h2 := h y (by simp)
   simp only [leval, List.length_cons, Int.pow_succ]
   generalize (256 : Int) ^ r.length = p at *
   omega
theorem or_top (v x : Int) (n : Nat) (hv0 : 0 ≤ v) (hv : v < 2 ^ n) (hx0 : 0 ≤ x) (hx : x ≤ 255) (hn : n ≤ 24) : bits .or .u32 v (2 ^ n * x) = v + 2 ^ n * x := by
 obtain ⟨V, rfl⟩ := Int.eq_ofNat_of_zero_le hv0
 obtain ⟨X, rfl⟩ := Int.eq_ofNat_of_zero_le hx0
 have e : (2 : Int) ^ n = ((2 ^ n : Nat) : Int) := by simp
 rw [e] at hv ⊢
 have hV : V < 2 ^ n := by omega
 have h24 : 2 ^ n ≤ 2 ^ 24 := Nat.pow_le_pow_right (by decide) hn
 have hX : 2 ^ n * X ≤ 2 ^ 24 * 255 := Nat.mul_le_mul h24 (by omega)
 have := Nat.two_pow_add_eq_or_of_lt hV X
 rw [show ((2 ^ n : Nat) : Int) * (X : Int) = ((2 ^ n * X : Nat) : Int) by simp, u32_or_nat V (2 ^ n * X) (by omega) (by omega), Nat.or_comm, ← this]
 omega
theorem pow256 (k : Nat) : (2 : Int) ^ (8 * k) = 256 ^ k := by rw [Int.pow_mul]; rfl
theorem or_byte (u x : Int) (k : Nat) (hu0 : 0 ≤ u) (hu : u < 256 ^ k) (hx0 : 0 ≤ x) (hx : x ≤ 255) (hk : k ≤ 3) : bits .or .u32 u (x * 2 ^ (8 * k) % 4294967296) = u + 256 ^ k * x := by
 have hp : (2 : Int) ^ (8 * k) ≤ 16777216 := by
   have : (2 : Nat) ^ (8 * k) ≤ 2 ^ 24 := Nat.pow_le_pow_right (by decide) (by omega)
   have e : (2 : Int) ^ (8 * k) = ((2 ^ (8 * k) : Nat) : Int) := by simp
   rw [e]; omega
 have hp0 : (0 : Int) < 2 ^ (8 * k) := Int.pow_pos (by decide)
 have h1 := or_top u x (8 * k) hu0 (by rw [pow256]; exact hu) hx0 hx (by omega)
 rw [← pow256, ← h1]
 have h2 : x * 2 ^ (8 * k) ≤ 255 * 16777216 := Int.mul_le_mul hx hp (by omega) (by omega)
 have h3 : 0 ≤ x * 2 ^ (8 * k) := Int.mul_nonneg hx0 (by omega)
 rw [Int.emod_eq_of_lt h3 (by omega), Int.mul_comm]
end Go.Proofs.YtclpdjpaaagkdaaGreatDoor.M
namespace Go.Proofs.YtclpdjpaaagkdaaGreatDoor
open Go.ChangeShapes Go.WideShapes Go.ChangeAt Go.RowKit Go.Sort
open Go.Proofs.YtclpdjpaaagkdaaGreatDoor.M (By)
set_option linter.unusedVariables false

theorem add0 (b k : Nat) : (⟨b, 0, none⟩ : Addr).add k = ⟨b, k, none⟩ := by unfold Addr.add; split <;> simp_all
theorem block_add (a : Addr) (n : Nat) : (a.add n).block = a.block := by unfold Addr.add; split <;> rfl
theorem add_add (a : Addr) (n m : Nat) : (a.add n).add m = a.add (n + m) := by
 unfold Addr.add
 by_cases h1 : n = 0
 · subst h1; simp
 · by_cases h2 : m = 0
   · subst h2; simp [h1]
   · simp [h1, h2]; omega
theorem info8 : (Tryz.prog.info? 5).map (fun i => (i.zero, i.size, i.bytes)) = some (some (.int .u8 0), 1, 1) := by kernel_rfl
theorem size8 : (Tryz.prog.info? 5).map (·.size) = some 1 := by kernel_rfl

def Bs (w : World) (A : Option Addr) (c : Nat) (xs : List Int) : Prop :=
 xs.length ≤ c ∧ By xs ∧ (xs ≠ [] → ∃ ad, A = some ad ∧ ad.block < w.heap.size ∧ ∀ (j : Nat) x, xs[j]? = some x → w.cell? (ad.add j) = some (.int .u8 x))
theorem Bs.dn {w w' : World} {A : Option Addr} {c : Nat} {xs : List Int} (h : Bs w A c xs) (k : Dn w w') : Bs w' A c xs :=
 ⟨h.1, h.2.1, fun hx => by
   obtain ⟨ad, e, hb, hc⟩ := h.2.2 hx
   exact ⟨ad, e, Nat.lt_of_lt_of_le hb k.size, fun j x hj => k.keep (hc j x hj)⟩⟩
theorem Bs.cells {w : World} {A : Option Addr} {c : Nat} {xs : List Int} (h : Bs w A c xs) (hx : 0 < xs.length) : ∃ ad, A = some ad ∧ ad.block < w.heap.size ∧ ∀ (j : Nat), j < xs.length → w.cell? (ad.add j) = some (.int .u8 (xs.getD j 0)) := by
 obtain ⟨ad, e, hb, hc⟩ := h.2.2 (by intro e; rw [e] at hx; exact absurd hx (by simp))
 exact ⟨ad, e, hb, fun j hj => hc j _ (M.getD_at hj)⟩
theorem Bs.drop {w : World} {A A' : Option Addr} {c l : Nat} {xs : List Int} (h : Bs w A c xs) (hl : l ≤ xs.length) (hA : l < c → A' = A.map (·.add l)) : Bs w A' (c - l) (xs.drop l) := by
 have h0 := h.1
 refine ⟨by simp; omega, fun x hx => h.2.1 x (List.mem_of_mem_drop hx), fun hx => ?_⟩
 have h1 : l < xs.length := by
   rcases Nat.lt_or_ge l xs.length with h1 | h1
   · exact h1
   · exact absurd (List.drop_eq_nil_of_le h1) hx
 obtain ⟨ad, rfl, hb, hc⟩ := h.2.2 (by intro e; rw [e] at h1; exact absurd h1 (by simp))
 refine ⟨ad.add l, hA (by omega), by rw [block_add]; exact hb, fun j x hj => ?_⟩
 rw [add_add]
 rw [List.getElem?_drop] at hj
 exact hc _ _ hj
theorem Bs.take {w : World} {A A' : Option Addr} {c l : Nat} {xs : List Int} (h : Bs w A c xs) (hl : l ≤ xs.length) (hA : A' = A) : Bs w A' c (xs.take l) := by
 have h0 := h.1
 subst hA
 refine ⟨by simp; omega, fun x hx => h.2.1 x (List.mem_of_mem_take hx), fun hx => ?_⟩
 obtain ⟨ad, rfl, hb, hc⟩ := h.2.2 (by intro e; rw [e] at hx; exact hx (by simp))
 refine ⟨ad, rfl, hb, fun j x hj => ?_⟩
 rw [List.getElem?_take] at hj
 split at hj
 · exact hc _ _ hj
 · cases hj
theorem Bs.of_row {w : World} {g : Nat} {xs : List Int} (h : Row w g 5 .u8 xs) (hb : By xs) : Bs w (some ⟨g, 0, none⟩) xs.length xs :=
 ⟨Nat.le_refl _, hb, fun _ => ⟨_, rfl, h.lt, fun j x hj => by
   have hl := (List.getElem?_eq_some_iff.1 hj).1
   have := h.cell j hl
   rw [add0]
   rw [this]
   rw [M.getD_at hl] at hj
   cases hj
   rfl⟩⟩
theorem Bs.of_own {w : World} {base : Nat} {v : Value} {n : Nat} {xs : List Int} (hn : n = xs.length) (hr : By xs) (h : w.ownsRow base 5 1 v n (xs.map (Value.int .u8))) : ∃ A c, v = .slice A xs.length c ∧ Bs w A c xs := by
 subst hn
 rcases h.2 with ⟨rfl, h0⟩ | ⟨g, cap, cur, rfl, hb, hg, hnc, hcm, hsz, htk⟩
 · have : xs = [] := List.length_eq_zero_iff.1 h0
   subst this
   exact ⟨none, 0, rfl, ⟨Nat.le_refl _, hr, fun hx => absurd rfl hx⟩⟩
 · refine ⟨_, cap, rfl, ⟨hnc, hr, fun _ => ⟨_, rfl, (Array.getElem?_eq_some_iff.1 hg).1, fun j x hj => ?_⟩⟩⟩
   have h1 : cur[j]? = some (.int .u8 x) := by
     have hlt := (List.getElem?_eq_some_iff.1 hj).1
     have h2 : (cur.toList.take (xs.length * 1))[j]? = some (.int .u8 x) := by rw [htk, List.getElem?_map, hj]; rfl
     rw [List.getElem?_take, if_pos (by omega), Array.getElem?_toList] at h2
     exact h2
   rw [add0]
   unfold World.cell?
   rw [hg]
   exact h1

theorem below_keep {B : Nat} {w0 w w' : World} {row : Option Nat} (h : Below B w0 w) (hg : w.grownBy w' row) (hs : B ≤ w.heap.size) (hB : ∀ r, row = some r → B ≤ r) : Below B w0 w' :=
 ⟨hg.os.trans h.os, hg.tape.trans h.tape, hg.output.trans h.output, Nat.le_trans h.size hg.size, fun i hi => (hg.block i (by omega) (fun e => by have := hB i e.symm; omega)).trans (h.block i hi)⟩

theorem made8 (n : Nat) : madeCells (Value.int .u8 0).cells (n * 1) = ints .u8 (List.replicate n 0) := by
 apply Array.toList_inj.1
 have : (Value.int .u8 0).cells = #[.int .u8 0] := rfl
 rw [this, toList_madeCells_one]
 simp [ints]

section
variable {ops : Array Oper} {rest : List Oper} {dst : Option Tmp} {x y : Operand} {ty : TypeId} {pos : String} {aft : Array Edge} {gd : Option (Nat × Bool)} {a : Act} {w : World} {Q : Exit → Act → World → Prop}

theorem wpList_make8 {n : Nat} (hn : n ≤ 100000) (hw : Region.wanted ⟨dst, .makeSlice 27 x y, ty, pos, aft, gd⟩ (yielded ops a.tmps) = true) (hx : a.eval x = .int .i64 (n : Int)) (hy : a.eval y = .int .i64 (n : Int))
   (h : wpList Tryz.prog ops Q rest (a.put dst (.slice (some ⟨w.heap.size, 0, none⟩) n n)) (w.alloc (.cells (ints .u8 (List.replicate n 0)) 5))) :
   wpList Tryz.prog ops Q (⟨dst, .makeSlice 27 x y, ty, pos, aft, gd⟩ :: rest) a w := by
 obtain ⟨i, hi, hz, hs, hb⟩ := info_parts info8
 have hr := run_make (P := Tryz.prog) w 27 5 i _ Tryz.underlying27 hi hz .i64 .i64 (n : Int) (n : Int) (by omega) (by omega) (by rw [hb]; omega) (by omega)
 rw [hs, Int.toNat_natCast, made8] at hr
 unfold wpList
 rw [if_pos hw]
 refine .inl ?_
 unfold Oper.wp execOp
 simp only [hx, hy, Sem.run_bind, Sem.run_pure, hr, Result.andThen_ok]
 exact h

theorem wpList_from {A : Option Addr} {len c l : Nat} {k : IntKind} (hl : l ≤ len) (hc : len ≤ c) (hw : Region.wanted ⟨dst, .slice 27 x (some y) none none, ty, pos, aft, gd⟩ (yielded ops a.tmps) = true) (hx : a.eval x = .slice A len c) (hy : a.eval y = .int k (l : Int))
   (h : ∀ A', (l < c → A' = A.map (·.add l)) → wpList Tryz.prog ops Q rest (a.put dst (.slice A' (len - l) (c - l))) w) :
   wpList Tryz.prog ops Q (⟨dst, .slice 27 x (some y) none none, ty, pos, aft, gd⟩ :: rest) a w := by
 obtain ⟨i, hi, hz, hs, hb⟩ := info_parts info8
 have hu : Tryz.prog.underlying 27 = some (.slice (Tryz.prog.elem 27)) := by kernel_rfl
 have he : Tryz.prog.elem 27 = 5 := by kernel_rfl
 have hr := run_slice_l (P := Tryz.prog) w 27 A len c hu k (l : Int) (by omega) (by omega)
 have hz : (sizeOf (Tryz.prog.elem 27)).run Tryz.prog w = .ok 1 w := by rw [he]; simp [sizeOf, typeInfo, hi, hs]
 rw [hz, Result.andThen_ok, Int.toNat_natCast] at hr
 unfold wpList
 rw [if_pos hw]
 refine .inl ?_
 unfold Oper.wp execOp
 simp only [Option.map, hx, hy, Sem.run_bind, Sem.run_pure, run_sliceAt_slice _ _ _ _ _ _ hu, hr, Result.andThen_ok]
 unfold sliced
 exact h _ (fun hlt => by rw [if_neg (by omega), Nat.mul_one])

theorem wpList_upto {A : Option Addr} {len c l : Nat} {k : IntKind} (hl : l ≤ len) (hc : len ≤ c) (hw : Region.wanted ⟨dst, .slice 27 x none (some y) none, ty, pos, aft, gd⟩ (yielded ops a.tmps) = true) (hx : a.eval x = .slice A len c) (hy : a.eval y = .int k (l : Int))
   (h : wpList Tryz.prog ops Q rest (a.put dst (.slice A l c)) w) :
   wpList Tryz.prog ops Q (⟨dst, .slice 27 x none (some y) none, ty, pos, aft, gd⟩ :: rest) a w := by
 obtain ⟨i, hi, hz, hs, hb⟩ := info_parts info8
 have hu : Tryz.prog.underlying 27 = some (.slice (Tryz.prog.elem 27)) := by kernel_rfl
 have he : Tryz.prog.elem 27 = 5 := by kernel_rfl
 have hr := run_slice_h (P := Tryz.prog) w 27 A len c hu k (l : Int) (by omega) (by omega)
 have hz : (sizeOf (Tryz.prog.elem 27)).run Tryz.prog w = .ok 1 w := by rw [he]; simp [sizeOf, typeInfo, hi, hs]
 rw [hz, Result.andThen_ok, Int.toNat_natCast] at hr
 have e0 : sliced A 0 l c 1 = .slice A l c := by
   unfold sliced
   cases A with
   | none => simp
   | some ad => simp [Addr.add]
 rw [e0] at hr
 unfold wpList
 rw [if_pos hw]
 refine .inl ?_
 unfold Oper.wp execOp
 simp only [Option.map, hx, hy, Sem.run_bind, Sem.run_pure, run_sliceAt_slice _ _ _ _ _ _ hu, hr, Result.andThen_ok]
 exact h

theorem splice_wr (xs bs : List Int) (a : Nat) : splice (xs.map (Value.int .u8)) a (bs.map (Value.int .u8)) = (M.wr xs a bs).map (Value.int .u8) := by
 simp [splice, M.wr]
theorem ones (xs : List Int) : ∀ v ∈ xs.map (Value.int .u8), v.oneCell' = true := fun u hu => by obtain ⟨x, _, rfl⟩ := List.mem_map.1 hu; rfl
theorem srcs {w : World} {A : Option Addr} {c : Nat} {xs : List Int} (h : Bs w A c xs) (h0 : 0 < xs.length) : ∃ ad, A = some ad ∧ ∀ j v, (xs.map (Value.int .u8))[j]? = some v → w.cell? (ad.add j) = some v := by
 obtain ⟨ad, e, _, hc⟩ := h.2.2 (by intro e; rw [e] at h0; simp at h0)
 refine ⟨ad, e, fun j v hj => ?_⟩
 rw [List.getElem?_map] at hj
 obtain ⟨x, hyj, rfl⟩ := Option.map_eq_some_iff.1 hj
 exact hc j x hyj

theorem wpList_copy8 {g off : Nat} {cur bs : List Int} {A dp : Option Addr} {dLen dCap c : Nat} {B : Nat} {w0 : World} (HR : Hid (Row w g 5 .u8 cur)) (HX : Hid (Bs w A c bs)) (HD : Hid (Below B w0 w)) (HB : Hid (B ≤ g)) (HF : Hid (off + bs.length ≤ cur.length)) (HL : Hid (bs.length ≤ dLen)) (HP : Hid (0 < bs.length → dp = some ⟨g, off, none⟩))
   (hx : a.eval x = .slice dp dLen dCap) (hy : a.eval y = .slice A bs.length c)
   (h : ∀ w', Hid (Row w' g 5 .u8 (M.wr cur off bs)) → Hid (Below B w0 w') → wpList Tryz.prog ops Q rest (a.put dst (.int .i64 (bs.length : Int))) w') :
   wpList Tryz.prog ops Q (⟨dst, .call { callee := .builtin .copy, args := #[x, y], argTypes := #[27, 27] }, ty, pos, aft, none⟩ :: rest) a w := by
 refine wpList_copy_splice rfl x y 27 27 rfl 5 Tryz.underlying27 size8 dp A dLen dCap bs.length c hx hy g off (cur.map (Value.int .u8)) 5 HR.out (bs.map (Value.int .u8)) (by rw [List.length_map]; exact (Nat.min_eq_left HL.out).symm)
   (fun h0 => ⟨HP.out (by simpa using h0), srcs HX.out (by simpa using h0)⟩) (by simpa using HF.out) (ones bs) B w0 HD.out HB.out ?_
 intro w' H1 B1
 rw [splice_wr] at H1
 have := h w' H1 (Lib.hid B1)
 simpa [goInt] using this

theorem run_append8 (w : World) (base : Nat) (ty : TypeId) (v : Value) (n : Nat) (xs : List Value) (hown : w.ownsRow base 5 1 v n xs) (A : Option Addr) (c : Nat) (ys : List Int) (hy : Bs w A c ys) (hn : n + ys.length ≤ 100000) (hb : base ≤ w.heap.size) :
   ∃ v' w', (Builtin.append_ #[27, 27] ty #[v, .slice A ys.length c]).run Tryz.prog w = .ok v' w' ∧ w'.ownsRow base 5 1 v' (n + ys.length) (xs ++ ys.map (Value.int .u8)) ∧ w.grownBy w' v.ownBlock := by
 obtain ⟨i, hi, hz, hs, hby⟩ := info_parts info8
 cases A with
 | none =>
   have h0 : ys = [] := by
     rcases Classical.em (ys = []) with h | h
     · exact h
     · obtain ⟨ad, e, _⟩ := hy.2.2 h; cases e
   subst h0
   refine ⟨v, w, ?_, by simpa using hown, ⟨rfl, rfl, rfl, Nat.le_refl _, fun _ _ _ => rfl⟩⟩
   rcases hown.2 with ⟨rfl, hn0⟩ | ⟨g, cap, cur, rfl, hbg, hg, hnc, hcm, hsz, htk⟩
   · simp [Builtin.append_, run_underlying Tryz.underlying27, sizeOf, typeInfo, hi, Builtin.lenOf, Builtin.firstCells]
   · simp [Builtin.append_, run_underlying Tryz.underlying27, sizeOf, typeInfo, hi, Builtin.lenOf, Builtin.firstCells, loadCells, storeCells, hnc]
 | some ad =>
   obtain ⟨v', w', h1, h2, h3, _⟩ := run_append_own (P := Tryz.prog) w base 27 ty 5 i _ 1 1 Tryz.underlying27 hi hz hs hby rfl (by decide) v n xs hown ad ys.length c (ys.map (Value.int .u8)) (by simp) (fun j u hj => by
       rw [List.getElem?_map] at hj
       obtain ⟨x, hyj, rfl⟩ := Option.map_eq_some_iff.1 hj
       obtain ⟨ad', e, _, hc⟩ := hy.2.2 (by intro e; rw [e] at hyj; cases hyj)
       cases e
       exact hc j x hyj) (fun u hu => by obtain ⟨x, _, rfl⟩ := List.mem_map.1 hu; rfl) (by unfold maxLen; omega) (by omega) hb
   exact ⟨v', w', h1, h2, h3⟩

theorem wpList_append8 {o : Oper} (hw : Region.wanted o (yielded ops a.tmps) = true) (s x : Operand)
   (ho : o.op = .call { callee := .builtin .append, args := #[s, x], argTypes := #[27, 27] })
   (base : Nat) (v : Value) (n : Nat) (xs : List Value) (hs : a.eval s = v) (hown : w.ownsRow base 5 1 v n xs) (A : Option Addr) (c : Nat) (ys : List Int) (hx : a.eval x = .slice A ys.length c) (hy : Bs w A c ys) (hn : n + ys.length ≤ 100000) (hb : base ≤ w.heap.size)
   (h : ∀ v' w', w'.ownsRow base 5 1 v' (n + ys.length) (xs ++ ys.map (Value.int .u8)) → w.grownBy w' v.ownBlock → wpList Tryz.prog ops Q rest (a.put o.dst v') w') : wpList Tryz.prog ops Q (o :: rest) a w := by
 obtain ⟨v', w', hr, h2, h3⟩ := run_append8 w base o.type v n xs hown A c ys hy hn hb
 unfold wpList
 rw [if_pos hw]
 refine .inl ?_
 unfold Oper.wp execOp
 simp only [ho, resolve, invoke, builtin, Sem.run_bind, Sem.run_pure, Result.andThen_ok, List.map_toArray, List.map_cons, List.map_nil, hs, hx, hr]
 exact h v' w' h2 h3
end

theorem info16 : (Tryz.prog.info? 23).map (·.size) = some 16 := by kernel_rfl
theorem info_16 (c : List Int) (h : c.length = 16) : (Tryz.prog.info? 23).map (·.size) = some (ints .u32 c).size := by rw [ints_size, h]; exact info16
theorem zsize16 : (ints .u32 (zeros 16)).size = 16 := by rw [ints_size]; rfl
theorem size2 (w : World) (o p : Obj) : ((w.alloc o).alloc p).heap.size = w.heap.size + 1 + 1 := by simp

theorem Row.second (w : World) (o : Obj) (t : TypeId) (k : IntKind) (c : List Int) : Row ((w.alloc o).alloc (.cells (ints k c) t)) (w.heap.size + 1) t k c := by
 have h := Row.new (w.alloc o) t k c
 rwa [size_alloc] at h
theorem Row.third (w : World) (o p : Obj) (t : TypeId) (k : IntKind) (c : List Int) : Row (((w.alloc o).alloc p).alloc (.cells (ints k c) t)) (w.heap.size + 1 + 1) t k c := by
 have h := Row.new ((w.alloc o).alloc p) t k c
 rwa [size2] at h
theorem Row.otherCell {w : World} {b g i : Nat} {t : TypeId} {k : IntKind} {c : List Int} (h : Row w b t k c) (e : b ≠ g) (v : Value) : Row (w.setCell ⟨g, i, none⟩ v) b t k c := (heap_setCell_other w ⟨g, i, none⟩ b v e).trans h

section
variable {ops : Array Oper} {rest : List Oper} {dst : Option Tmp} {x y : Operand} {ty : TypeId} {pos : String} {aft : Array Edge} {gd : Option (Nat × Bool)} {a : Act} {w : World} {Q : Exit → Act → World → Prop} {b : Nat} {c : List Int}
theorem load16 (r : Row w b 23 .u32 c) (hl : c.length = 16) (hw : Region.wanted ⟨dst, .load 23 x, ty, pos, aft, gd⟩ (yielded ops a.tmps) = true) (hx : a.eval x = .pointer (some ⟨b, 0, none⟩))
   (h : wpList Tryz.prog ops Q rest (a.put dst (.agg (ints .u32 c))) w) : wpList Tryz.prog ops Q (⟨dst, .load 23 x, ty, pos, aft, gd⟩ :: rest) a w :=
 wpList_load_blk r Tryz.underlying23 (info_16 c hl) hw hx h
theorem alloc16 (hb : w.heap.size = b) (hw : Region.wanted ⟨dst, .alloc 23, ty, pos, aft, gd⟩ (yielded ops a.tmps) = true)
   (h : wpList Tryz.prog ops Q rest (a.put dst (.pointer (some ⟨b, 0, none⟩))) (w.alloc (.cells (ints .u32 (zeros 16)) 23))) :
   wpList Tryz.prog ops Q (⟨dst, .alloc 23, ty, pos, aft, gd⟩ :: rest) a w := by
 subst hb
 have hz : (Tryz.prog.info? 23).map (fun i => (i.zero, i.size)) = some (some (.agg (ints .u32 (zeros 16))), 16) := by kernel_rfl
 have hz1 := (zero_of_info hz).1
 unfold wpList
 rw [if_pos hw]
 refine .inl ?_
 unfold Oper.wp execOp
 simp only [Instr.alloc, Sem.run_bind, hz1, Result.andThen_ok]
 simp only [newVar, newRow, Value.cells, go_sem]
 exact h
theorem store16 {old : Array Value} (d : List Int) (hl : d.length = 16) (ho : old.size = 16) (hw : Region.wanted ⟨none, .store 23 x y, ty, pos, aft, gd⟩ (yielded ops a.tmps) = true) (hx : a.eval x = .pointer (some ⟨b, 0, none⟩)) (hy : a.eval y = .agg (ints .u32 d)) (hb : b = w.heap.size)
   (h : wpList Tryz.prog ops Q rest a (w.alloc (.cells (ints .u32 d) 23))) :
   wpList Tryz.prog ops Q (⟨none, .store 23 x y, ty, pos, aft, gd⟩ :: rest) a (w.alloc (.cells old 23)) :=
 wpList_store_last (info_16 d hl) (by rw [ints_size, hl, ho]) (ints_one _ d) hw hx hy hb h
theorem restore16 (r : Row w b 23 .u32 c) (d : List Int) (hc : c.length = 16) (hl : d.length = 16) (hw : Region.wanted ⟨none, .store 23 x y, ty, pos, aft, gd⟩ (yielded ops a.tmps) = true) (hx : a.eval x = .pointer (some ⟨b, 0, none⟩)) (hy : a.eval y = .agg (ints .u32 d))
   (h : wpList Tryz.prog ops Q rest a (w.setRow b (ints .u32 d))) : wpList Tryz.prog ops Q (⟨none, .store 23 x y, ty, pos, aft, gd⟩ :: rest) a w :=
 wpList_store_blk r (info_16 d hl) (by rw [ints_size, ints_size, hl, hc]) (ints_one _ d) hw hx hy h
end
theorem ret16 {fn : Func} {p : Tmp} {act : Act} {w : World} {b : Nat} {c : List Int} {Post : Ending → World → Prop} (h : fn.results = #[.cell p 23]) (hp : act.tmps.getD p undef = .pointer (some ⟨b, 0, none⟩)) (r : Row w b 23 .u32 c) (hl : c.length = 16)
   (k : Post (.returned (.agg (ints .u32 c))) w) (hd : act.defers = []) : bodyPost Tryz.prog fn Post .ret act w :=
 bodyPost_ret (results_cell_row h _ _ b 23 _ (0, 0) _ hp r Tryz.underlying23 rfl (info_16 c hl)) hd k

section
variable {ops : Array Oper} {rest : List Oper} {dst : Option Tmp} {x y : Operand} {ty : TypeId} {pos : String} {aft : Array Edge} {gd : Option (Nat × Bool)} {a : Act} {w : World} {b : Nat} {c : List Int} {Q : Act → Prop}
end
theorem later_of {P : Program} {f : FuncId} {args : Array Value} {R : Value} (w : World) (h : ∀ w', Calls P f args w' fun e w'' => e = .returned R ∧ Dn w' w'') :
   ∀ p q, Calls P f args (grow (redrawn w p) q) fun e w'' => e = .returned R ∧ ∃ p : Regrown, w'' = grow (redrawn w p.d) p.os := fun p q => Calls.regrown_of (h _)

theorem run_part_row {P : Program} {s : TypeId} {d : TypeDesc} {k : IntKind} (c : List Int) (o n : Nat) (hu : P.underlying s = some d) (hd : d.isRow = true) (hi : (P.info? s).map (·.size) = some n) (w : World) :
   (part s (ints k c) o).run P w = .ok (.agg (ints k ((c.drop o).take n))) w := by
 cases hq : P.info? s with
 | none => simp [hq] at hi
 | some i =>
   have hs : i.size = n := by simpa [hq] using hi
   have hagg : (isAgg s).run P w = .ok true w := by
     unfold isAgg
     rw [Sem.run_bind, run_underlying hu w]
     cases d <;> simp_all
   unfold part
   rw [Sem.run_bind, hagg]
   simp [sizeOf, typeInfo, hq, hs, part_ints]

theorem info12 : (Tryz.prog.info? 24).map (·.size) = some 12 := by kernel_rfl
theorem core_fields : Tryz.prog.underlying 26 = some (.struct (Tryz.prog.fieldsOf 26)) := by
 unfold Program.fieldsOf
 rw [Tryz.underlying26]
theorem cut_eq (c d : List Int) (hc : c.length = 29) (hd : d.length = 29) :
   (((c.drop 0).take 16 == (d.drop 0).take 16) && ((c.getD 16 0 == d.getD 16 0) && ((c.drop 17).take 12 == (d.drop 17).take 12))) = (c == d) := by
 have key : ∀ e : List Int, e.length = 29 → e = (e.drop 0).take 16 ++ (e.getD 16 0 :: (e.drop 17).take 12) := by
   intro e he
   have h1 : (e.drop 17).take 12 = e.drop 17 := List.take_of_length_le (by simp; omega)
   have h2 : e.getD 16 0 :: e.drop 17 = e.drop 16 := by
     rw [List.drop_eq_getElem_cons (i := 16) (by omega), List.getD_eq_getElem?_getD, List.getElem?_eq_getElem (by omega)]
     rfl
   rw [h1, h2]
   simp
 rw [Bool.eq_iff_iff]
 simp only [Bool.and_eq_true, beq_iff_eq]
 constructor
 · rintro ⟨h1, h2, h3⟩
   rw [key c hc, key d hd, h1, h2, h3]
 · rintro rfl
   exact ⟨rfl, rfl, rfl⟩

set_option maxRecDepth 100000 in
theorem eq29 {c d : List Int} (hc : c.length = 29) (hd : d.length = 29) (w : World) : (Op.equalIn 10000 26 (.agg (ints .u32 c)) (.agg (ints .u32 d))).run Tryz.prog w = .ok (c == d) w := by
 rw [run_equalIn_struct w 9999 26 (ints .u32 c) (ints .u32 d) core_fields (by kernel_rfl), ← cut_eq c d hc hd]
 have p1 := fun (e : List Int) (w : World) => run_part_row (k := .u32) e 0 16 Tryz.underlying23 rfl info16 w
 have p3 := fun (e : List Int) (w : World) => run_part_row (k := .u32) e 17 12 Tryz.underlying24 rfl info12 w
 have p2 := fun (e : List Int) (he : e.length = 29) (w : World) => run_part_int (P := Tryz.prog) (k := .u32) Tryz.underlying22 e 16 (by omega) w
 have q1 := equal_ints (k := .u32) 9997 Tryz.underlying23 Tryz.underlying22 (by kernel_rfl) ((c.drop 0).take 16) ((d.drop 0).take 16) (by simp; omega) (by simp; omega)
 have q3 := equal_ints (k := .u32) 9997 Tryz.underlying24 Tryz.underlying22 (by kernel_rfl) ((c.drop 17).take 12) ((d.drop 17).take 12) (by simp; omega) (by simp; omega)
 have q2 := fun (w : World) => run_equalIn_int (P := Tryz.prog) w 9998 22 .u32 .u32 (c.getD 16 0) (d.getD 16 0) Tryz.underlying22
 have hf : (Tryz.prog.fieldsOf 26).toList.map (fun f => (f.name == "_", f.type, f.offset)) = [(false, 23, 0), (false, 22, 16), (false, 24, 17)] := by kernel_rfl
 generalize (Tryz.prog.fieldsOf 26).toList = fs at hf ⊢
 have hn : fs.length = 3 := by simpa using congrArg List.length hf
 match fs, hn, hf with
 | [f1, f2, f3], _, hf =>
   simp only [List.map_cons, List.map_nil, List.cons.injEq, Prod.mk.injEq, and_true] at hf
   obtain ⟨⟨n1, t1, o1⟩, ⟨n2, t2, o2⟩, ⟨n3, t3, o3⟩⟩ := hf
   have n1 : f1.name ≠ "_" := by simpa using n1
   have n2 : f2.name ≠ "_" := by simpa using n2
   have n3 : f3.name ≠ "_" := by simpa using n3
   simp only [Op.eqFields, t1, t2, t3, o1, o2, o3, if_pos n1, if_pos n2, if_pos n3, Sem.run_bind, p1, Result.andThen_ok, q1, Sem.run_ite]
   cases h1 : ((c.drop 0).take 16 == (d.drop 0).take 16)
   · simp
   · simp only [Bool.not_true, Bool.false_eq_true, if_false, p2 c hc, p2 d hd, Result.andThen_ok, q2, Bool.true_and]
     cases h2 : (c.getD 16 0 == d.getD 16 0)
     · simp
     · simp only [Bool.not_true, Bool.false_eq_true, if_false, p3, Result.andThen_ok, q3, Bool.true_and]
       cases h3 : ((c.drop 17).take 12 == (d.drop 17).take 12)
       · simp
       · simp
theorem infoTrap : (Tryz.prog.info? 46).map (·.size) = some 2 := by kernel_rfl
section
variable {ops : Array Oper} {rest : List Oper} {dst : Option Tmp} {x y : Operand} {ty : TypeId} {pos : String} {aft : Array Edge} {gd : Option (Nat × Bool)} {a : Act} {w : World} {Q : Exit → Act → World → Prop} {b : Nat} {c : List Int}
theorem store_regs (e : List Int) (he : e.length = 16) (r : Row w b 26 .u32 c) (hl : c.length = 29) (hw : Region.wanted ⟨none, .store 23 x y, ty, pos, aft, gd⟩ (yielded ops a.tmps) = true) (hx : a.eval x = .pointer (some ⟨b, 0, none⟩)) (hy : a.eval y = .agg (ints .u32 e))
   (h : ∀ w', Row w' b 26 .u32 (e ++ c.drop 16) → Trn b w w' → wpList Tryz.prog ops Q rest a w') : wpList Tryz.prog ops Q (⟨none, .store 23 x y, ty, pos, aft, gd⟩ :: rest) a w := by
 refine wpList_store_ints e r (by rw [he]; exact info16) hw hx hy (by omega) fun w' r' t' => h w' ?_ t'
 rw [he] at r'
 simpa using r'
theorem loadTrap {k v : Int} (g : Blk w b 46 #[.int .i64 k, .int .u32 v]) (hw : Region.wanted ⟨dst, .load 46 x, ty, pos, aft, gd⟩ (yielded ops a.tmps) = true) (hx : a.eval x = .pointer (some ⟨b, 0, none⟩))
   (h : wpList Tryz.prog ops Q rest (a.put dst (.agg #[.int .i64 k, .int .u32 v])) w) : wpList Tryz.prog ops Q (⟨dst, .load 46 x, ty, pos, aft, gd⟩ :: rest) a w :=
 wpList_load_whole g Tryz.underlying46 rfl infoTrap hw hx h
end
section
variable {dst : Option Tmp} {x y : Operand} {ty : TypeId} {pos : String} {aft : Array Edge} {gd : Option (Nat × Bool)} {a : Act} {w : World} {b : Nat} {c : List Int} {K : Act → Prop}
end

structure Mc where
 c : List Int
 A : Option Addr
 k : Nat
 xs : List Int
 t : Int
 B : Option Addr
 q : Nat
 ys : List Int
 h : Bool
def mach (m : Mc) : Array Value := ints .u32 m.c ++ #[.slice m.A m.xs.length m.k, .int .u64 m.t, .slice m.B m.ys.length m.q, .bool m.h]
structure Mc.Ok (w : World) (m : Mc) : Prop where
 core : M.Core m.c
 mem : Bs w m.A m.k m.xs
 out : Bs w m.B m.q m.ys
 t0 : 0 ≤ m.t
 t1 : m.t < 18446744073709551616
theorem Mc.Ok.dn {w w' : World} {m : Mc} (h : m.Ok w) (d : Dn w w') : m.Ok w' := ⟨h.core, h.mem.dn d, h.out.dn d, h.t0, h.t1⟩
theorem Mc.Ok.len {w : World} {m : Mc} (h : m.Ok w) : m.c.length = 29 := h.core.len
def Mc.zero : Mc := ⟨zeros 29, none, 0, [], 0, none, 0, [], false⟩
theorem zlen : Mc.zero.c.length = 29 := rfl
theorem bs_nil (w : World) : Bs w none 0 [] := ⟨Nat.le_refl _, fun x hx => absurd hx (by simp), fun hx => absurd rfl hx⟩
theorem Mc.zero_ok (w : World) : Mc.zero.Ok w := ⟨M.core_zero, bs_nil w, bs_nil w, by decide, by decide⟩
theorem mach_size {m : Mc} (h : m.c.length = 29) : (mach m).size = 33 := by simp [mach, ints_size, h]
theorem mach_one (m : Mc) : (mach m).all (·.oneCell') = true := by
 have h := ints_one .u32 m.c
 rw [Array.all_eq_true_iff_forall_mem] at h ⊢
 intro x hx
 unfold mach at hx
 rcases Array.mem_append.1 hx with hx | hx
 · exact h x hx
 · simp at hx
   rcases hx with rfl | rfl | rfl | rfl <;> rfl
theorem mach_word {m : Mc} (h : m.c.length = 29) {i : Nat} (hi : i < 29) : (mach m)[i]? = some (.int .u32 (m.c.getD i 0)) := by
 unfold mach
 rw [Array.getElem?_append, ints_size, if_pos (by omega), ints_get _ _ _ (by omega)]
theorem mach_tail {m : Mc} (h : m.c.length = 29) {i : Nat} (hi : i < 4) : (mach m)[29 + i]? = (#[.slice m.A m.xs.length m.k, .int .u64 m.t, .slice m.B m.ys.length m.q, .bool m.h] : Array Value)[i]? := by
 unfold mach
 rw [Array.getElem?_append, ints_size, if_neg (by omega), h, Nat.add_sub_cancel_left]
theorem mach_core {m : Mc} (h : m.c.length = 29) : (mach m).extract 0 (0 + 29) = ints .u32 m.c := by
 unfold mach
 have e : (0 + 29) = (ints .u32 m.c).size := by rw [ints_size, h]
 rw [e]
 simp
theorem mach_csr {m : Mc} (h : m.c.length = 29) : (mach m).extract 17 (17 + 12) = ints .u32 (m.c.drop 17) := by
 apply Array.toList_inj.1
 simp [mach, ints, List.map_drop]
 rw [List.take_of_length_le (by simp; omega), h]
 simp
theorem mach_set {m : Mc} (h : m.c.length = 29) {i : Nat} (hi : i < 29) (u : Int) : (mach m).setIfInBounds i (.int .u32 u) = mach { m with c := m.c.set i u } := by
 unfold mach
 rw [Array.setIfInBounds_append_left (by rw [ints_size, h]; exact hi), ints_set]
theorem mach_put {m : Mc} (h : m.c.length = 29) (v : Value) (i : Nat) (hi : i < 4) : (mach m).setIfInBounds (29 + i) v = ints .u32 m.c ++ (#[.slice m.A m.xs.length m.k, .int .u64 m.t, .slice m.B m.ys.length m.q, .bool m.h] : Array Value).setIfInBounds i v := by
 unfold mach
 rw [Array.setIfInBounds_append_right (by rw [ints_size, h]; omega), ints_size, h, Nat.add_sub_cancel_left]

section
variable {w : World} {b : Nat} {m : Mc} {t : TypeId}
theorem Blk.word (g : Blk w b t (mach m)) (h : m.c.length = 29) (i : Nat) (hi : decide (i < 29) = true) : w.cell? ⟨b, i, none⟩ = some (.int .u32 (m.c.getD i 0)) := g.cell (mach_word h (of_decide_eq_true hi))
theorem Blk.mem (g : Blk w b t (mach m)) (h : m.c.length = 29) : w.cell? ⟨b, 29, none⟩ = some (.slice m.A m.xs.length m.k) := g.cell (mach_tail h (i := 0) (by decide))
theorem Blk.time (g : Blk w b t (mach m)) (h : m.c.length = 29) : w.cell? ⟨b, 30, none⟩ = some (.int .u64 m.t) := g.cell (mach_tail h (i := 1) (by decide))
theorem Blk.out (g : Blk w b t (mach m)) (h : m.c.length = 29) : w.cell? ⟨b, 31, none⟩ = some (.slice m.B m.ys.length m.q) := g.cell (mach_tail h (i := 2) (by decide))
theorem Blk.halted (g : Blk w b t (mach m)) (h : m.c.length = 29) : w.cell? ⟨b, 32, none⟩ = some (.bool m.h) := g.cell (mach_tail h (i := 3) (by decide))
end

theorem info33 : (Tryz.prog.info? 30).map (·.size) = some 33 := by kernel_rfl
theorem info_mach {m : Mc} (h : m.c.length = 29) : (Tryz.prog.info? 30).map (·.size) = some (mach m).size := by rw [mach_size h]; exact info33
theorem infoSl : (Tryz.prog.info? 27).map (·.size) = some 1 := by kernel_rfl
theorem infoU64 : (Tryz.prog.info? 28).map (·.size) = some 1 := by kernel_rfl
theorem infoBool : (Tryz.prog.info? 4).map (·.size) = some 1 := by kernel_rfl
theorem infoW : (Tryz.prog.info? 22).map (·.size) = some 1 := by kernel_rfl
theorem zero33 : (Tryz.prog.info? 30).map (fun i => (i.zero, i.size)) = some (some (.agg (mach Mc.zero)), 33) := by kernel_rfl

section
variable {P : Program} {ops : Array Oper} {rest : List Oper} {dst : Option Tmp} {x y : Operand} {ty : TypeId} {pos : String} {aft : Array Edge} {gd : Option (Nat × Bool)} {a : Act} {w : World} {Q : Exit → Act → World → Prop} {t s : TypeId} {b : Nat} {cs vs : Array Value} {d : TypeDesc} {K : Act → Prop}
theorem run_loadVar_cut (r : Blk w b t cs) (o n : Nat) (hv : cs.extract o (o + n) = vs) (hn : vs.size = n) (hu : P.underlying s = some d) (hd : d.isRow = true) (hi : (P.info? s).map (·.size) = some n) :
   (loadVar s ⟨b, o, none⟩).run P w = .ok (.agg vs) w := by
 have hr := World.rangeAt_of_block (C := cs) r o n
 rw [hv] at hr
 have h := run_loadVar_mid w b o s _ d hr hu hd (by rw [hi, Array.length_toList, hn])
 rwa [Array.toArray_toList] at h
theorem wpList_load_cut (r : Blk w b t cs) (o n : Nat) (hv : cs.extract o (o + n) = vs) (hn : vs.size = n) (hu : P.underlying s = some d) (hd : d.isRow = true) (hi : (P.info? s).map (·.size) = some n)
   (hw : Region.wanted ⟨dst, .load s x, ty, pos, aft, gd⟩ (yielded ops a.tmps) = true) (hx : a.eval x = .pointer (some ⟨b, o, none⟩))
   (h : wpList P ops Q rest (a.put dst (.agg vs)) w) : wpList P ops Q (⟨dst, .load s x, ty, pos, aft, gd⟩ :: rest) a w := by
 unfold wpList
 rw [if_pos hw]
 refine .inl ?_
 unfold Oper.wp execOp
 simp only [hx, Instr.loadAt, Instr.sureAddr, Sem.run_bind, Sem.run_pure, Result.andThen_ok, run_loadVar_cut r o n hv hn hu hd hi]
 exact h
theorem quiet_cut (r : Blk w b t cs) (o n : Nat) (hv : cs.extract o (o + n) = vs) (hn : vs.size = n) (hu : P.underlying s = some d) (hd : d.isRow = true) (hi : (P.info? s).map (·.size) = some n) (hx : a.eval x = .pointer (some ⟨b, o, none⟩)) (h : K (a.put dst (.agg vs))) :
   Oper.quiet P ⟨dst, .load s x, ty, pos, aft, gd⟩ a (Later w) K := by
 refine ⟨_, fun w' hw' => ?_, h⟩
 have r' := r.later w' hw'
 unfold Oper.quietAt execOp
 simp only [hx, Instr.loadAt, Instr.sureAddr, Sem.run_bind, Sem.run_pure, Result.andThen_ok, run_loadVar_cut r' o n hv hn hu hd hi]
 exact ⟨rfl, rfl⟩
theorem wpList_store_cell (o : Nat) (v : Value) (hv : v.cells = #[v]) (hb : Blk w b t cs) (hi : (P.info? s).map (·.size) = some 1) (ho : o < cs.size) (h1 : v.oneCell' = true)
   (hw : Region.wanted ⟨none, .store s x y, ty, pos, aft, gd⟩ (yielded ops a.tmps) = true) (hx : a.eval x = .pointer (some ⟨b, o, none⟩)) (hy : a.eval y = v)
   (h : ∀ w', Blk w' b t (cs.setIfInBounds o v) → Trn b w w' → wpList P ops Q rest a w') : wpList P ops Q (⟨none, .store s x y, ty, pos, aft, gd⟩ :: rest) a w := by
 refine wpList_store_at o v hb (by rw [hv]; exact hi) (by rw [hv]; simp; omega) (by rw [hv]; simp [h1]) hw hx hy fun w' hb' ht => h w' ?_ ht
 rwa [hv, lay_one _ _ _ ho] at hb'
end

section
variable {ops : Array Oper} {rest : List Oper} {dst : Option Tmp} {x y : Operand} {ty : TypeId} {pos : String} {aft : Array Edge} {gd : Option (Nat × Bool)} {a : Act} {w : World} {Q : Exit → Act → World → Prop} {b : Nat} {m : Mc}
theorem load33 (r : Blk w b 30 (mach m)) (hl : m.c.length = 29) (hw : Region.wanted ⟨dst, .load 30 x, ty, pos, aft, gd⟩ (yielded ops a.tmps) = true) (hx : a.eval x = .pointer (some ⟨b, 0, none⟩))
   (h : wpList Tryz.prog ops Q rest (a.put dst (.agg (mach m))) w) : wpList Tryz.prog ops Q (⟨dst, .load 30 x, ty, pos, aft, gd⟩ :: rest) a w :=
 wpList_load_whole r Tryz.underlying30 rfl (info_mach hl) hw hx h
theorem loadCore (r : Blk w b 30 (mach m)) (hl : m.c.length = 29) (hw : Region.wanted ⟨dst, .load 26 x, ty, pos, aft, gd⟩ (yielded ops a.tmps) = true) (hx : a.eval x = .pointer (some ⟨b, 0, none⟩))
   (h : wpList Tryz.prog ops Q rest (a.put dst (.agg (ints .u32 m.c))) w) : wpList Tryz.prog ops Q (⟨dst, .load 26 x, ty, pos, aft, gd⟩ :: rest) a w :=
 wpList_load_cut r 0 29 (mach_core hl) (by rw [ints_size, hl]) Tryz.underlying26 rfl info29 hw hx h
theorem alloc33 (hb : w.heap.size = b) (hw : Region.wanted ⟨dst, .alloc 30, ty, pos, aft, gd⟩ (yielded ops a.tmps) = true)
   (h : wpList Tryz.prog ops Q rest (a.put dst (.pointer (some ⟨b, 0, none⟩))) (w.alloc (.cells (mach Mc.zero) 30))) :
   wpList Tryz.prog ops Q (⟨dst, .alloc 30, ty, pos, aft, gd⟩ :: rest) a w := by
 subst hb
 have hz1 := (zero_of_info zero33).1
 unfold wpList
 rw [if_pos hw]
 refine .inl ?_
 unfold Oper.wp execOp
 simp only [Instr.alloc, Sem.run_bind, hz1, Result.andThen_ok]
 simp only [newVar, newRow, Value.cells, go_sem]
 exact h
theorem store33 (n : Mc) (hn : n.c.length = 29) (r : Blk w b 30 (mach m)) (hl : m.c.length = 29)
   (hw : Region.wanted ⟨none, .store 30 x y, ty, pos, aft, gd⟩ (yielded ops a.tmps) = true) (hx : a.eval x = .pointer (some ⟨b, 0, none⟩)) (hy : a.eval y = .agg (mach n))
   (h : ∀ w', Blk w' b 30 (mach n) → Trn b w w' → wpList Tryz.prog ops Q rest a w') : wpList Tryz.prog ops Q (⟨none, .store 30 x y, ty, pos, aft, gd⟩ :: rest) a w :=
 wpList_store_whole (mach n) r (info_mach hn) (by rw [mach_size hl, mach_size hn]) (mach_one n) hw hx hy h
theorem storeWord {i : Nat} {u : Int} (r : Blk w b 30 (mach m)) (hl : m.c.length = 29)
   (hw : Region.wanted ⟨none, .store 22 x y, ty, pos, aft, gd⟩ (yielded ops a.tmps) = true) (hx : a.eval x = .pointer (some ⟨b, i, none⟩)) (hy : a.eval y = .int .u32 u) (hi : decide (i < 29) = true)
   (h : ∀ w', Blk w' b 30 (mach { m with c := m.c.set i u }) → Trn b w w' → wpList Tryz.prog ops Q rest a w') : wpList Tryz.prog ops Q (⟨none, .store 22 x y, ty, pos, aft, gd⟩ :: rest) a w := by
 have hi := of_decide_eq_true hi
 refine wpList_store_cell i (.int .u32 u) rfl r infoW (by rw [mach_size hl]; omega) rfl hw hx hy fun w' r' t' => h w' ?_ t'
 rwa [mach_set hl hi] at r'
theorem storeMem {A' : Option Addr} {k' n' : Nat} {zs : List Int} (r : Blk w b 30 (mach m)) (hl : m.c.length = 29) (hz : n' = zs.length)
   (hw : Region.wanted ⟨none, .store 27 x y, ty, pos, aft, gd⟩ (yielded ops a.tmps) = true) (hx : a.eval x = .pointer (some ⟨b, 29, none⟩)) (hy : a.eval y = .slice A' n' k')
   (h : ∀ w', Blk w' b 30 (mach { m with A := A', k := k', xs := zs }) → Trn b w w' → wpList Tryz.prog ops Q rest a w') : wpList Tryz.prog ops Q (⟨none, .store 27 x y, ty, pos, aft, gd⟩ :: rest) a w := by
 subst hz
 refine wpList_store_cell 29 (.slice A' zs.length k') rfl r infoSl (by rw [mach_size hl]; omega) rfl hw hx hy fun w' r' t' => h w' ?_ t'
 rwa [mach_put hl _ 0 (by decide)] at r'
theorem storeTime {u : Int} (r : Blk w b 30 (mach m)) (hl : m.c.length = 29)
   (hw : Region.wanted ⟨none, .store 28 x y, ty, pos, aft, gd⟩ (yielded ops a.tmps) = true) (hx : a.eval x = .pointer (some ⟨b, 30, none⟩)) (hy : a.eval y = .int .u64 u)
   (h : ∀ w', Blk w' b 30 (mach { m with t := u }) → Trn b w w' → wpList Tryz.prog ops Q rest a w') : wpList Tryz.prog ops Q (⟨none, .store 28 x y, ty, pos, aft, gd⟩ :: rest) a w := by
 refine wpList_store_cell 30 (.int .u64 u) rfl r infoU64 (by rw [mach_size hl]; omega) rfl hw hx hy fun w' r' t' => h w' ?_ t'
 rwa [mach_put hl _ 1 (by decide)] at r'
theorem storeHalted {u : Bool} (r : Blk w b 30 (mach m)) (hl : m.c.length = 29)
   (hw : Region.wanted ⟨none, .store 4 x y, ty, pos, aft, gd⟩ (yielded ops a.tmps) = true) (hx : a.eval x = .pointer (some ⟨b, 32, none⟩)) (hy : a.eval y = .bool u)
   (h : ∀ w', Blk w' b 30 (mach { m with h := u }) → Trn b w w' → wpList Tryz.prog ops Q rest a w') : wpList Tryz.prog ops Q (⟨none, .store 4 x y, ty, pos, aft, gd⟩ :: rest) a w := by
 refine wpList_store_cell 32 (.bool u) rfl r infoBool (by rw [mach_size hl]; omega) rfl hw hx hy fun w' r' t' => h w' ?_ t'
 rwa [mach_put hl _ 3 (by decide)] at r'
theorem storeOut {B' : Option Addr} {q' n' : Nat} {zs : List Int} (r : Blk w b 30 (mach m)) (hl : m.c.length = 29) (hz : n' = zs.length)
   (hw : Region.wanted ⟨none, .store 27 x y, ty, pos, aft, gd⟩ (yielded ops a.tmps) = true) (hx : a.eval x = .pointer (some ⟨b, 31, none⟩)) (hy : a.eval y = .slice B' n' q')
   (h : ∀ w', Blk w' b 30 (mach { m with B := B', q := q', ys := zs }) → Trn b w w' → wpList Tryz.prog ops Q rest a w') : wpList Tryz.prog ops Q (⟨none, .store 27 x y, ty, pos, aft, gd⟩ :: rest) a w := by
 subst hz
 refine wpList_store_cell 31 (.slice B' zs.length q') rfl r infoSl (by rw [mach_size hl]; omega) rfl hw hx hy fun w' r' t' => h w' ?_ t'
 rwa [mach_put hl _ 2 (by decide)] at r'
end

section
variable {dst : Option Tmp} {x y : Operand} {ty : TypeId} {pos : String} {aft : Array Edge} {gd : Option (Nat × Bool)} {a : Act} {w : World} {b : Nat} {m : Mc} {K : Act → Prop}
theorem qopCore (r : Blk w b 30 (mach m)) (hl : m.c.length = 29) (hx : a.eval x = .pointer (some ⟨b, 0, none⟩)) (h : K (a.put dst (.agg (ints .u32 m.c)))) : Oper.quiet Tryz.prog ⟨dst, .load 26 x, ty, pos, aft, gd⟩ a (Later w) K :=
 quiet_cut r 0 29 (mach_core hl) (by rw [ints_size, hl]) Tryz.underlying26 rfl info29 hx h
theorem qopCsr (r : Blk w b 30 (mach m)) (hl : m.c.length = 29) (hx : a.eval x = .pointer (some ⟨b, 17, none⟩)) (h : K (a.put dst (.agg (ints .u32 (m.c.drop 17))))) : Oper.quiet Tryz.prog ⟨dst, .load 24 x, ty, pos, aft, gd⟩ a (Later w) K :=
 quiet_cut r 17 12 (mach_csr hl) (by rw [ints_size, List.length_drop, hl]) Tryz.underlying24 rfl info12 hx h
end
section
variable {P : Program} {ops : Array Oper} {rest : List Oper} {dst : Option Tmp} {x : Operand} {ty : TypeId} {pos : String} {aft : Array Edge} {gd : Option (Nat × Bool)} {a : Act} {w : World} {Q : Act → Prop} {b : Nat} {t s : TypeId} {cs vs : Array Value} {d : TypeDesc} {m : Mc} {k v : Int}
theorem still_cut (r : Blk w b t cs) (o n : Nat) (hv : cs.extract o (o + n) = vs) (hn : vs.size = n) (hu : P.underlying s = some d) (hd : d.isRow = true) (hi : (P.info? s).map (·.size) = some n) (hw : Region.wanted ⟨dst, .load s x, ty, pos, aft, gd⟩ (yielded ops a.tmps) = true) (hx : a.eval x = .pointer (some ⟨b, o, none⟩))
   (h : wpStill P ops w Q rest (a.put dst (.agg vs))) : wpStill P ops w Q (⟨dst, .load s x, ty, pos, aft, gd⟩ :: rest) a := by
 unfold wpStill
 rw [if_pos hw]
 unfold Oper.still execOp
 simp only [hx, Instr.loadAt, Instr.sureAddr, Sem.run_bind, Sem.run_pure, Result.andThen_ok, run_loadVar_cut r o n hv hn hu hd hi]
 exact ⟨rfl, h⟩
theorem stillTrap (g : Blk w b 46 #[.int .i64 k, .int .u32 v]) (hw : Region.wanted ⟨dst, .load 46 x, ty, pos, aft, gd⟩ (yielded ops a.tmps) = true) (hx : a.eval x = .pointer (some ⟨b, 0, none⟩))
   (h : wpStill Tryz.prog ops w Q rest (a.put dst (.agg #[.int .i64 k, .int .u32 v]))) : wpStill Tryz.prog ops w Q (⟨dst, .load 46 x, ty, pos, aft, gd⟩ :: rest) a :=
 still_cut g 0 2 (by simp) rfl Tryz.underlying46 rfl infoTrap hw hx h
end
def NoU8 (cs : Array Value) : Prop := ∀ (i : Nat) (x : Int), cs[i]? ≠ some (.int .u8 x)
theorem NoU8.mach (m : Mc) : NoU8 (mach m) := by
 intro i x h
 have h1 := Array.mem_of_getElem? h
 unfold Go.Proofs.YtclpdjpaaagkdaaGreatDoor.mach at h1
 rcases Array.mem_append.1 h1 with h1 | h1
 · simp [ints] at h1
 · simp at h1
theorem NoU8.trap (k v : Int) : NoU8 #[.int .i64 k, .int .u32 v] := by
 intro i x h
 have h1 := Array.mem_of_getElem? h
 simp at h1
theorem Bs.trn {w w' : World} {A : Option Addr} {c b : Nat} {xs : List Int} {t : TypeId} {cs : Array Value} (h : Bs w A c xs) (g : Blk w b t cs) (n : NoU8 cs) (e : Trn b w w') : Bs w' A c xs := by
 refine ⟨h.1, h.2.1, fun hx => ?_⟩
 obtain ⟨ad, ea, hb, hc⟩ := h.2.2 hx
 have hne : ad.block ≠ b := by
   intro hab
   obtain ⟨x, r, rfl⟩ := List.exists_cons_of_ne_nil hx
   have h0 := hc 0 x rfl
   have hbk : (ad.add 0).block = b := by rw [block_add]; exact hab
   unfold World.cell? at h0
   rw [hbk, g] at h0
   simp only at h0
   split at h0
   · cases h0
   · exact n _ _ h0
 refine ⟨ad, ea, by rw [e.size]; exact hb, fun j x hj => ?_⟩
 have h1 := hc j x hj
 unfold World.cell? at h1 ⊢
 rw [e.block _ (by rw [block_add]; exact hne)]
 exact h1
theorem Mc.Ok.trn {w w' : World} {m : Mc} {b : Nat} {t : TypeId} {cs : Array Value} (h : m.Ok w) (g : Blk w b t cs) (n : NoU8 cs) (e : Trn b w w') : m.Ok w' := ⟨h.core, h.mem.trn g n e, h.out.trn g n e, h.t0, h.t1⟩
theorem new_blk (w : World) (t : TypeId) (cs : Array Value) : ∃ w' b, w' = w.alloc (.cells cs t) ∧ b = w.heap.size ∧ Blk w' b t cs ∧ Dn w w' ∧ ∀ g, g < w.heap.size → g ≠ b :=
 ⟨_, _, rfl, rfl, Blk.new w t _, (Dn.refl w).alloc _, fun g hg => Nat.ne_of_lt hg⟩

section
variable {P : Program} {Q : Exit → Act → World → Prop}
theorem wp_store_blk {o : Oper} {s t : TypeId} {x y : Operand} {a : Act} {w : World} {b : Nat} {cs vs : Array Value} {K : Act → World → Prop} (ho : o.op = .store s x y) (hd : o.dst = none) (hb : Blk w b t cs) (hi : (P.info? s).map (·.size) = some vs.size) (hz : cs.size = vs.size) (h1 : vs.all (·.oneCell') = true)
   (hx : a.eval x = .pointer (some ⟨b, 0, none⟩)) (hy : a.eval y = .agg vs) (h : ∀ w', Blk w' b t vs → Trn b w w' → K a w') : o.wp P a w K Q := by
 unfold Oper.wp execOp
 simp only [ho, hx, hy, Instr.storeAt, Instr.sureAddr, Sem.run_bind, Sem.run_pure, Result.andThen_ok, run_storeVar_at 0 (.agg vs) hb hi (by simp only [Value.cells]; omega) h1]
 have e : lay cs 0 (Value.agg vs).cells = vs := lay_all cs vs hz
 rw [e]
 simp only [Oper.upon, hd]
 exact h _ (setRow_heap w b _ _ t _ hb) (Trn.setRow w b _)

theorem wp_load_blk {o : Oper} {s t : TypeId} {x : Operand} {a : Act} {w : World} {b : Nat} {cs : Array Value} {d : TypeDesc} {K : Act → World → Prop} (ho : o.op = .load s x) (hb : Blk w b t cs) (hu : P.underlying s = some d) (hd : d.isRow = true) (hi : (P.info? s).map (·.size) = some cs.size)
   (hx : a.eval x = .pointer (some ⟨b, 0, none⟩)) (h : K (a.put o.dst (.agg cs)) w) : o.wp P a w K Q :=
 wp_load_row s x ho b hx t cs (0, 0) d hb hu (by cases d <;> simp_all) hi h
def ret2B (ops : Array Oper) : Bool :=
 Region.ready .any ops #[false, false, false, false] == [0, 1] && Region.ready .any ops #[true, false, false, false] == [1, 2] && Region.ready .any ops #[false, true, false, false] == [0] &&
 Region.ready .any ops #[true, true, false, false] == [2] && Region.ready .any ops #[true, false, true, false] == [1] && Region.ready .any ops #[true, true, true, false] == [3] && Region.ready .any ops #[true, true, true, true] == []

theorem wp_region_ret2 {id : Nat} {a : Act} {w : World} {x0 x1 y0 y1 : Operand} {d0 d1 : Tmp} {ta tb : TypeId} {ty0 ty1 ty2 ty3 : TypeId} {p0 p1 p2 p3 : String} {e0 e1 e2 e3 : Array Edge} {bx0 bx1 by0 by1 : Nat} {cs0 cs1 old0 old1 : Array Value} {D0 D1 : TypeDesc}
   (hm : P.follows .mixedOrders = true)
   (hB : ret2B #[⟨some d0, .load ta x0, ty0, p0, e0, none⟩, ⟨some d1, .load tb x1, ty1, p1, e1, none⟩, ⟨none, .store ta y0 (.tmp d0), ty2, p2, e2, none⟩, ⟨none, .store tb y1 (.tmp d1), ty3, p3, e3, none⟩] = true)
   (g0 : Blk w bx0 ta cs0) (g1 : Blk w bx1 tb cs1) (k0 : Blk w by0 ta old0) (k1 : Blk w by1 tb old1) (n1 : bx1 ≠ by0) (n2 : by1 ≠ by0)
   (hu0 : P.underlying ta = some D0) (hr0 : D0.isRow = true) (hi0 : (P.info? ta).map (·.size) = some cs0.size) (hz0 : old0.size = cs0.size) (ho0 : cs0.all (·.oneCell') = true)
   (hu1 : P.underlying tb = some D1) (hr1 : D1.isRow = true) (hi1 : (P.info? tb).map (·.size) = some cs1.size) (hz1 : old1.size = cs1.size) (ho1 : cs1.all (·.oneCell') = true)
   (q1 : a.eval x0 = .pointer (some ⟨bx0, 0, none⟩)) (q2 : a.eval x1 = .pointer (some ⟨bx1, 0, none⟩)) (q3 : (a.put (some d0) (.agg cs0)).eval x1 = .pointer (some ⟨bx1, 0, none⟩)) (q4 : (a.put (some d1) (.agg cs1)).eval x0 = .pointer (some ⟨bx0, 0, none⟩))
   (q5 : (a.put (some d0) (.agg cs0)).eval y0 = .pointer (some ⟨by0, 0, none⟩)) (q6 : (a.put (some d0) (.agg cs0)).eval (.tmp d0) = .agg cs0)
   (q7 : ((a.put (some d0) (.agg cs0)).put (some d1) (.agg cs1)).eval y0 = .pointer (some ⟨by0, 0, none⟩)) (q8 : ((a.put (some d0) (.agg cs0)).put (some d1) (.agg cs1)).eval (.tmp d0) = .agg cs0)
   (q9 : ((a.put (some d0) (.agg cs0)).put (some d1) (.agg cs1)).eval y1 = .pointer (some ⟨by1, 0, none⟩)) (q10 : ((a.put (some d0) (.agg cs0)).put (some d1) (.agg cs1)).eval (.tmp d1) = .agg cs1)
   (hc : (a.put (some d1) (.agg cs1)).put (some d0) (.agg cs0) = (a.put (some d0) (.agg cs0)).put (some d1) (.agg cs1))
   (h : ∀ w1 w2, Blk w1 by0 ta cs0 → Trn by0 { w with drawn := w.drawn + 1 } w1 → Blk w2 by1 tb cs1 → Trn by1 w1 w2 → Q .normal ((a.put (some d0) (.agg cs0)).put (some d1) (.agg cs1)) w2) :
   (Code.region id #[⟨some d0, .load ta x0, ty0, p0, e0, none⟩, ⟨some d1, .load tb x1, ty1, p1, e1, none⟩, ⟨none, .store ta y0 (.tmp d0), ty2, p2, e2, none⟩, ⟨none, .store tb y1 (.tmp d1), ty3, p3, e3, none⟩] true).wp P Q a w := by
 simp only [ret2B, Bool.and_eq_true, beq_iff_eq] at hB
 obtain ⟨⟨⟨⟨⟨⟨r0, r1⟩, r2⟩, r3⟩, r4⟩, r5⟩, r6⟩ := hB
 have hdr : Dn w { w with drawn := w.drawn + 1 } := (Dn.refl w).drew
 have g0 := g0.dn hdr
 have g1 := g1.dn hdr
 have k0 := k0.dn hdr
 have k1 := k1.dn hdr
 clear hdr
 refine wp_region_any hm ?_
 generalize ({ w with drawn := w.drawn + 1 } : World) = v at *
 -- behind both loads
 have both : ∀ fuel, wpAny P .any #[⟨some d0, .load ta x0, ty0, p0, e0, none⟩, ⟨some d1, .load tb x1, ty1, p1, e1, none⟩, ⟨none, .store ta y0 (.tmp d0), ty2, p2, e2, none⟩, ⟨none, .store tb y1 (.tmp d1), ty3, p3, e3, none⟩] Q (fuel + 2) #[true, true, false, false] ((a.put (some d0) (.agg cs0)).put (some d1) (.agg cs1)) v := by
   intro fuel
   refine wpAny_ready r3 (by simp) ?_
   refine AllReady.cons rfl (fun K hK => ?_) AllReady.nil
   refine Eq.mpr (if_pos rfl) ?_
   refine wp_store_blk rfl rfl k0 hi0 hz0 ho0 q7 q8 fun w1 b1 t1 => hK _ _ ?_
   refine wpAny_ready r5 (by simp) ?_
   refine AllReady.cons rfl (fun K hK => ?_) AllReady.nil
   refine Eq.mpr (if_pos rfl) ?_
   refine wp_store_blk rfl rfl (k1.trn t1 n2) hi1 hz1 ho1 q9 q10 fun w2 b2 t2 => hK _ _ ?_
   exact wpAny_done r6 (h w1 w2 b1 t1 b2 t2) _
 refine wpAny_ready r0 (by simp) ?_
 refine AllReady.cons rfl (fun K hK => ?_) (AllReady.cons rfl (fun K hK => ?_) AllReady.nil)
 · refine Eq.mpr (if_pos rfl) ?_
   refine wp_load_blk rfl g0 hu0 hr0 hi0 q1 (hK _ _ ?_)
   refine wpAny_ready r1 (by simp) ?_
   refine AllReady.cons rfl (fun K hK => ?_) (AllReady.cons rfl (fun K hK => ?_) AllReady.nil)
   · refine Eq.mpr (if_pos rfl) ?_
     refine wp_load_blk rfl g1 hu1 hr1 hi1 q3 (hK _ _ ?_)
     exact both 0
   · refine Eq.mpr (if_pos rfl) ?_
     refine wp_store_blk rfl rfl k0 hi0 hz0 ho0 q5 q6 fun w1 b1 t1 => hK _ _ ?_
     refine wpAny_ready r4 (by simp) ?_
     refine AllReady.cons rfl (fun K hK => ?_) AllReady.nil
     refine Eq.mpr (if_pos rfl) ?_
     refine wp_load_blk rfl (g1.trn t1 n1) hu1 hr1 hi1 q3 (hK _ _ ?_)
     refine wpAny_ready r5 (by simp) ?_
     refine AllReady.cons rfl (fun K hK => ?_) AllReady.nil
     refine Eq.mpr (if_pos rfl) ?_
     refine wp_store_blk rfl rfl (k1.trn t1 n2) hi1 hz1 ho1 q9 q10 fun w2 b2 t2 => hK _ _ ?_
     exact wpAny_done r6 (h w1 w2 b1 t1 b2 t2) _
 · refine Eq.mpr (if_pos rfl) ?_
   refine wp_load_blk rfl g1 hu1 hr1 hi1 q2 (hK _ _ ?_)
   refine wpAny_ready r2 (by simp) ?_
   refine AllReady.cons rfl (fun K hK => ?_) AllReady.nil
   refine Eq.mpr (if_pos rfl) ?_
   refine wp_load_blk rfl g0 hu0 hr0 hi0 q4 (hK _ _ ?_)
   have e := both 0
   rw [← hc] at e
   exact e
end

structure Dx (bs : List Nat) (w w' : World) : Prop where
 os : w'.os = w.os
 tape : w'.tape = w.tape
 output : w'.output = w.output
 size : w.heap.size ≤ w'.heap.size
 block : ∀ i, i < w.heap.size → i ∉ bs → w'.heap[i]? = w.heap[i]?
section
variable {bs : List Nat} {a b c w w' W : World} {g : Nat} {t : TypeId} {cs : Array Value}
theorem Dx.refl (bs : List Nat) (w : World) : Dx bs w w := ⟨rfl, rfl, rfl, Nat.le_refl _, fun _ _ _ => rfl⟩
theorem Dx.trans (h : Dx bs a b) (k : Dx bs b c) : Dx bs a c :=
 ⟨k.os.trans h.os, k.tape.trans h.tape, k.output.trans h.output, Nat.le_trans h.size k.size, fun i hi hn => (k.block i (Nat.lt_of_lt_of_le hi h.size) hn).trans (h.block i hi hn)⟩
theorem Dn.dx (h : Dn a b) : Dx bs a b := ⟨h.os, h.tape, h.output, h.size, fun i hi _ => h.block i hi⟩
theorem Trn.dx (h : Trn g a b) (hb : g ∈ bs) : Dx bs a b := ⟨h.os, h.tape, h.output, Nat.le_of_eq h.size.symm, fun i hi hn => h.block i (fun e => hn (e ▸ hb))⟩
theorem Blk.dx (h : Blk w g t cs) (d : Dx bs w w') (hn : g ∉ bs) : Blk w' g t cs := (d.block g h.lt hn).trans h
theorem Dn.of_dx (h : Dn W w) (d : Dx bs w w') (hb : ∀ b ∈ bs, W.heap.size ≤ b) : Dn W w' :=
 ⟨d.os.trans h.os, d.tape.trans h.tape, d.output.trans h.output, Nat.le_trans h.size d.size, fun i hi => (d.block i (Nat.lt_of_lt_of_le hi h.size) (fun hm => absurd (hb i hm) (by omega))).trans (h.block i hi)⟩
theorem Bs.dx {A : Option Addr} {k : Nat} {xs : List Int} (h : Bs w A k xs) (d : Dx bs w w') (hb : ∀ b ∈ bs, ∃ t cs, Blk w b t cs ∧ NoU8 cs) : Bs w' A k xs := by
 refine ⟨h.1, h.2.1, fun hx => ?_⟩
 obtain ⟨ad, ea, hlt, hc⟩ := h.2.2 hx
 have hne : ad.block ∉ bs := by
   intro hm
   obtain ⟨t, cs, g, n⟩ := hb _ hm
   obtain ⟨x, r, rfl⟩ := List.exists_cons_of_ne_nil hx
   have h0 := hc 0 x rfl
   unfold World.cell? at h0
   rw [block_add, g] at h0
   simp only at h0
   split at h0
   · cases h0
   · exact n _ _ h0
 refine ⟨ad, ea, Nat.lt_of_lt_of_le hlt d.size, fun j x hj => ?_⟩
 have h1 := hc j x hj
 unfold World.cell? at h1 ⊢
 rw [d.block _ (by rw [block_add]; exact hlt) (by rw [block_add]; exact hne)]
 exact h1
theorem Mc.Ok.dx {m : Mc} (h : m.Ok w) (d : Dx bs w w') (hb : ∀ b ∈ bs, ∃ t cs, Blk w b t cs ∧ NoU8 cs) : m.Ok w' := ⟨h.core, h.mem.dx d hb, h.out.dx d hb, h.t0, h.t1⟩
end

section
variable {P : Program} {ops : Array Oper} {Q : Exit → Act → World → Prop} {md : Region.Mode} {w0 : World} {bs : List Nat}

def Calx (P : Program) (ops : Array Oper) (bs : List Nat) (w0 : World) (o : Oper) (v : Value) (a : Act) : Prop :=
 (Region.wanted o (yielded ops a.tmps) = true ∧ ∀ x, Dx bs w0 x → CalmUpon P x v ((execOp a.eval o).run P x)) ∨ (Region.wanted o (yielded ops a.tmps) = false ∧ v = undef)
theorem Calx.like {o : Oper} {v : Value} {a a' : Act} (h : Calx P ops bs w0 o v a) (k : Like ops o a a') : Calx P ops bs w0 o v a' := by
 unfold Calx at h ⊢
 rw [k.1, k.2]
 exact h
theorem Calx.wpOp {i : Nat} {o : Oper} {v : Value} {a : Act} (hi : ops[i]? = some o) (h : Calx P ops bs w0 o v a) {K : Act → World → Prop} {x : World} (hx : Dx bs w0 x) (hk : ∀ y, Dn x y → K (a.put o.dst v) y) : wpOp P ops Q i K a x := by
 unfold Go.wpOp
 simp only [hi]
 rcases h with ⟨hw, hv⟩ | ⟨hw, rfl⟩
 · rw [if_pos hw]
   refine .inl ?_
   have h1 := hv x hx
   unfold Oper.wp
   revert h1
   generalize (execOp a.eval o).run P x = r
   intro h1
   match r, h1 with
   | .ok (.value u) y, h1 => obtain ⟨rfl, rfl⟩ := h1; exact hk _ (Dn.refl _)
   | .ok .skip y, h1 => obtain ⟨rfl, rfl⟩ := h1; exact hk _ (Dn.refl _)
   | .ok (.enter f args) y, h1 =>
     obtain ⟨rfl, hc⟩ := h1
     refine hc.mono fun e z he => ?_
     obtain ⟨rfl, hd⟩ := he
     exact hk _ hd
 · rw [hw]
   exact hk _ (Dn.refl _)

def wpX (P : Program) (md : Region.Mode) (ops : Array Oper) (Q : Exit → Act → World → Prop) (bs : List Nat) (w0 : World) : Nat → Array Bool → Act → World → Prop
 | 0, listed, a, w => Region.ready md ops listed = [] ∧ ∀ x, Dn w x → Q .normal a x
 | fuel + 1, listed, a, w => (Region.ready md ops listed = [] → ∀ x, Dn w x → Q .normal a x) ∧ ∀ i ∈ Region.ready md ops listed, ∀ x, Dn w x → Go.wpOp P ops Q i (fun a' y => Dx bs w0 y ∧ wpX P md ops Q bs w0 fuel (listed.setIfInBounds i true) a' y) a x
theorem wpX.up {fuel : Nat} {listed : Array Bool} {a : Act} {w x : World} (h : wpX P md ops Q bs w0 fuel listed a w) (d : Dn w x) : wpX P md ops Q bs w0 fuel listed a x := by
 cases fuel with
 | zero => exact ⟨h.1, fun y dy => h.2 y (d.trans dy)⟩
 | succ f => exact ⟨fun h0 y dy => h.1 h0 y (d.trans dy), fun i hi y dy => h.2 i hi y (d.trans dy)⟩
theorem wpX.any : ∀ {fuel : Nat} {listed : Array Bool} {a : Act} {w : World}, wpX P md ops Q bs w0 fuel listed a w → wpAny P md ops Q fuel listed a w
 | 0, _, _, w, h => ⟨h.1, h.2 w (Dn.refl w)⟩
 | f + 1, _, _, w, h => ⟨fun h0 => h.1 h0 w (Dn.refl w), fun i hi => wpOp_mono (fun a' y hy => wpX.any hy.2) (h.2 i hi w (Dn.refl w))⟩
theorem wpX_first {i : Nat} {oi : Oper} {v : Value} (hi : ops[i]? = some oi) (hsel : ∀ (j : Nat) (o : Oper) cs b, ops[j]? = some o → o.op ≠ .select cs b) (hQ : ∀ c a w, Q (.panic c) (a.put oi.dst v) w → Q (.panic c) a w) :
   ∀ (fuel : Nat) (listed : Array Bool) (a : Act) (w : World),
     (∀ j oj, ops[j]? = some oj → j ≠ i → listed.getD j true = false → (∀ e ∈ oj.after, Region.binds md e = true → e.on ≠ i) → oi.apart ops oj = true) →
     i ∈ Region.ready md ops listed → Calx P ops bs w0 oi v a → Dx bs w0 w →
     wpX P md ops Q bs w0 fuel (listed.setIfInBounds i true) (a.put oi.dst v) w → wpX P md ops Q bs w0 (fuel + 1) listed a w := by
 intro fuel
 induction fuel with
 | zero =>
   intro listed a w _ hr hc hw H
   refine ⟨fun h => absurd hr (by rw [h]; simp), fun j hj x dx => ?_⟩
   by_cases hji : j = i
   · subst hji
     exact hc.wpOp hi (hw.trans dx.dx) fun y dy => ⟨(hw.trans dx.dx).trans dy.dx, H.up (dx.trans dy)⟩
   · have := ready_mono hj hji
     rw [H.1] at this
     cases this
 | succ fuel ih =>
   intro listed a w hf hr hc hw H
   refine ⟨fun h => absurd hr (by rw [h]; simp), fun j hj x dx => ?_⟩
   by_cases hji : j = i
   · subst hji
     exact hc.wpOp hi (hw.trans dx.dx) fun y dy => ⟨(hw.trans dx.dx).trans dy.dx, H.up (dx.trans dy)⟩
   · obtain ⟨hjun, oj, hoj, hall⟩ := mem_ready.1 hj
     have hno := no_wait (mem_ready.1 hr).1 hall
     refine wpOp_mono (fun a' y hy => ⟨hy.2.1, ih (listed.setIfInBounds j true) a' y (fun k ok hk hki hun hn => hf k ok hk hki ?_ hn) (ready_mono hr (Ne.symm hji)) (hc.like hy.1) hy.2.1 ?_⟩)
       (swap hoj (hf j oj hoj hji hjun hno) (fun cs b => hsel i oi cs b hi) (fun cs b => hsel j oj cs b hoj) hQ (H.2 j (ready_mono hj hji) x dx))
     · by_cases hjk : j = k
       · subst hjk; exact hjun
       · rw [getD_set_ne true hjk] at hun; exact hun
     · rw [Array.setIfInBounds_comm _ _ hji]
       exact hy.2.2
theorem wpX_take (i : Nat) {oi : Oper} {v : Value} {fuel : Nat} {listed : Array Bool} {a : Act} {w : World} (hi : ops[i]? = some oi) (hs : Region.noSelect ops = true) (hf : Region.free md ops listed i = true) (hr : (Region.ready md ops listed).contains i = true)
   (hQ : ∀ c a w, Q (.panic c) (a.put oi.dst v) w → Q (.panic c) a w) (hc : Calx P ops bs w0 oi v a) (hw : Dx bs w0 w) (h : wpX P md ops Q bs w0 fuel (listed.setIfInBounds i true) (a.put oi.dst v) w) : wpX P md ops Q bs w0 (fuel + 1) listed a w :=
 wpX_first hi (Region.noSelect_spec hs) hQ fuel listed a w (Region.free_spec hi hf) (by simpa using hr) hc hw h
theorem wp_region_x {id : Nat} {a : Act} {w : World} (bs : List Nat) (hm : P.follows .mixedOrders = true) (h : wpX P .any ops (NoPanic Q) bs w ops.size (Array.replicate ops.size false) a w.drew) : (Code.region id ops true).wp P Q a w :=
 wp_region_noPanic (wp_region_any hm h.any)
def wpCalx (P : Program) (ops : Array Oper) (bs : List Nat) (w0 : World) (A : Act) : List Oper → Act → Prop
 | [], a => a = A
 | o :: os, a => ∃ v, Calx P ops bs w0 o v a ∧ wpCalx P ops bs w0 A os (a.put o.dst v)
def pickL (l : List Oper) : List Nat → List Oper
 | [] => []
 | i :: is => (l.drop i).take 1 ++ pickL l is
def picksB (md : Region.Mode) (ops : Array Oper) : List Nat → Array Bool → Bool
 | [], _ => true
 | i :: is, listed => decide (i < ops.size) && (Region.ready md ops listed).contains i && Region.free md ops listed i && picksB md ops is (listed.setIfInBounds i true)
def picked : List Nat → Array Bool → Array Bool
 | [], listed => listed
 | i :: is, listed => picked is (listed.setIfInBounds i true)
theorem wpX_picks {l : List Oper} (hs : Region.noSelect l.toArray = true) (hQ : ∀ c a d v w, Q (.panic c) (a.put d v) w → Q (.panic c) a w) {A : Act} {w : World} (hw : Dx bs w0 w) {fuel : Nat} :
   ∀ (is : List Nat) (listed : Array Bool) (a : Act), picksB md l.toArray is listed = true → wpCalx P l.toArray bs w0 A (pickL l is) a →
     wpX P md l.toArray Q bs w0 fuel (picked is listed) A w → wpX P md l.toArray Q bs w0 (fuel + is.length) listed a w
 | [], _, a, _, h, hF => by
   have h : a = A := h
   subst h; exact hF
 | i :: is, listed, a, hB, h, hF => by
   simp only [picksB, Bool.and_eq_true, decide_eq_true_eq] at hB
   obtain ⟨⟨⟨hl, hr⟩, hf⟩, hB⟩ := hB
   have hl' : i < l.length := by simpa using hl
   have e : pickL l (i :: is) = l[i] :: pickL l is := by
     simp only [pickL]
     rw [List.drop_eq_getElem_cons hl']
     rfl
   rw [e] at h
   obtain ⟨v, hc, hk⟩ := h
   have h0 : l.toArray[i]? = some l[i] := by simp [hl']
   exact wpX_take i h0 hs hf hr (fun c a w => hQ c a _ _ w) hc hw (wpX_picks hs hQ hw is _ _ hB hk hF)
theorem wp_region_picks {l : List Oper} {id : Nat} {a : Act} {w : World} (bs : List Nat) (is : List Nat) (fuel : Nat) (hm : P.follows .mixedOrders = true) (hs : Region.noSelect l.toArray = true) (hl : l.length = fuel + is.length)
   (hB : picksB .any l.toArray is (Array.replicate l.length false) = true)
   (h : ∃ A, wpCalx P l.toArray bs w A (pickL l is) a ∧ wpX P .any l.toArray (NoPanic Q) bs w fuel (picked is (Array.replicate l.length false)) A w.drew) : (Code.region id l.toArray true).wp P Q a w := by
 obtain ⟨A, h1, h2⟩ := h
 refine wp_region_x bs hm ?_
 have h3 := wpX_picks (md := .any) (fuel := fuel) hs (fun _ _ _ _ _ h => h) (Dn.dx (Dn.drawn w)) is (Array.replicate l.length false) a hB h1 h2
 rw [List.size_toArray]
 rwa [← hl] at h3
theorem wpX_end {listed : Array Bool} {a : Act} {w : World} (hr : Region.ready md ops listed = []) (h : ∀ x, Dn w x → Q .normal a x) : wpX P md ops Q bs w0 0 listed a w := ⟨hr, h⟩
theorem wpX_only (k : Nat) {fuel : Nat} {listed : Array Bool} {a : Act} {w : World} (hr : Region.ready md ops listed = [k])
   (h : ∀ x, Dn w x → wpOp P ops Q k (fun a' y => Dx bs w0 y ∧ wpX P md ops Q bs w0 fuel (listed.setIfInBounds k true) a' y) a x) : wpX P md ops Q bs w0 (fuel + 1) listed a w := by
 refine ⟨fun e => absurd e (by rw [hr]; simp), fun i hi x dx => ?_⟩
 rw [hr] at hi
 obtain rfl : i = k := by simpa using hi
 exact h x dx
end

section
variable {P : Program} {ops : Array Oper} {dst : Option Tmp} {x y : Operand} {ty : TypeId} {pos : String} {aft : Array Edge} {gd : Option (Nat × Bool)} {a : Act} {w0 : World} {t s : TypeId} {b : Nat} {cs vs : Array Value} {d : TypeDesc} {bs : List Nat}
theorem calx_cut (g : Blk w0 b t cs) (hn : b ∉ bs) (o n : Nat) (hv : cs.extract o (o + n) = vs) (hs : vs.size = n) (hu : P.underlying s = some d) (hd : d.isRow = true) (hi : (P.info? s).map (·.size) = some n)
   (hw : Region.wanted ⟨dst, .load s x, ty, pos, aft, gd⟩ (yielded ops a.tmps) = true) (hx : a.eval x = .pointer (some ⟨b, o, none⟩)) : Calx P ops bs w0 ⟨dst, .load s x, ty, pos, aft, gd⟩ (.agg vs) a := by
 refine .inl ⟨hw, fun u du => ?_⟩
 unfold execOp
 simp only [hx, Instr.loadAt, Instr.sureAddr, Sem.run_bind, Sem.run_pure, Result.andThen_ok, run_loadVar_cut (g.dx du hn) o n hv hs hu hd hi]
 exact ⟨rfl, rfl⟩
theorem calx_cell {v : Value} (g : Blk w0 b t cs) (hn : b ∉ bs) (o : Nat) (hv : cs[o]? = some v) (hl : ∀ u : World, u.cell? ⟨b, o, none⟩ = some v → (loadVar s ⟨b, o, none⟩).run P u = .ok v u)
   (hw : Region.wanted ⟨dst, .load s x, ty, pos, aft, gd⟩ (yielded ops a.tmps) = true) (hx : a.eval x = .pointer (some ⟨b, o, none⟩)) : Calx P ops bs w0 ⟨dst, .load s x, ty, pos, aft, gd⟩ v a := by
 refine .inl ⟨hw, fun u du => ?_⟩
 unfold execOp
 simp only [hx, Instr.loadAt, Instr.sureAddr, Sem.run_bind, Sem.run_pure, Result.andThen_ok, hl u ((g.dx du hn).cell hv)]
 exact ⟨rfl, rfl⟩
theorem calx_call {o : Oper} {f : FuncId} {args : Array Value} {v : Value} (C : ∀ u, Dx bs w0 u → Calls P f args u fun e y => e = .returned v ∧ Dn u y) (hw : Region.wanted o (yielded ops a.tmps) = true) (he : ∀ u, (execOp a.eval o).run P u = .ok (.enter f args) u) : Calx P ops bs w0 o v a :=
 .inl ⟨hw, fun u du => by rw [he u]; exact ⟨rfl, C u du⟩⟩
theorem calx_pure {o : Oper} {v : Value} (hw : Region.wanted o (yielded ops a.tmps) = true) (he : ∀ u, (execOp a.eval o).run P u = .ok (.value v) u) : Calx P ops bs w0 o v a :=
 .inl ⟨hw, fun u du => by rw [he u]; exact ⟨rfl, rfl⟩⟩
end

section
variable {P : Program} {ops : Array Oper} {rest : List Oper} {dst : Option Tmp} {x y : Operand} {ty : TypeId} {pos : String} {aft : Array Edge} {gd : Option (Nat × Bool)} {a : Act} {w : World} {Q : Exit → Act → World → Prop} {t s : TypeId} {vs z : Array Value}
structure New (w w' : World) (b : Nat) (t : TypeId) (vs : Array Value) : Prop where
 blk : Blk w' b t vs
 dn : Dn w w'
 lo : w.heap.size ≤ b
 ne : ∀ g, g < w.heap.size → g ≠ b
theorem New.mk' (w : World) (t : TypeId) (vs : Array Value) : New w (w.alloc (.cells vs t)) w.heap.size t vs := ⟨Blk.new w t vs, (Dn.refl w).alloc _, Nat.le_refl _, fun g hg => Nat.ne_of_lt hg⟩
theorem Blk.hi {u : Nat} {w w' : World} {b : Nat} {t : TypeId} {vs : Array Value} (n : New w w' b t vs) (h : u ≤ w.heap.size) : u ≤ b := Nat.le_trans h n.lo
theorem wpList_box (hw : Region.wanted ⟨dst, .box t y, ty, pos, aft, gd⟩ (yielded ops a.tmps) = true) (hy : a.eval y = .agg vs)
   (h : ∀ b w', New w w' b t vs → wpList P ops Q rest (a.put dst (.pointer (some ⟨b, 0, none⟩))) w') : wpList P ops Q (⟨dst, .box t y, ty, pos, aft, gd⟩ :: rest) a w := by
 unfold wpList
 rw [if_pos hw]
 refine .inl ?_
 unfold Oper.wp execOp
 simp only [hy]
 simp only [Instr.box, newVar, newRow, Value.cells, Sem.run_bind, go_sem]
 exact h _ _ (New.mk' w t vs)
theorem wpList_alloc (hz : (P.info? t).map (fun i => (i.zero, i.size)) = some (some (.agg z), z.size)) (hw : Region.wanted ⟨dst, .alloc t, ty, pos, aft, gd⟩ (yielded ops a.tmps) = true)
   (h : ∀ b w', New w w' b t z → wpList P ops Q rest (a.put dst (.pointer (some ⟨b, 0, none⟩))) w') : wpList P ops Q (⟨dst, .alloc t, ty, pos, aft, gd⟩ :: rest) a w := by
 have hz1 := (zero_of_info hz).1
 unfold wpList
 rw [if_pos hw]
 refine .inl ?_
 unfold Oper.wp execOp
 simp only [Instr.alloc, Sem.run_bind, hz1, Result.andThen_ok]
 simp only [newVar, newRow, Value.cells, go_sem]
 exact h _ _ (New.mk' w t z)
end
section
variable {P : Program} {ops : Array Oper} {Q : Exit → Act → World → Prop} {md : Region.Mode} {w0 : World} {bs : List Nat}
theorem Dx.trn_new {w u y : World} {b : Nat} (h : Dx bs w u) (t : Trn b u y) (hb : w.heap.size ≤ b) : Dx bs w y :=
 ⟨t.os.trans h.os, t.tape.trans h.tape, t.output.trans h.output, by rw [t.size]; exact h.size, fun i hi hn => (t.block i (by omega)).trans (h.block i hi hn)⟩
theorem wpX_pick2 {l : List Oper} {w w0 : World} {listed : Array Bool} {a : Act} {n : Nat} (hs : Region.noSelect l.toArray = true) (hw : Dx bs w0 w) (is : List Nat) (fuel : Nat) (hn : n = fuel + is.length)
   (hB : picksB .any l.toArray is listed = true) (h : ∃ A, wpCalx P l.toArray bs w0 A (pickL l is) a ∧ wpX P .any l.toArray (NoPanic Q) bs w0 fuel (picked is listed) A w) : wpX P .any l.toArray (NoPanic Q) bs w0 n listed a w := by
 obtain ⟨A, h1, h2⟩ := h
 subst hn
 exact wpX_picks hs (fun _ _ _ _ _ h => h) hw is listed a hB h1 h2
end
section
variable {P : Program} {ops : Array Oper} {Q : Exit → Act → World → Prop} {md : Region.Mode} {w0 : World} {bs : List Nat}
def wpX1 (P : Program) (md : Region.Mode) (ops : Array Oper) (Q : Exit → Act → World → Prop) (bs : List Nat) (w0 : World) (k fuel : Nat) (listed : Array Bool) (a : Act) (w : World) : Prop :=
 ∀ x, Dn w x → Go.wpOp P ops Q k (fun a' y => Dx bs w0 y ∧ wpX P md ops Q bs w0 fuel (listed.setIfInBounds k true) a' y) a x
theorem wpX_one (k : Nat) {fuel : Nat} {listed : Array Bool} {a : Act} {w : World} (hr : Region.ready md ops listed = [k]) (h : wpX1 P md ops Q bs w0 k fuel listed a w) : wpX P md ops Q bs w0 (fuel + 1) listed a w := wpX_only k hr h
theorem wpX_two (i j : Nat) {fuel : Nat} {listed : Array Bool} {a : Act} {w : World} (hr : Region.ready md ops listed = [i, j]) (hi : wpX1 P md ops Q bs w0 i fuel listed a w) (hj : wpX1 P md ops Q bs w0 j fuel listed a w) : wpX P md ops Q bs w0 (fuel + 1) listed a w := by
 refine ⟨fun e => absurd e (by rw [hr]; simp), fun k hk x dx => ?_⟩
 rw [hr] at hk
 simp only [List.mem_cons, List.not_mem_nil, or_false] at hk
 rcases hk with rfl | rfl
 · exact hi x dx
 · exact hj x dx
theorem wpX_three (i j l : Nat) {fuel : Nat} {listed : Array Bool} {a : Act} {w : World} (hr : Region.ready md ops listed = [i, j, l]) (hi : wpX1 P md ops Q bs w0 i fuel listed a w) (hj : wpX1 P md ops Q bs w0 j fuel listed a w) (hl : wpX1 P md ops Q bs w0 l fuel listed a w) : wpX P md ops Q bs w0 (fuel + 1) listed a w := by
 refine ⟨fun e => absurd e (by rw [hr]; simp), fun k hk x dx => ?_⟩
 rw [hr] at hk
 simp only [List.mem_cons, List.not_mem_nil, or_false] at hk
 rcases hk with rfl | rfl | rfl
 · exact hi x dx
 · exact hj x dx
 · exact hl x dx
theorem x1_store (o : Nat) {k fuel : Nat} {listed : Array Bool} {a : Act} {w : World} {s t : TypeId} {x y : Operand} {ty : TypeId} {pos : String} {aft : Array Edge} {b : Nat} {cs vs : Array Value}
   (hk : ops[k]? = some ⟨none, .store s x y, ty, pos, aft, none⟩) (g : Blk w b t cs) (hb : b ∈ bs ∨ w0.heap.size ≤ b) (hi : (P.info? s).map (·.size) = some vs.size) (hz : o + vs.size ≤ cs.size) (h1 : vs.all (·.oneCell') = true)
   (hx : a.eval x = .pointer (some ⟨b, o, none⟩)) (hy : a.eval y = .agg vs) (hw : Dx bs w0 w)
   (h : ∀ u y, Dn w u → Trn b u y → Dx bs w0 y → Blk y b t (lay cs o vs) → wpX P md ops Q bs w0 fuel (listed.setIfInBounds k true) a y) : wpX1 P md ops Q bs w0 k fuel listed a w := by
 intro u du
 unfold wpOp
 simp only [hk]
 rw [if_pos (by rfl)]
 refine .inl ?_
 have st := run_storeVar_at (P := P) (s := s) o (.agg vs) (g.dn du) (by simp only [Value.cells]; exact hi) (by simp only [Value.cells]; exact hz) h1
 unfold Oper.wp execOp
 simp only [hx, hy, Instr.storeAt, Instr.sureAddr, Sem.run_bind, Sem.run_pure, Result.andThen_ok, st]
 have d2 : Dx bs w0 (u.setRow b (lay cs o vs)) := by
   rcases hb with hb | hb
   · exact (hw.trans (Dn.dx du)).trans ((Trn.setRow u b _).dx hb)
   · exact (hw.trans (Dn.dx du)).trn_new (Trn.setRow u b _) hb
 exact ⟨d2, h u _ du (Trn.setRow u b _) d2 (setRow_heap u b _ _ t _ (g.dn du))⟩
theorem x1_cell (o : Nat) (v : Value) (hv : v.cells = #[v]) {k fuel : Nat} {listed : Array Bool} {a : Act} {w : World} {s t : TypeId} {x y : Operand} {ty : TypeId} {pos : String} {aft : Array Edge} {b : Nat} {cs : Array Value}
   (hk : ops[k]? = some ⟨none, .store s x y, ty, pos, aft, none⟩) (g : Blk w b t cs) (hb : b ∈ bs ∨ w0.heap.size ≤ b) (hi : (P.info? s).map (·.size) = some 1) (hz : o < cs.size) (h1 : v.oneCell' = true)
   (hx : a.eval x = .pointer (some ⟨b, o, none⟩)) (hy : a.eval y = v) (hw : Dx bs w0 w)
   (h : ∀ u y, Dn w u → Trn b u y → Dx bs w0 y → Blk y b t (cs.setIfInBounds o v) → wpX P md ops Q bs w0 fuel (listed.setIfInBounds k true) a y) : wpX1 P md ops Q bs w0 k fuel listed a w := by
 intro u du
 unfold wpOp
 simp only [hk]
 rw [if_pos (by rfl)]
 refine .inl ?_
 have st := run_storeVar_at (P := P) (s := s) o v (g.dn du) (by rw [hv]; exact hi) (by rw [hv]; simp; omega) (by rw [hv]; simp [h1])
 unfold Oper.wp execOp
 simp only [hx, hy, Instr.storeAt, Instr.sureAddr, Sem.run_bind, Sem.run_pure, Result.andThen_ok, st]
 rw [hv, lay_one _ _ _ hz]
 have d2 : Dx bs w0 (u.setRow b (cs.setIfInBounds o v)) := by
   rcases hb with hb | hb
   · exact (hw.trans (Dn.dx du)).trans ((Trn.setRow u b _).dx hb)
   · exact (hw.trans (Dn.dx du)).trn_new (Trn.setRow u b _) hb
 exact ⟨d2, h u _ du (Trn.setRow u b _) d2 (setRow_heap u b _ _ t _ (g.dn du))⟩
theorem x1_call {k fuel : Nat} {listed : Array Bool} {a : Act} {w : World} {dst : Option Tmp} {c : Call} {ty : TypeId} {pos : String} {aft : Array Edge} {gd : Option (Nat × Bool)} {f : FuncId} {args : Array Value} (hk : ops[k]? = some ⟨dst, .call c, ty, pos, aft, gd⟩) (hg : Region.wanted ⟨dst, .call c, ty, pos, aft, gd⟩ (yielded ops a.tmps) = true)
   (he : ∀ u, (execOp a.eval ⟨dst, .call c, ty, pos, aft, gd⟩).run P u = .ok (.enter f args) u) (hw : Dx bs w0 w)
   (h : ∀ x, Dn w x → Dx bs w0 x → Calls P f args x fun e y => Dn x y ∧ ∃ v, e = .returned v ∧ wpX P md ops Q bs w0 fuel (listed.setIfInBounds k true) (a.put dst v) y) : wpX1 P md ops Q bs w0 k fuel listed a w := by
 intro x dx
 unfold wpOp
 simp only [hk]
 rw [if_pos hg]
 refine .inl ?_
 unfold Oper.wp
 rw [he x]
 refine (h x dx (hw.trans (Dn.dx dx))).mono fun e y hh => ?_
 obtain ⟨dy, v, rfl, hv⟩ := hh
 exact ⟨(hw.trans (Dn.dx dx)).trans (Dn.dx dy), hv⟩
theorem x1_alloc {k fuel : Nat} {listed : Array Bool} {a : Act} {w : World} {p : Tmp} {t : TypeId} {ty : TypeId} {pos : String} {aft : Array Edge} {z : Array Value} (hk : ops[k]? = some ⟨some p, .alloc t, ty, pos, aft, none⟩)
   (hz : (P.info? t).map (fun i => (i.zero, i.size)) = some (some (.agg z), z.size)) (hw : Dx bs w0 w)
   (h : ∀ b y, Dn w y → w.heap.size ≤ b → Blk y b t z → wpX P md ops Q bs w0 fuel (listed.setIfInBounds k true) (a.put (some p) (.pointer (some ⟨b, 0, none⟩))) y) : wpX1 P md ops Q bs w0 k fuel listed a w := by
 have hz1 := (zero_of_info hz).1
 intro x dx
 unfold wpOp
 simp only [hk]
 rw [if_pos (by rfl)]
 refine .inl ?_
 unfold Oper.wp execOp
 simp only [Instr.alloc, Sem.run_bind, hz1, Result.andThen_ok]
 simp only [newVar, newRow, Value.cells, go_sem]
 have d1 : Dn w (x.alloc (.cells z t)) := dx.alloc _
 exact ⟨hw.trans (Dn.dx d1), h _ _ d1 dx.size (Blk.new x t z)⟩
theorem x1_box {k fuel : Nat} {listed : Array Bool} {a : Act} {w : World} {p : Tmp} {t : TypeId} {y : Operand} {ty : TypeId} {pos : String} {aft : Array Edge} {vs : Array Value} (hk : ops[k]? = some ⟨some p, .box t y, ty, pos, aft, none⟩)
   (hy : a.eval y = .agg vs) (hw : Dx bs w0 w)
   (h : ∀ b y, Dn w y → w.heap.size ≤ b → Blk y b t vs → wpX P md ops Q bs w0 fuel (listed.setIfInBounds k true) (a.put (some p) (.pointer (some ⟨b, 0, none⟩))) y) : wpX1 P md ops Q bs w0 k fuel listed a w := by
 intro x dx
 unfold wpOp
 simp only [hk]
 rw [if_pos (by rfl)]
 refine .inl ?_
 unfold Oper.wp execOp
 simp only [hy]
 simp only [Instr.box, newVar, newRow, Value.cells, Sem.run_bind, go_sem]
 have d1 : Dn w (x.alloc (.cells vs t)) := dx.alloc _
 exact ⟨hw.trans (Dn.dx d1), h _ _ d1 dx.size (Blk.new x t vs)⟩
end
section
variable {P : Program} {ops : Array Oper} {rest : List Oper} {dst : Option Tmp} {t ty : TypeId} {pos : String} {aft : Array Edge} {gd : Option (Nat × Bool)} {a : Act} {w w0 : World} {Q : Exit → Act → World → Prop} {vs : Array Value} {bs : List Nat} {parts : Array (Nat × Operand)} {pv : Array (Nat × Value)}
theorem exec_build (hp : parts.map (fun (i, x) => (i, a.eval x)) = pv) (u : World) (hb : (Instr.build t pv).run P u = .ok (.agg vs) u) : (execOp a.eval ⟨dst, .build t parts, ty, pos, aft, gd⟩).run P u = .ok (.value (.agg vs)) u := by
 unfold execOp
 simp only [hp, Sem.run_bind, hb, Result.andThen_ok]
 rfl
theorem calx_build (hb : ∀ u, (Instr.build t pv).run P u = .ok (.agg vs) u) (hp : parts.map (fun (i, x) => (i, a.eval x)) = pv) (hw : Region.wanted ⟨dst, .build t parts, ty, pos, aft, gd⟩ (yielded ops a.tmps) = true) : Calx P ops bs w0 ⟨dst, .build t parts, ty, pos, aft, gd⟩ (.agg vs) a :=
 calx_pure hw fun u => exec_build hp u (hb u)
theorem wpList_build (hb : ∀ u, (Instr.build t pv).run P u = .ok (.agg vs) u) (hw : Region.wanted ⟨dst, .build t parts, ty, pos, aft, gd⟩ (yielded ops a.tmps) = true) (hp : parts.map (fun (i, x) => (i, a.eval x)) = pv)
   (h : wpList P ops Q rest (a.put dst (.agg vs)) w) : wpList P ops Q (⟨dst, .build t parts, ty, pos, aft, gd⟩ :: rest) a w := by
 unfold wpList
 rw [if_pos hw]
 refine .inl ?_
 unfold Oper.wp
 rw [exec_build hp w (hb w)]
 exact h
end
section
variable {P : Program} {ops : Array Oper} {rest : List Oper} {dst : Option Tmp} {x y : Operand} {t ty : TypeId} {pos : String} {aft : Array Edge} {gd : Option (Nat × Bool)} {a : Act} {w w0 : World} {Q : Exit → Act → World → Prop} {X Y V : Value} {bs : List Nat}
theorem exec_index (hx : a.eval x = X) (hy : a.eval y = Y) (u : World) (hb : (Instr.index t X Y).run P u = .ok V u) : (execOp a.eval ⟨dst, .index t x y, ty, pos, aft, gd⟩).run P u = .ok (.value V) u := by
 unfold execOp
 simp only [hx, hy, Sem.run_bind, hb, Result.andThen_ok]
 rfl
theorem calx_index (hb : ∀ u, (Instr.index t X Y).run P u = .ok V u) (hx : a.eval x = X) (hy : a.eval y = Y) (hw : Region.wanted ⟨dst, .index t x y, ty, pos, aft, gd⟩ (yielded ops a.tmps) = true) : Calx P ops bs w0 ⟨dst, .index t x y, ty, pos, aft, gd⟩ V a :=
 calx_pure hw fun u => exec_index hx hy u (hb u)
end

section
variable {P : Program} {ops : Array Oper} {Q : Exit → Act → World → Prop} {md : Region.Mode} {w0 : World} {bs : List Nat} {last : Nat}
def wpZ (P : Program) (md : Region.Mode) (ops : Array Oper) (Q : Exit → Act → World → Prop) (bs : List Nat) (w0 : World) (last : Nat) : Nat → Array Bool → Act → World → Prop
 | 0, listed, a, w => Region.ready md ops listed = [] ∧ ∀ x, Dn w x → Q .normal a x
 | fuel + 1, listed, a, w => (Region.ready md ops listed = [] → ∀ x, Dn w x → Q .normal a x) ∧ ∀ i ∈ Region.ready md ops listed, ∀ x, Dn w x → Go.wpOp P ops Q i (fun a' y => (i ≠ last → Dx bs w0 y) ∧ wpZ P md ops Q bs w0 last fuel (listed.setIfInBounds i true) a' y) a x
theorem wpZ.up {fuel : Nat} {listed : Array Bool} {a : Act} {w x : World} (h : wpZ P md ops Q bs w0 last fuel listed a w) (d : Dn w x) : wpZ P md ops Q bs w0 last fuel listed a x := by
 cases fuel with
 | zero => exact ⟨h.1, fun y dy => h.2 y (d.trans dy)⟩
 | succ f => exact ⟨fun h0 y dy => h.1 h0 y (d.trans dy), fun i hi y dy => h.2 i hi y (d.trans dy)⟩
theorem wpZ.any : ∀ {fuel : Nat} {listed : Array Bool} {a : Act} {w : World}, wpZ P md ops Q bs w0 last fuel listed a w → wpAny P md ops Q fuel listed a w
 | 0, _, _, w, h => ⟨h.1, h.2 w (Dn.refl w)⟩
 | f + 1, _, _, w, h => ⟨fun h0 => h.1 h0 w (Dn.refl w), fun i hi => wpOp_mono (fun a' y hy => wpZ.any hy.2) (h.2 i hi w (Dn.refl w))⟩
def waitsB (md : Region.Mode) (ops : Array Oper) (last i : Nat) : Bool := match ops[last]? with
 | some o => o.after.any fun e => Region.binds md e && e.on == i
 | none => false
theorem waits_spec {last i : Nat} (h : waitsB md ops last i = true) {o : Oper} (ho : ops[last]? = some o) : ∃ e ∈ o.after, Region.binds md e = true ∧ e.on = i := by
 unfold waitsB at h
 rw [ho] at h
 simp only [Array.any_eq_true] at h
 obtain ⟨j, hj, he⟩ := h
 simp only [Bool.and_eq_true, beq_iff_eq] at he
 exact ⟨o.after[j], Array.getElem_mem hj, he.1, he.2⟩
def waits2B (md : Region.Mode) (ops : Array Oper) (last i : Nat) : Bool := waitsB md ops last i || (List.range ops.size).any fun k => waitsB md ops last k && waitsB md ops k i
def Closed (md : Region.Mode) (ops : Array Oper) (listed : Array Bool) : Prop := ∀ (k : Nat) (ok : Oper), ops[k]? = some ok → listed.getD k false = true → ∀ e ∈ ok.after, Region.binds md e = true → listed.getD e.on false = true
theorem Closed.set {listed : Array Bool} {j : Nat} (h : Closed md ops listed) (hj : j ∈ Region.ready md ops listed) : Closed md ops (listed.setIfInBounds j true) := by
 obtain ⟨_, oj, hoj, hall⟩ := mem_ready.1 hj
 intro k ok hk hlk e he hb
 by_cases hjk : j = k
 · subst hjk
   rw [hoj] at hk
   cases hk
   exact getD_set_true (hall e he hb)
 · rw [getD_set_ne false hjk] at hlk
   exact getD_set_true (h k ok hk hlk e he hb)
theorem Closed.no {listed : Array Bool} (n : Nat) (hn : listed = Array.replicate n false) : Closed md ops listed := by
 subst hn
 intro k ok hk hlk
 simp only [Array.getD_eq_getD_getElem?, Array.getElem?_replicate] at hlk
 by_cases hkn : k < n
 · rw [if_pos hkn] at hlk; cases hlk
 · rw [if_neg hkn] at hlk; cases hlk
theorem waits2_no {listed : Array Bool} {i j : Nat} (hc : Closed md ops listed) (hi : listed.getD i true = false) (hj : j ∈ Region.ready md ops listed) (h : waits2B md ops j i = true) : False := by
 obtain ⟨_, oj, hoj, hall⟩ := mem_ready.1 hj
 have hno := no_wait hi hall
 have hif : listed.getD i false = false := by
   simp only [Array.getD_eq_getD_getElem?] at hi ⊢
   cases hq : listed[i]? with
   | none => rfl
   | some b => rw [hq] at hi; exact hi
 unfold waits2B at h
 rw [Bool.or_eq_true] at h
 rcases h with h | h
 · obtain ⟨e, he, hb, hon⟩ := waits_spec h hoj
   exact hno e he hb hon
 · rw [List.any_eq_true] at h
   obtain ⟨k, hk, h2⟩ := h
   rw [Bool.and_eq_true] at h2
   obtain ⟨e, he, hb, hon⟩ := waits_spec h2.1 hoj
   have hlk := hall e he hb
   rw [hon] at hlk
   have hks : k < ops.size := by simpa using hk
   have hok : ops[k]? = some ops[k] := Array.getElem?_eq_getElem hks
   obtain ⟨e2, he2, hb2, hon2⟩ := waits_spec h2.2 hok
   have := hc k _ hok hlk e2 he2 hb2
   rw [hon2, hif] at this
   cases this
theorem wpZ_first {i : Nat} {oi : Oper} {v : Value} (hi : ops[i]? = some oi) (hl : waits2B md ops last i = true) (hsel : ∀ (j : Nat) (o : Oper) cs b, ops[j]? = some o → o.op ≠ .select cs b) (hQ : ∀ c a w, Q (.panic c) (a.put oi.dst v) w → Q (.panic c) a w) :
   ∀ (fuel : Nat) (listed : Array Bool) (a : Act) (w : World), Closed md ops listed →
     (∀ j oj, ops[j]? = some oj → j ≠ i → listed.getD j true = false → (∀ e ∈ oj.after, Region.binds md e = true → e.on ≠ i) → oi.apart ops oj = true) →
     i ∈ Region.ready md ops listed → Calx P ops bs w0 oi v a → Dx bs w0 w →
     wpZ P md ops Q bs w0 last fuel (listed.setIfInBounds i true) (a.put oi.dst v) w → wpZ P md ops Q bs w0 last (fuel + 1) listed a w := by
 intro fuel
 induction fuel with
 | zero =>
   intro listed a w _ _ hr hc hw H
   refine ⟨fun h => absurd hr (by rw [h]; simp), fun j hj x dx => ?_⟩
   by_cases hji : j = i
   · subst hji
     exact hc.wpOp hi (hw.trans dx.dx) fun y dy => ⟨fun _ => (hw.trans dx.dx).trans dy.dx, H.up (dx.trans dy)⟩
   · have := ready_mono hj hji
     rw [H.1] at this
     cases this
 | succ fuel ih =>
   intro listed a w hcl hf hr hc hw H
   refine ⟨fun h => absurd hr (by rw [h]; simp), fun j hj x dx => ?_⟩
   by_cases hji : j = i
   · subst hji
     exact hc.wpOp hi (hw.trans dx.dx) fun y dy => ⟨fun _ => (hw.trans dx.dx).trans dy.dx, H.up (dx.trans dy)⟩
   · obtain ⟨hjun, oj, hoj, hall⟩ := mem_ready.1 hj
     have hno := no_wait (mem_ready.1 hr).1 hall
     have hjl : j ≠ last := fun e => by
       subst e
       exact waits2_no hcl (mem_ready.1 hr).1 hj hl
     refine wpOp_mono (fun a' y hy => ⟨fun _ => hy.2.1 hjl, ih (listed.setIfInBounds j true) a' y (hcl.set hj) (fun k ok hk hki hun hn => hf k ok hk hki ?_ hn) (ready_mono hr (Ne.symm hji)) (hc.like hy.1) (hy.2.1 hjl) ?_⟩)
       (swap hoj (hf j oj hoj hji hjun hno) (fun cs b => hsel i oi cs b hi) (fun cs b => hsel j oj cs b hoj) hQ (H.2 j (ready_mono hj hji) x dx))
     · by_cases hjk : j = k
       · subst hjk; exact hjun
       · rw [getD_set_ne true hjk] at hun; exact hun
     · rw [Array.setIfInBounds_comm _ _ hji]
       exact hy.2.2
theorem wpZ_picks {l : List Oper} (hs : Region.noSelect l.toArray = true) (hQ : ∀ c a d v w, Q (.panic c) (a.put d v) w → Q (.panic c) a w) {A : Act} {w : World} (hw : Dx bs w0 w) {fuel : Nat} :
   ∀ (is : List Nat) (listed : Array Bool) (a : Act), Closed md l.toArray listed → picksB md l.toArray is listed = true → is.all (waits2B md l.toArray last) = true → wpCalx P l.toArray bs w0 A (pickL l is) a →
     wpZ P md l.toArray Q bs w0 last fuel (picked is listed) A w → wpZ P md l.toArray Q bs w0 last (fuel + is.length) listed a w
 | [], _, a, _, _, _, h, hF => by
   have h : a = A := h
   subst h; exact hF
 | i :: is, listed, a, hcl, hB, hL, h, hF => by
   simp only [picksB, Bool.and_eq_true, decide_eq_true_eq] at hB
   simp only [List.all_cons, Bool.and_eq_true] at hL
   obtain ⟨⟨⟨hl, hr⟩, hf⟩, hB⟩ := hB
   have hl' : i < l.length := by simpa using hl
   have e : pickL l (i :: is) = l[i] :: pickL l is := by
     simp only [pickL]
     rw [List.drop_eq_getElem_cons hl']
     rfl
   rw [e] at h
   obtain ⟨v, hc, hk⟩ := h
   have h0 : l.toArray[i]? = some l[i] := by simp [hl']
   exact wpZ_first h0 hL.1 (Region.noSelect_spec hs) (fun c a w => hQ c a _ _ w) _ listed a w hcl (Region.free_spec h0 hf) (by simpa using hr) hc hw (wpZ_picks hs hQ hw is _ _ (hcl.set (by simpa using hr)) hB hL.2 hk hF)
theorem wp_region_picksZ {l : List Oper} {id : Nat} {a : Act} {w : World} (bs : List Nat) (last : Nat) (is : List Nat) (fuel : Nat) (hm : P.follows .mixedOrders = true) (hs : Region.noSelect l.toArray = true) (hl : l.length = fuel + is.length)
   (hB : picksB .any l.toArray is (Array.replicate l.length false) = true) (hL : is.all (waits2B .any l.toArray last) = true)
   (h : ∃ A, wpCalx P l.toArray bs w A (pickL l is) a ∧ wpZ P .any l.toArray (NoPanic Q) bs w last fuel (picked is (Array.replicate l.length false)) A w.drew) : (Code.region id l.toArray true).wp P Q a w := by
 obtain ⟨A, h1, h2⟩ := h
 refine wp_region_noPanic (wp_region_any hm ?_)
 have h3 := wpZ_picks (md := .any) (fuel := fuel) (last := last) hs (fun _ _ _ _ _ h => h) (Dn.dx (Dn.drawn w)) is (Array.replicate l.length false) a (Closed.no _ rfl) hB hL h1 h2
 rw [List.size_toArray]
 rw [← hl] at h3
 exact h3.any
theorem wpZ_store (o : Nat) {k : Nat} {listed : Array Bool} {a : Act} {w : World} {s t : TypeId} {x y : Operand} {ty : TypeId} {pos : String} {aft : Array Edge} {b : Nat} {cs vs : Array Value}
   (hk : ops[k]? = some ⟨none, .store s x y, ty, pos, aft, none⟩) (hr : Region.ready md ops listed = [k]) (hr2 : Region.ready md ops (listed.setIfInBounds k true) = []) (g : Blk w b t cs) (hi : (P.info? s).map (·.size) = some vs.size) (hz : o + vs.size ≤ cs.size) (h1 : vs.all (·.oneCell') = true)
   (hx : a.eval x = .pointer (some ⟨b, o, none⟩)) (hy : a.eval y = .agg vs)
   (h : ∀ u y z, Dn w u → Trn b u y → Blk y b t (lay cs o vs) → Dn y z → Q .normal a z) : wpZ P md ops (NoPanic Q) bs w0 k 1 listed a w := by
 refine ⟨fun e => absurd e (by rw [hr]; simp), fun i hi' x dx => ?_⟩
 rw [hr] at hi'
 obtain rfl : i = k := by simpa using hi'
 unfold Go.wpOp
 simp only [hk]
 rw [if_pos (by rfl)]
 refine .inl ?_
 have st := run_storeVar_at (P := P) (s := s) o (.agg vs) (g.dn dx) (by simp only [Value.cells]; exact hi) (by simp only [Value.cells]; exact hz) h1
 unfold Oper.wp execOp
 simp only [hx, hy, Instr.storeAt, Instr.sureAddr, Sem.run_bind, Sem.run_pure, Result.andThen_ok, st]
 exact ⟨fun e => absurd rfl e, hr2, fun z dz => NoPanic.normal (h x _ z dx (Trn.setRow x b _) (setRow_heap x b _ _ t _ (g.dn dx)) dz)⟩
end

section
variable {P : Program} {ops : Array Oper} {Q : Exit → Act → World → Prop} {md : Region.Mode} {w0 : World} {bs cs : List Nat} {L : List Nat}
def wpY (P : Program) (md : Region.Mode) (ops : Array Oper) (Q : Exit → Act → World → Prop) (bs : List Nat) (L : List Nat) : Nat → Array Bool → Act → World → Prop
 | 0, listed, a, w => Region.ready md ops listed = [] ∧ ∀ x, Dn w x → Q .normal a x
 | fuel + 1, listed, a, w => (Region.ready md ops listed = [] → ∀ x, Dn w x → Q .normal a x) ∧ ∀ i ∈ Region.ready md ops listed, ∀ x, Dn w x → Go.wpOp P ops Q i (fun a' y => ((i ∉ L → Dx [] x y) ∧ Dx bs x y) ∧ wpY P md ops Q bs L fuel (listed.setIfInBounds i true) a' y) a x
theorem wpY.up {fuel : Nat} {listed : Array Bool} {a : Act} {w x : World} (h : wpY P md ops Q bs L fuel listed a w) (d : Dn w x) : wpY P md ops Q bs L fuel listed a x := by
 cases fuel with
 | zero => exact ⟨h.1, fun y dy => h.2 y (d.trans dy)⟩
 | succ f => exact ⟨fun h0 y dy => h.1 h0 y (d.trans dy), fun i hi y dy => h.2 i hi y (d.trans dy)⟩
theorem wpY.any : ∀ {fuel : Nat} {listed : Array Bool} {a : Act} {w : World}, wpY P md ops Q bs L fuel listed a w → wpAny P md ops Q fuel listed a w
 | 0, _, _, w, h => ⟨h.1, h.2 w (Dn.refl w)⟩
 | f + 1, _, _, w, h => ⟨fun h0 => h.1 h0 w (Dn.refl w), fun i hi => wpOp_mono (fun a' y hy => wpY.any hy.2) (h.2 i hi w (Dn.refl w))⟩
def waitsN (md : Region.Mode) (ops : Array Oper) : Nat → Nat → Nat → Bool
 | 0, j, i => waitsB md ops j i
 | n + 1, j, i => waitsB md ops j i || (List.range ops.size).any fun k => waitsB md ops j k && waitsN md ops n k i
theorem unlisted_false {listed : Array Bool} {i : Nat} (hi : listed.getD i true = false) : listed.getD i false = false := by
 simp only [Array.getD_eq_getD_getElem?] at hi ⊢
 cases hq : listed[i]? with
 | none => rfl
 | some b => rw [hq] at hi; exact hi
theorem waitsN_no : ∀ (n : Nat) {listed : Array Bool} {i k : Nat}, Closed md ops listed → listed.getD i false = false → listed.getD k false = true → waitsN md ops n k i = true → k < ops.size → False
 | 0, listed, i, k, hc, hi, hk, h, hs => by
   obtain ⟨e, he, hb, hon⟩ := waits_spec (show waitsB md ops k i = true from h) (Array.getElem?_eq_getElem hs)
   have := hc k _ (Array.getElem?_eq_getElem hs) hk e he hb
   rw [hon, hi] at this; cases this
 | n + 1, listed, i, k, hc, hi, hk, h, hs => by
   simp only [waitsN, Bool.or_eq_true] at h
   rcases h with h | h
   · exact waitsN_no 0 hc hi hk h hs
   · rw [List.any_eq_true] at h
     obtain ⟨l, hl, h2⟩ := h
     rw [Bool.and_eq_true] at h2
     obtain ⟨e, he, hb, hon⟩ := waits_spec h2.1 (Array.getElem?_eq_getElem hs)
     have := hc k _ (Array.getElem?_eq_getElem hs) hk e he hb
     rw [hon] at this
     exact waitsN_no n hc hi this h2.2 (by simpa using hl)
theorem waitsN_ready {n : Nat} {listed : Array Bool} {i j : Nat} (hc : Closed md ops listed) (hi : listed.getD i true = false) (hj : j ∈ Region.ready md ops listed) (h : waitsN md ops n j i = true) : False := by
 obtain ⟨_, oj, hoj, hall⟩ := mem_ready.1 hj
 have hif := unlisted_false hi
 have one : waitsB md ops j i = true → False := fun h => by
   obtain ⟨e, he, hb, hon⟩ := waits_spec h hoj
   have := hall e he hb
   rw [hon, hif] at this; cases this
 cases n with
 | zero => exact one h
 | succ n =>
   simp only [waitsN, Bool.or_eq_true] at h
   rcases h with h | h
   · exact one h
   · rw [List.any_eq_true] at h
     obtain ⟨l, hl, h2⟩ := h
     rw [Bool.and_eq_true] at h2
     obtain ⟨e, he, hb, hon⟩ := waits_spec h2.1 hoj
     have := hall e he hb
     rw [hon] at this
     exact waitsN_no n hc hif this h2.2 (by simpa using hl)
def apartB (md : Region.Mode) (ops : Array Oper) (L : List Nat) (i : Nat) : Bool := L.all fun j => waitsN md ops 6 j i
theorem wpY_first {i : Nat} {oi : Oper} {v : Value} (hi : ops[i]? = some oi) (hl : cs = bs ∨ (cs = [] ∧ apartB md ops L i = true)) (hsel : ∀ (j : Nat) (o : Oper) cs b, ops[j]? = some o → o.op ≠ .select cs b) (hQ : ∀ c a w, Q (.panic c) (a.put oi.dst v) w → Q (.panic c) a w) :
   ∀ (fuel : Nat) (listed : Array Bool) (a : Act) (w : World), Closed md ops listed →
     (∀ j oj, ops[j]? = some oj → j ≠ i → listed.getD j true = false → (∀ e ∈ oj.after, Region.binds md e = true → e.on ≠ i) → oi.apart ops oj = true) →
     i ∈ Region.ready md ops listed → Calx P ops cs w0 oi v a → Dx cs w0 w →
     wpY P md ops Q bs L fuel (listed.setIfInBounds i true) (a.put oi.dst v) w → wpY P md ops Q bs L (fuel + 1) listed a w := by
 intro fuel
 induction fuel with
 | zero =>
   intro listed a w _ _ hr hc hw H
   refine ⟨fun h => absurd hr (by rw [h]; simp), fun j hj x dx => ?_⟩
   by_cases hji : j = i
   · subst hji
     exact hc.wpOp hi (hw.trans dx.dx) fun y dy => ⟨⟨fun _ => dy.dx, dy.dx⟩, H.up (dx.trans dy)⟩
   · have := ready_mono hj hji
     rw [H.1] at this
     cases this
 | succ fuel ih =>
   intro listed a w hcl hf hr hc hw H
   refine ⟨fun h => absurd hr (by rw [h]; simp), fun j hj x dx => ?_⟩
   by_cases hji : j = i
   · subst hji
     exact hc.wpOp hi (hw.trans dx.dx) fun y dy => ⟨⟨fun _ => dy.dx, dy.dx⟩, H.up (dx.trans dy)⟩
   · obtain ⟨hjun, oj, hoj, hall⟩ := mem_ready.1 hj
     have hno := no_wait (mem_ready.1 hr).1 hall
     refine wpOp_mono (fun a' y hy => ⟨hy.2.1, ih (listed.setIfInBounds j true) a' y (hcl.set hj) (fun k ok hk hki hun hn => hf k ok hk hki ?_ hn) (ready_mono hr (Ne.symm hji)) (hc.like hy.1) ((hw.trans dx.dx).trans ?_) ?_⟩)
       (swap hoj (hf j oj hoj hji hjun hno) (fun cs b => hsel i oi cs b hi) (fun cs b => hsel j oj cs b hoj) hQ (H.2 j (ready_mono hj hji) x dx))
     · by_cases hjk : j = k
       · subst hjk; exact hjun
       · rw [getD_set_ne true hjk] at hun; exact hun
     · rcases hl with rfl | ⟨rfl, hl⟩
       · exact hy.2.1.2
       · refine hy.2.1.1 fun hjL => ?_
         exact waitsN_ready hcl (mem_ready.1 hr).1 hj (List.all_eq_true.1 hl j hjL)
     · rw [Array.setIfInBounds_comm _ _ hji]
       exact hy.2.2
theorem wpY_picks {l : List Oper} (hs : Region.noSelect l.toArray = true) (hQ : ∀ c a d v w, Q (.panic c) (a.put d v) w → Q (.panic c) a w) {A : Act} {w : World} (hw : Dx cs w0 w) {fuel : Nat} :
   ∀ (is : List Nat) (listed : Array Bool) (a : Act), Closed md l.toArray listed → picksB md l.toArray is listed = true → (cs = bs ∨ (cs = [] ∧ is.all (apartB md l.toArray L) = true)) → wpCalx P l.toArray cs w0 A (pickL l is) a →
     wpY P md l.toArray Q bs L fuel (picked is listed) A w → wpY P md l.toArray Q bs L (fuel + is.length) listed a w
 | [], _, a, _, _, _, h, hF => by
   have h : a = A := h
   subst h; exact hF
 | i :: is, listed, a, hcl, hB, hL, h, hF => by
   simp only [picksB, Bool.and_eq_true, decide_eq_true_eq] at hB
   simp only [List.all_cons, Bool.and_eq_true] at hL
   obtain ⟨⟨⟨hl, hr⟩, hf⟩, hB⟩ := hB
   have hl' : i < l.length := by simpa using hl
   have e : pickL l (i :: is) = l[i] :: pickL l is := by
     simp only [pickL]
     rw [List.drop_eq_getElem_cons hl']
     rfl
   rw [e] at h
   obtain ⟨v, hc, hk⟩ := h
   have h0 : l.toArray[i]? = some l[i] := by simp [hl']
   exact wpY_first h0 (hL.imp_right fun h => ⟨h.1, h.2.1⟩) (Region.noSelect_spec hs) (fun c a w => hQ c a _ _ w) _ listed a w hcl (Region.free_spec h0 hf) (by simpa using hr) hc hw (wpY_picks hs hQ hw is _ _ (hcl.set (by simpa using hr)) hB (hL.imp_right fun h => ⟨h.1, h.2.2⟩) hk hF)
theorem Closed.picks {l : List Oper} : ∀ (is : List Nat) (listed : Array Bool), Closed md l.toArray listed → picksB md l.toArray is listed = true → Closed md l.toArray (picked is listed)
 | [], _, h, _ => h
 | i :: is, listed, h, hB => by
   simp only [picksB, Bool.and_eq_true, decide_eq_true_eq] at hB
   exact Closed.picks is _ (h.set (by simpa using hB.1.1.2)) hB.2
theorem wp_region_picksY {l : List Oper} {id : Nat} {a : Act} {w : World} (bs : List Nat) (L : List Nat) (is1 is2 : List Nat) (fuel : Nat) (hm : P.follows .mixedOrders = true) (hs : Region.noSelect l.toArray = true) (hl : l.length = fuel + is2.length + is1.length)
   (hB1 : picksB .any l.toArray is1 (Array.replicate l.length false) = true) (hB2 : picksB .any l.toArray is2 (picked is1 (Array.replicate l.length false)) = true) (hL : is2.all (apartB .any l.toArray L) = true)
   (h : ∃ A1, wpCalx P l.toArray bs w A1 (pickL l is1) a ∧ ∃ A, wpCalx P l.toArray [] w A (pickL l is2) A1 ∧ wpY P .any l.toArray (NoPanic Q) bs L fuel (picked is2 (picked is1 (Array.replicate l.length false))) A w.drew) : (Code.region id l.toArray true).wp P Q a w := by
 obtain ⟨A1, h1, A, h2, h3⟩ := h
 refine wp_region_noPanic (wp_region_any hm ?_)
 have c0 : Closed .any l.toArray (Array.replicate l.length false) := Closed.no _ rfl
 have h4 := wpY_picks (md := .any) (cs := []) (bs := bs) (L := L) hs (fun _ _ _ _ _ h => h) (Dn.dx (Dn.drawn w)) is2 _ A1 (Closed.picks is1 _ c0 hB1) hB2 (.inr ⟨rfl, hL⟩) h2 h3
 have h5 := wpY_picks (md := .any) (cs := bs) (bs := bs) (L := L) hs (fun _ _ _ _ _ h => h) (Dn.dx (Dn.drawn w)) is1 _ a c0 hB1 (.inl rfl) h1 h4
 rw [List.size_toArray]
 rw [← hl] at h5
 exact h5.any
theorem wpY_store (o : Nat) {k fuel : Nat} {listed : Array Bool} {a : Act} {w : World} {s t : TypeId} {x y : Operand} {ty : TypeId} {pos : String} {aft : Array Edge} {b : Nat} {cs : Array Value} {v : Value}
   (hk : ops[k]? = some ⟨none, .store s x y, ty, pos, aft, none⟩) (hr : Region.ready md ops listed = [k]) (hkL : L.contains k = true) (hb : b ∈ bs) (g : Blk w b t cs) (hi : (P.info? s).map (·.size) = some v.cells.size) (hz : o + v.cells.size ≤ cs.size) (h1 : v.cells.all (·.oneCell') = true)
   (hx : a.eval x = .pointer (some ⟨b, o, none⟩)) (hy : a.eval y = v)
   (h : ∀ u y, Dn w u → Trn b u y → Blk y b t (lay cs o v.cells) → wpY P md ops (NoPanic Q) bs L fuel (listed.setIfInBounds k true) a y) : wpY P md ops (NoPanic Q) bs L (fuel + 1) listed a w := by
 refine ⟨fun e => absurd e (by rw [hr]; simp), fun i hi' x dx => ?_⟩
 rw [hr] at hi'
 obtain rfl : i = k := by simpa using hi'
 unfold Go.wpOp
 simp only [hk]
 rw [if_pos (by rfl)]
 refine .inl ?_
 have st := run_storeVar_at (P := P) (s := s) o v (g.dn dx) hi hz h1
 unfold Oper.wp execOp
 simp only [hx, hy, Instr.storeAt, Instr.sureAddr, Sem.run_bind, Sem.run_pure, Result.andThen_ok, st]
 have tr := Trn.setRow x b (lay cs o v.cells)
 exact ⟨⟨fun e => absurd (by simpa using hkL) e, tr.dx hb⟩, h x _ dx tr (setRow_heap x b _ _ t _ (g.dn dx))⟩
theorem wpY_calm {k fuel : Nat} {listed : Array Bool} {a : Act} {w : World} {o : Oper} {v : Value} (hk : ops[k]? = some o) (hr : Region.ready md ops listed = [k]) (hc : Calx P ops bs w o v a)
   (h : ∀ y, Dn w y → wpY P md ops Q bs L fuel (listed.setIfInBounds k true) (a.put o.dst v) y) : wpY P md ops Q bs L (fuel + 1) listed a w := by
 refine ⟨fun e => absurd e (by rw [hr]; simp), fun i hi' x dx => ?_⟩
 rw [hr] at hi'
 obtain rfl : i = k := by simpa using hi'
 exact hc.wpOp hk dx.dx fun y dy => ⟨⟨fun _ => dy.dx, dy.dx⟩, h y (dx.trans dy)⟩
theorem wpY_end {listed : Array Bool} {a : Act} {w : World} (hr : Region.ready md ops listed = []) (h : ∀ z, Dn w z → Q .normal a z) : wpY P md ops (NoPanic Q) bs L 0 listed a w := ⟨hr, fun z dz => NoPanic.normal (h z dz)⟩
end
end Go.Proofs.YtclpdjpaaagkdaaGreatDoor
