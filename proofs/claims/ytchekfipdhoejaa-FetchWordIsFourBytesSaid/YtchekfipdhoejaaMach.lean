/-
  A whole machine in memory (33 cells: a processor, memory, time, console, halted), whole or in part, loaded and stored, with and without a drawn order: no statement of the program by itself.
-/
import Derived.Test.YtchekfipdhoejaaBlk
import Derived.Test.YtchekfipdhoejaaMemBase
import Derived.Test.YtchekfipdhoejaaCoreEq
import Derived.StillTailTactics
namespace Go.Proofs.Ytchekfipdhoejaa
open Go.ChangeShapes Go.WideShapes Go.ChangeAt Go.RowKit Go.Sort
set_option linter.unusedVariables false

/-- a machine: the words of its processor; its memory (place, capacity, bytes); its time; its console output (place, capacity, bytes); halted -/
structure Mc where
  c : List Int
  A : Option Addr
  k : Nat
  xs : List Int
  t : Int
  B : Option Addr
  q : Nat
  ys : List Int
  h : Bool
/-- its cells -/
def mach (m : Mc) : Array Value := ints .u32 m.c ++ #[.slice m.A m.xs.length m.k, .int .u64 m.t, .slice m.B m.ys.length m.q, .bool m.h]
/-- what a machine keeps in the memory w -/
structure Mc.Ok (w : World) (m : Mc) : Prop where
  core : M.Core m.c
  mem : Bs w m.A m.k m.xs
  out : Bs w m.B m.q m.ys
  t0 : 0 ≤ m.t
  t1 : m.t < 18446744073709551616
theorem Mc.Ok.dn {w w' : World} {m : Mc} (h : m.Ok w) (d : Dn w w') : m.Ok w' := ⟨h.core, h.mem.dn d, h.out.dn d, h.t0, h.t1⟩
theorem Mc.Ok.len {w : World} {m : Mc} (h : m.Ok w) : m.c.length = 29 := h.core.len
/-- the new machine -/
def Mc.zero : Mc := ⟨zeros 29, none, 0, [], 0, none, 0, [], false⟩
theorem zlen : Mc.zero.c.length = 29 := rfl
theorem size3 (w : World) (o p q : Obj) : (((w.alloc o).alloc p).alloc q).heap.size = w.heap.size + 1 + 1 + 1 := by simp
theorem bs_nil (w : World) : Bs w none 0 [] := ⟨Nat.le_refl _, fun x hx => absurd hx (by simp), fun hx => absurd rfl hx⟩
theorem Mc.zero_ok (w : World) : Mc.zero.Ok w := ⟨M.core_zero, bs_nil w, bs_nil w, by decide, by decide⟩
theorem mach_size {m : Mc} (h : m.c.length = 29) : (mach m).size = 33 := by simp [mach, ints_size, h]
theorem mach_one (m : Mc) : (mach m).all (·.oneCell') = true := by
  have h := ints_one .u32 m.c
  rw [Array.all_eq_true_iff_forall_mem] at h ⊢
  intro x hx
  unfold mach at hx
  rcases Array.mem_append.1 hx with hx | hx
  · exact h x hx
  · simp at hx
    rcases hx with rfl | rfl | rfl | rfl <;> rfl
theorem mach_word {m : Mc} (h : m.c.length = 29) {i : Nat} (hi : i < 29) : (mach m)[i]? = some (.int .u32 (m.c.getD i 0)) := by
  unfold mach
  rw [Array.getElem?_append, ints_size, if_pos (by omega), ints_get _ _ _ (by omega)]
theorem mach_tail {m : Mc} (h : m.c.length = 29) {i : Nat} (hi : i < 4) : (mach m)[29 + i]? = (#[.slice m.A m.xs.length m.k, .int .u64 m.t, .slice m.B m.ys.length m.q, .bool m.h] : Array Value)[i]? := by
  unfold mach
  rw [Array.getElem?_append, ints_size, if_neg (by omega), h, Nat.add_sub_cancel_left]
theorem mach_core {m : Mc} (h : m.c.length = 29) : (mach m).extract 0 (0 + 29) = ints .u32 m.c := by
  unfold mach
  have e : (0 + 29) = (ints .u32 m.c).size := by rw [ints_size, h]
  rw [e]
  simp
theorem mach_csr {m : Mc} (h : m.c.length = 29) : (mach m).extract 17 (17 + 12) = ints .u32 (m.c.drop 17) := by
  apply Array.toList_inj.1
  simp [mach, ints, List.map_drop]
  rw [List.take_of_length_le (by simp; omega), h]
  simp
theorem mach_set {m : Mc} (h : m.c.length = 29) {i : Nat} (hi : i < 29) (u : Int) : (mach m).setIfInBounds i (.int .u32 u) = mach { m with c := m.c.set i u } := by
  unfold mach
  rw [Array.setIfInBounds_append_left (by rw [ints_size, h]; exact hi), ints_set]
theorem mach_put {m : Mc} (h : m.c.length = 29) (v : Value) (i : Nat) (hi : i < 4) : (mach m).setIfInBounds (29 + i) v = ints .u32 m.c ++ (#[.slice m.A m.xs.length m.k, .int .u64 m.t, .slice m.B m.ys.length m.q, .bool m.h] : Array Value).setIfInBounds i v := by
  unfold mach
  rw [Array.setIfInBounds_append_right (by rw [ints_size, h]; omega), ints_size, h, Nat.add_sub_cancel_left]

section
variable {w : World} {b : Nat} {m : Mc} {t : TypeId}
theorem Blk.word (g : Blk w b t (mach m)) (h : m.c.length = 29) (i : Nat) (hi : decide (i < 29) = true) : w.cell? ⟨b, i, none⟩ = some (.int .u32 (m.c.getD i 0)) := g.cell (mach_word h (of_decide_eq_true hi))
theorem Blk.mem (g : Blk w b t (mach m)) (h : m.c.length = 29) : w.cell? ⟨b, 29, none⟩ = some (.slice m.A m.xs.length m.k) := g.cell (mach_tail h (i := 0) (by decide))
theorem Blk.time (g : Blk w b t (mach m)) (h : m.c.length = 29) : w.cell? ⟨b, 30, none⟩ = some (.int .u64 m.t) := g.cell (mach_tail h (i := 1) (by decide))
theorem Blk.out (g : Blk w b t (mach m)) (h : m.c.length = 29) : w.cell? ⟨b, 31, none⟩ = some (.slice m.B m.ys.length m.q) := g.cell (mach_tail h (i := 2) (by decide))
theorem Blk.halted (g : Blk w b t (mach m)) (h : m.c.length = 29) : w.cell? ⟨b, 32, none⟩ = some (.bool m.h) := g.cell (mach_tail h (i := 3) (by decide))
end

theorem info33 : (Try.prog.info? 30).map (·.size) = some 33 := by kernel_rfl
theorem info_mach {m : Mc} (h : m.c.length = 29) : (Try.prog.info? 30).map (·.size) = some (mach m).size := by rw [mach_size h]; exact info33
theorem infoSl : (Try.prog.info? 27).map (·.size) = some 1 := by kernel_rfl
theorem infoU64 : (Try.prog.info? 28).map (·.size) = some 1 := by kernel_rfl
theorem infoBool : (Try.prog.info? 4).map (·.size) = some 1 := by kernel_rfl
theorem infoW : (Try.prog.info? 22).map (·.size) = some 1 := by kernel_rfl
theorem zero33 : (Try.prog.info? 30).map (fun i => (i.zero, i.size)) = some (some (.agg (mach Mc.zero)), 33) := by kernel_rfl

section
variable {P : Program} {ops : Array Oper} {rest : List Oper} {dst : Option Tmp} {x y : Operand} {ty : TypeId} {pos : String} {aft : Array Edge} {gd : Option (Nat × Bool)} {a : Act} {w : World} {Q : Exit → Act → World → Prop} {t s : TypeId} {b : Nat} {cs vs : Array Value} {d : TypeDesc} {K : Act → Prop}
/-- a part of a block is loaded -/
theorem run_loadVar_cut (r : Blk w b t cs) (o n : Nat) (hv : cs.extract o (o + n) = vs) (hn : vs.size = n) (hu : P.underlying s = some d) (hd : d.isRow = true) (hi : (P.info? s).map (·.size) = some n) :
    (loadVar s ⟨b, o, none⟩).run P w = .ok (.agg vs) w := by
  have hr := World.rangeAt_of_block (C := cs) r o n
  rw [hv] at hr
  have h := run_loadVar_mid w b o s _ d hr hu hd (by rw [hi, Array.length_toList, hn])
  rwa [Array.toArray_toList] at h
theorem wpList_load_cut (r : Blk w b t cs) (o n : Nat) (hv : cs.extract o (o + n) = vs) (hn : vs.size = n) (hu : P.underlying s = some d) (hd : d.isRow = true) (hi : (P.info? s).map (·.size) = some n)
    (hw : Region.wanted ⟨dst, .load s x, ty, pos, aft, gd⟩ (yielded ops a.tmps) = true) (hx : a.eval x = .pointer (some ⟨b, o, none⟩))
    (h : wpList P ops Q rest (a.put dst (.agg vs)) w) : wpList P ops Q (⟨dst, .load s x, ty, pos, aft, gd⟩ :: rest) a w := by
  unfold wpList
  rw [if_pos hw]
  refine .inl ?_
  unfold Oper.wp execOp
  simp only [hx, Instr.loadAt, Instr.sureAddr, Sem.run_bind, Sem.run_pure, Result.andThen_ok, run_loadVar_cut r o n hv hn hu hd hi]
  exact h
theorem quiet_cut (r : Blk w b t cs) (o n : Nat) (hv : cs.extract o (o + n) = vs) (hn : vs.size = n) (hu : P.underlying s = some d) (hd : d.isRow = true) (hi : (P.info? s).map (·.size) = some n) (hx : a.eval x = .pointer (some ⟨b, o, none⟩)) (h : K (a.put dst (.agg vs))) :
    Oper.quiet P ⟨dst, .load s x, ty, pos, aft, gd⟩ a (Later w) K := by
  refine ⟨_, fun w' hw' => ?_, h⟩
  have r' := r.later w' hw'
  unfold Oper.quietAt execOp
  simp only [hx, Instr.loadAt, Instr.sureAddr, Sem.run_bind, Sem.run_pure, Result.andThen_ok, run_loadVar_cut r' o n hv hn hu hd hi]
  exact ⟨rfl, rfl⟩
/-- one cell is stored -/
theorem wpList_store_cell (o : Nat) (v : Value) (hv : v.cells = #[v]) (hb : Blk w b t cs) (hi : (P.info? s).map (·.size) = some 1) (ho : o < cs.size) (h1 : v.oneCell' = true)
    (hw : Region.wanted ⟨none, .store s x y, ty, pos, aft, gd⟩ (yielded ops a.tmps) = true) (hx : a.eval x = .pointer (some ⟨b, o, none⟩)) (hy : a.eval y = v)
    (h : ∀ w', Blk w' b t (cs.setIfInBounds o v) → Trn b w w' → wpList P ops Q rest a w') : wpList P ops Q (⟨none, .store s x y, ty, pos, aft, gd⟩ :: rest) a w := by
  refine wpList_store_at o v hb (by rw [hv]; exact hi) (by rw [hv]; simp; omega) (by rw [hv]; simp [h1]) hw hx hy fun w' hb' ht => h w' ?_ ht
  rwa [hv, lay_one _ _ _ ho] at hb'
end

section
variable {ops : Array Oper} {rest : List Oper} {dst : Option Tmp} {x y : Operand} {ty : TypeId} {pos : String} {aft : Array Edge} {gd : Option (Nat × Bool)} {a : Act} {w : World} {Q : Exit → Act → World → Prop} {b : Nat} {m : Mc}
/-- a machine is loaded -/
theorem load33 (r : Blk w b 30 (mach m)) (hl : m.c.length = 29) (hw : Region.wanted ⟨dst, .load 30 x, ty, pos, aft, gd⟩ (yielded ops a.tmps) = true) (hx : a.eval x = .pointer (some ⟨b, 0, none⟩))
    (h : wpList Try.prog ops Q rest (a.put dst (.agg (mach m))) w) : wpList Try.prog ops Q (⟨dst, .load 30 x, ty, pos, aft, gd⟩ :: rest) a w :=
  wpList_load_whole r Try.underlying30 rfl (info_mach hl) hw hx h
/-- its processor -/
theorem loadCore (r : Blk w b 30 (mach m)) (hl : m.c.length = 29) (hw : Region.wanted ⟨dst, .load 26 x, ty, pos, aft, gd⟩ (yielded ops a.tmps) = true) (hx : a.eval x = .pointer (some ⟨b, 0, none⟩))
    (h : wpList Try.prog ops Q rest (a.put dst (.agg (ints .u32 m.c))) w) : wpList Try.prog ops Q (⟨dst, .load 26 x, ty, pos, aft, gd⟩ :: rest) a w :=
  wpList_load_cut r 0 29 (mach_core hl) (by rw [ints_size, hl]) Try.underlying26 rfl info29 hw hx h
/-- its control registers -/
theorem loadCsr (r : Blk w b 30 (mach m)) (hl : m.c.length = 29) (hw : Region.wanted ⟨dst, .load 24 x, ty, pos, aft, gd⟩ (yielded ops a.tmps) = true) (hx : a.eval x = .pointer (some ⟨b, 17, none⟩))
    (h : wpList Try.prog ops Q rest (a.put dst (.agg (ints .u32 (m.c.drop 17)))) w) : wpList Try.prog ops Q (⟨dst, .load 24 x, ty, pos, aft, gd⟩ :: rest) a w :=
  wpList_load_cut r 17 12 (mach_csr hl) (by rw [ints_size, List.length_drop, hl]) Try.underlying24 rfl info12 hw hx h
/-- a new variable of a machine -/
theorem alloc33 (hb : w.heap.size = b) (hw : Region.wanted ⟨dst, .alloc 30, ty, pos, aft, gd⟩ (yielded ops a.tmps) = true)
    (h : wpList Try.prog ops Q rest (a.put dst (.pointer (some ⟨b, 0, none⟩))) (w.alloc (.cells (mach Mc.zero) 30))) :
    wpList Try.prog ops Q (⟨dst, .alloc 30, ty, pos, aft, gd⟩ :: rest) a w := by
  subst hb
  have hz1 := (zero_of_info zero33).1
  unfold wpList
  rw [if_pos hw]
  refine .inl ?_
  unfold Oper.wp execOp
  simp only [Instr.alloc, Sem.run_bind, hz1, Result.andThen_ok]
  simp only [newVar, newRow, Value.cells, go_sem]
  exact h
/-- a machine is stored -/
theorem store33 (n : Mc) (hn : n.c.length = 29) (r : Blk w b 30 (mach m)) (hl : m.c.length = 29)
    (hw : Region.wanted ⟨none, .store 30 x y, ty, pos, aft, gd⟩ (yielded ops a.tmps) = true) (hx : a.eval x = .pointer (some ⟨b, 0, none⟩)) (hy : a.eval y = .agg (mach n))
    (h : ∀ w', Blk w' b 30 (mach n) → Trn b w w' → wpList Try.prog ops Q rest a w') : wpList Try.prog ops Q (⟨none, .store 30 x y, ty, pos, aft, gd⟩ :: rest) a w :=
  wpList_store_whole (mach n) r (info_mach hn) (by rw [mach_size hl, mach_size hn]) (mach_one n) hw hx hy h
/-- a word is stored into a machine's processor -/
theorem storeWord {i : Nat} {u : Int} (r : Blk w b 30 (mach m)) (hl : m.c.length = 29)
    (hw : Region.wanted ⟨none, .store 22 x y, ty, pos, aft, gd⟩ (yielded ops a.tmps) = true) (hx : a.eval x = .pointer (some ⟨b, i, none⟩)) (hy : a.eval y = .int .u32 u) (hi : decide (i < 29) = true)
    (h : ∀ w', Blk w' b 30 (mach { m with c := m.c.set i u }) → Trn b w w' → wpList Try.prog ops Q rest a w') : wpList Try.prog ops Q (⟨none, .store 22 x y, ty, pos, aft, gd⟩ :: rest) a w := by
  have hi := of_decide_eq_true hi
  refine wpList_store_cell i (.int .u32 u) rfl r infoW (by rw [mach_size hl]; omega) rfl hw hx hy fun w' r' t' => h w' ?_ t'
  rwa [mach_set hl hi] at r'
/-- the memory is stored -/
theorem storeMem {A' : Option Addr} {k' n' : Nat} {zs : List Int} (r : Blk w b 30 (mach m)) (hl : m.c.length = 29) (hz : n' = zs.length)
    (hw : Region.wanted ⟨none, .store 27 x y, ty, pos, aft, gd⟩ (yielded ops a.tmps) = true) (hx : a.eval x = .pointer (some ⟨b, 29, none⟩)) (hy : a.eval y = .slice A' n' k')
    (h : ∀ w', Blk w' b 30 (mach { m with A := A', k := k', xs := zs }) → Trn b w w' → wpList Try.prog ops Q rest a w') : wpList Try.prog ops Q (⟨none, .store 27 x y, ty, pos, aft, gd⟩ :: rest) a w := by
  subst hz
  refine wpList_store_cell 29 (.slice A' zs.length k') rfl r infoSl (by rw [mach_size hl]; omega) rfl hw hx hy fun w' r' t' => h w' ?_ t'
  rwa [mach_put hl _ 0 (by decide)] at r'
/-- the time is stored -/
theorem storeTime {u : Int} (r : Blk w b 30 (mach m)) (hl : m.c.length = 29)
    (hw : Region.wanted ⟨none, .store 28 x y, ty, pos, aft, gd⟩ (yielded ops a.tmps) = true) (hx : a.eval x = .pointer (some ⟨b, 30, none⟩)) (hy : a.eval y = .int .u64 u)
    (h : ∀ w', Blk w' b 30 (mach { m with t := u }) → Trn b w w' → wpList Try.prog ops Q rest a w') : wpList Try.prog ops Q (⟨none, .store 28 x y, ty, pos, aft, gd⟩ :: rest) a w := by
  refine wpList_store_cell 30 (.int .u64 u) rfl r infoU64 (by rw [mach_size hl]; omega) rfl hw hx hy fun w' r' t' => h w' ?_ t'
  rwa [mach_put hl _ 1 (by decide)] at r'
/-- halted is stored -/
theorem storeHalted {u : Bool} (r : Blk w b 30 (mach m)) (hl : m.c.length = 29)
    (hw : Region.wanted ⟨none, .store 4 x y, ty, pos, aft, gd⟩ (yielded ops a.tmps) = true) (hx : a.eval x = .pointer (some ⟨b, 32, none⟩)) (hy : a.eval y = .bool u)
    (h : ∀ w', Blk w' b 30 (mach { m with h := u }) → Trn b w w' → wpList Try.prog ops Q rest a w') : wpList Try.prog ops Q (⟨none, .store 4 x y, ty, pos, aft, gd⟩ :: rest) a w := by
  refine wpList_store_cell 32 (.bool u) rfl r infoBool (by rw [mach_size hl]; omega) rfl hw hx hy fun w' r' t' => h w' ?_ t'
  rwa [mach_put hl _ 3 (by decide)] at r'
/-- the console output is stored -/
theorem storeOut {B' : Option Addr} {q' n' : Nat} {zs : List Int} (r : Blk w b 30 (mach m)) (hl : m.c.length = 29) (hz : n' = zs.length)
    (hw : Region.wanted ⟨none, .store 27 x y, ty, pos, aft, gd⟩ (yielded ops a.tmps) = true) (hx : a.eval x = .pointer (some ⟨b, 31, none⟩)) (hy : a.eval y = .slice B' n' q')
    (h : ∀ w', Blk w' b 30 (mach { m with B := B', q := q', ys := zs }) → Trn b w w' → wpList Try.prog ops Q rest a w') : wpList Try.prog ops Q (⟨none, .store 27 x y, ty, pos, aft, gd⟩ :: rest) a w := by
  subst hz
  refine wpList_store_cell 31 (.slice B' zs.length q') rfl r infoSl (by rw [mach_size hl]; omega) rfl hw hx hy fun w' r' t' => h w' ?_ t'
  rwa [mach_put hl _ 2 (by decide)] at r'
end

section
variable {dst : Option Tmp} {x y : Operand} {ty : TypeId} {pos : String} {aft : Array Edge} {gd : Option (Nat × Bool)} {a : Act} {w : World} {b : Nat} {m : Mc} {K : Act → Prop}
theorem qop33 (r : Blk w b 30 (mach m)) (hl : m.c.length = 29) (hx : a.eval x = .pointer (some ⟨b, 0, none⟩)) (h : K (a.put dst (.agg (mach m)))) : Oper.quiet Try.prog ⟨dst, .load 30 x, ty, pos, aft, gd⟩ a (Later w) K :=
  quiet_whole r Try.underlying30 rfl (info_mach hl) hx h
theorem qopCore (r : Blk w b 30 (mach m)) (hl : m.c.length = 29) (hx : a.eval x = .pointer (some ⟨b, 0, none⟩)) (h : K (a.put dst (.agg (ints .u32 m.c)))) : Oper.quiet Try.prog ⟨dst, .load 26 x, ty, pos, aft, gd⟩ a (Later w) K :=
  quiet_cut r 0 29 (mach_core hl) (by rw [ints_size, hl]) Try.underlying26 rfl info29 hx h
theorem qopCsr (r : Blk w b 30 (mach m)) (hl : m.c.length = 29) (hx : a.eval x = .pointer (some ⟨b, 17, none⟩)) (h : K (a.put dst (.agg (ints .u32 (m.c.drop 17))))) : Oper.quiet Try.prog ⟨dst, .load 24 x, ty, pos, aft, gd⟩ a (Later w) K :=
  quiet_cut r 17 12 (mach_csr hl) (by rw [ints_size, List.length_drop, hl]) Try.underlying24 rfl info12 hx h
end
section
variable {P : Program} {ops : Array Oper} {rest : List Oper} {dst : Option Tmp} {x : Operand} {ty : TypeId} {pos : String} {aft : Array Edge} {gd : Option (Nat × Bool)} {a : Act} {w : World} {Q : Act → Prop} {b : Nat} {t s : TypeId} {cs vs : Array Value} {d : TypeDesc} {m : Mc} {k v : Int}
/-- a part of a block is loaded where the order is drawn and a chain of operations follows -/
theorem still_cut (r : Blk w b t cs) (o n : Nat) (hv : cs.extract o (o + n) = vs) (hn : vs.size = n) (hu : P.underlying s = some d) (hd : d.isRow = true) (hi : (P.info? s).map (·.size) = some n) (hw : Region.wanted ⟨dst, .load s x, ty, pos, aft, gd⟩ (yielded ops a.tmps) = true) (hx : a.eval x = .pointer (some ⟨b, o, none⟩))
    (h : wpStill P ops w Q rest (a.put dst (.agg vs))) : wpStill P ops w Q (⟨dst, .load s x, ty, pos, aft, gd⟩ :: rest) a := by
  unfold wpStill
  rw [if_pos hw]
  unfold Oper.still execOp
  simp only [hx, Instr.loadAt, Instr.sureAddr, Sem.run_bind, Sem.run_pure, Result.andThen_ok, run_loadVar_cut r o n hv hn hu hd hi]
  exact ⟨rfl, h⟩
theorem stillTrap (g : Blk w b 35 #[.int .i64 k, .int .u32 v]) (hw : Region.wanted ⟨dst, .load 35 x, ty, pos, aft, gd⟩ (yielded ops a.tmps) = true) (hx : a.eval x = .pointer (some ⟨b, 0, none⟩))
    (h : wpStill Try.prog ops w Q rest (a.put dst (.agg #[.int .i64 k, .int .u32 v]))) : wpStill Try.prog ops w Q (⟨dst, .load 35 x, ty, pos, aft, gd⟩ :: rest) a :=
  still_cut g 0 2 (by simp) rfl Try.underlying35 rfl infoTrap hw hx h
theorem still33 (r : Blk w b 30 (mach m)) (hl : m.c.length = 29) (hw : Region.wanted ⟨dst, .load 30 x, ty, pos, aft, gd⟩ (yielded ops a.tmps) = true) (hx : a.eval x = .pointer (some ⟨b, 0, none⟩))
    (h : wpStill Try.prog ops w Q rest (a.put dst (.agg (mach m)))) : wpStill Try.prog ops w Q (⟨dst, .load 30 x, ty, pos, aft, gd⟩ :: rest) a :=
  still_cut r 0 33 (by rw [← mach_size hl]; simp) (mach_size hl) Try.underlying30 rfl info33 hw hx h
theorem stillCore (r : Blk w b 30 (mach m)) (hl : m.c.length = 29) (hw : Region.wanted ⟨dst, .load 26 x, ty, pos, aft, gd⟩ (yielded ops a.tmps) = true) (hx : a.eval x = .pointer (some ⟨b, 0, none⟩))
    (h : wpStill Try.prog ops w Q rest (a.put dst (.agg (ints .u32 m.c)))) : wpStill Try.prog ops w Q (⟨dst, .load 26 x, ty, pos, aft, gd⟩ :: rest) a :=
  still_cut r 0 29 (mach_core hl) (by rw [ints_size, hl]) Try.underlying26 rfl info29 hw hx h
theorem stillCsr (r : Blk w b 30 (mach m)) (hl : m.c.length = 29) (hw : Region.wanted ⟨dst, .load 24 x, ty, pos, aft, gd⟩ (yielded ops a.tmps) = true) (hx : a.eval x = .pointer (some ⟨b, 17, none⟩))
    (h : wpStill Try.prog ops w Q rest (a.put dst (.agg (ints .u32 (m.c.drop 17))))) : wpStill Try.prog ops w Q (⟨dst, .load 24 x, ty, pos, aft, gd⟩ :: rest) a :=
  still_cut r 17 12 (mach_csr hl) (by rw [ints_size, List.length_drop, hl]) Try.underlying24 rfl info12 hw hx h
end
/-- no byte is among these cells -/
def NoU8 (cs : Array Value) : Prop := ∀ (i : Nat) (x : Int), cs[i]? ≠ some (.int .u8 x)
theorem NoU8.mach (m : Mc) : NoU8 (mach m) := by
  intro i x h
  have h1 := Array.mem_of_getElem? h
  unfold Go.Proofs.Ytchekfipdhoejaa.mach at h1
  rcases Array.mem_append.1 h1 with h1 | h1
  · simp [ints] at h1
  · simp at h1
theorem NoU8.ints32 (c : List Int) : NoU8 (ints .u32 c) := by
  intro i x h
  have h1 := Array.mem_of_getElem? h
  simp [ints] at h1
theorem NoU8.trap (k v : Int) : NoU8 #[.int .i64 k, .int .u32 v] := by
  intro i x h
  have h1 := Array.mem_of_getElem? h
  simp at h1
/-- bytes lie apart from a block that holds none -/
theorem Bs.trn {w w' : World} {A : Option Addr} {c b : Nat} {xs : List Int} {t : TypeId} {cs : Array Value} (h : Bs w A c xs) (g : Blk w b t cs) (n : NoU8 cs) (e : Trn b w w') : Bs w' A c xs := by
  refine ⟨h.1, h.2.1, fun hx => ?_⟩
  obtain ⟨ad, ea, hb, hc⟩ := h.2.2 hx
  have hne : ad.block ≠ b := by
    intro hab
    obtain ⟨x, r, rfl⟩ := List.exists_cons_of_ne_nil hx
    have h0 := hc 0 x rfl
    have hbk : (ad.add 0).block = b := by rw [block_add]; exact hab
    unfold World.cell? at h0
    rw [hbk, g] at h0
    simp only at h0
    split at h0
    · cases h0
    · exact n _ _ h0
  refine ⟨ad, ea, by rw [e.size]; exact hb, fun j x hj => ?_⟩
  have h1 := hc j x hj
  unfold World.cell? at h1 ⊢
  rw [e.block _ (by rw [block_add]; exact hne)]
  exact h1
theorem Mc.Ok.trn {w w' : World} {m : Mc} {b : Nat} {t : TypeId} {cs : Array Value} (h : m.Ok w) (g : Blk w b t cs) (n : NoU8 cs) (e : Trn b w w') : m.Ok w' := ⟨h.core, h.mem.trn g n e, h.out.trn g n e, h.t0, h.t1⟩
/-- the blocks of a call with one machine -/
theorem box33 (W : World) (m : Mc) (t : TypeId) : ∃ w b0, w = W.alloc (.cells (mach m) t) ∧ b0 = W.heap.size ∧ Blk w b0 t (mach m) ∧ W.heap.size ≤ b0 ∧ Dn W w :=
  ⟨_, _, rfl, rfl, Blk.new W t _, Nat.le_refl _, (Dn.refl W).alloc _⟩
/-- a new block -/
theorem new_blk (w : World) (t : TypeId) (cs : Array Value) : ∃ w' b, w' = w.alloc (.cells cs t) ∧ b = w.heap.size ∧ Blk w' b t cs ∧ Dn w w' ∧ ∀ g, g < w.heap.size → g ≠ b :=
  ⟨_, _, rfl, rfl, Blk.new w t _, (Dn.refl w).alloc _, fun g hg => Nat.ne_of_lt hg⟩
end Go.Proofs.Ytchekfipdhoejaa
