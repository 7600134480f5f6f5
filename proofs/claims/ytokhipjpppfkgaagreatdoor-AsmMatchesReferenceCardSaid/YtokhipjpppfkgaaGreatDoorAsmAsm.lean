/-
  What Assemble of package asm returns when called: contracts over the translated program. Conditions: the package variables hold what the program's text lays there; the string is not longer than a hundred thousand bytes.
-/
import Derived.Test.YtokhipjpppfkgaaGreatDoorAsmLines
import Derived.RangeFuncNested
import Derived.Maps.AppendAt
namespace Go.Proofs.YtokhipjpppfkgaaGreatDoor
open Go.ChangeShapes Go.WideShapes Go.ChangeAt Go.RowKit Go.Sort Go.Shelf
set_option linter.unusedVariables false

attribute [local go_sem] Oper.semAt_some

theorem infoU32 : (Tryz.prog.info? 45).map (fun i => (i.zero, i.size, i.bytes)) = some (some (.int .u32 0), 1, 4) := by kernel_rfl

/-- the lines of a list of words -/
def gd (x : Int) : List UInt8 × Bool := (M.lineT x, true)
def Rng (xs : List Int) : Prop := ∀ x ∈ xs, 0 ≤ x ∧ x < 4294967296
def Bad (y : List UInt8 × Bool) : Prop := ¬ (y.2 = true ∧ IsLine y.1)

def AsmRet (W : World) (s : List UInt8) (e : Ending) (W' : World) : Prop :=
  ((∃ xs v, Rng xs ∧ M.ln s = xs.map gd ∧ e = .returned (.tuple #[v, .int .i64 0, .int .i64 0]) ∧ W'.ownsRow W.heap.size 45 1 v xs.length (xs.map (Value.int .u32))) ∨
   (∃ xs y rest, Rng xs ∧ M.ln s = xs.map gd ++ y :: rest ∧ Bad y ∧ e = .returned (.tuple #[.slice none 0 0, .int .i64 2, .int .i64 (xs.length : Nat)]))) ∧ Dn W W'

theorem linesF_len : ∀ (n : Nat) (s : List UInt8), (M.linesF n s).length ≤ n
  | 0, s => by simp [M.linesF]
  | n + 1, s => by
    unfold M.linesF
    split
    · simp
    · have := linesF_len n (Lib.cut s [10]).2.1
      simp; omega
theorem ln_len (s : List UInt8) : (M.ln s).length ≤ s.length := linesF_len _ _

theorem Boxed.dn {W W' : World} {B : Nat} {t : TypeId} {v : Value} (h : Boxed W B t v) (k : Dn W W') : Boxed W' B t v := (k.block B h.lt).trans h
theorem own_dn {W W' : World} {base : Nat} {e : TypeId} {size n : Nat} {v : Value} {xs : List Value} (h : W.ownsRow base e size v n xs) (k : Dn W W') : W'.ownsRow base e size v n xs :=
  h.kept (row := none) ⟨k.os, k.tape, k.output, k.size, fun i hi _ => k.block i hi⟩ (by
    cases hv : v.ownBlock with
    | none => exact .inl rfl
    | some x => exact .inr (by simp))
theorem keepsO_dn {W W' : World} (k : Dn W W') : KeepsOthers W W' := ⟨k.size, fun i o hi _ => (k.block i (Array.getElem?_eq_some_iff.1 hi).1).trans hi⟩

/-- the memory of Assemble between two rounds -/
structure AI (w : World) (xs : List Int) (W : World) : Prop where
  b1 : Boxed W w.heap.size 24 (.slice none 0 0)
  b2 : Boxed W (w.heap.size + 1) 26 (.int .i64 0)
  b3 : Boxed W (w.heap.size + 1 + 1) 3 (.int .i64 0)
  row : ∃ v, Boxed W (w.heap.size + 1 + 1 + 1) 24 v ∧ W.ownsRow w.heap.size 45 1 v xs.length (xs.map (Value.int .u32))
  below : Below w.heap.size w W

/-- .. and where a round has left -/
structure AX (w : World) (n : Nat) (W : World) : Prop where
  b1 : Boxed W w.heap.size 24 (.slice none 0 0)
  b2 : Boxed W (w.heap.size + 1) 26 (.int .i64 2)
  b3 : Boxed W (w.heap.size + 1 + 1) 3 (.int .i64 (n : Nat))
  below : Below w.heap.size w W

theorem AI.dn {w : World} {xs : List Int} {W W' : World} (h : AI w xs W) (k : Dn W W') : AI w xs W' := by
  obtain ⟨v, hv, hr⟩ := h.row
  exact ⟨Boxed.dn h.b1 k, Boxed.dn h.b2 k, Boxed.dn h.b3 k, ⟨v, Boxed.dn hv k, own_dn hr k⟩, Below.trans h.below (Below.mono k h.below.size)⟩

theorem boxed_keep {W W' : World} {row : Option Nat} {B : Nat} {t : TypeId} {v : Value} (h : Boxed W B t v) (hg : W.grownBy W' row) (hr : ∀ r, row = some r → ∃ o : Obj, W.heap[r]? = some o ∧ o.isCells = false) : Boxed W' B t v :=
  h.kept hg (fun e => by
    obtain ⟨o, ho, hc⟩ := hr B e.symm
    rw [show W.heap[B]? = _ from h] at ho
    cases ho
    cases hc)

theorem below_keep {w W W' : World} {row : Option Nat} {n₀ B : Nat} (h : Below n₀ w W) (hg : W.grownBy W' row) (hn : n₀ ≤ W.heap.size) (hB : n₀ ≤ B) (hr : ∀ r, row = some r → B ≤ r) : Below n₀ w W' :=
  Below.grown h hg hn (fun k hk => Nat.le_trans hB (hr k hk))

theorem AI.own {w : World} {B : Nat} (hB : w.heap.size ≤ B) {xs : List Int} {W W' : World} {row : Option Nat} (h : AI w xs W) (hg : W.grownBy W' row) (hr : ∀ r, row = some r → B ≤ r ∧ ∃ o : Obj, W.heap[r]? = some o ∧ o.isCells = false) : AI w xs W' := by
  have hr2 := fun r e => (hr r e).2
  have hrow := (holdsRow_own w.heap.size (w.heap.size + 1 + 1 + 1) 24 45 1 (fun _ : Unit => xs.length) (fun _ => xs.map (Value.int .u32)) (fun _ _ => True)) () W W' row (h.row.imp fun v hv => ⟨hv.1, hv.2, trivial⟩) hg hr2
  exact ⟨boxed_keep h.b1 hg hr2, boxed_keep h.b2 hg hr2, boxed_keep h.b3 hg hr2, hrow.imp fun v hv => ⟨hv.1, hv.2.1⟩, below_keep h.below hg h.below.size hB (fun r e => (hr r e).1)⟩

theorem AX.own {w : World} {B : Nat} (hB : w.heap.size ≤ B) {n : Nat} {W W' : World} {row : Option Nat} (h : AX w n W) (hg : W.grownBy W' row) (hr : ∀ r, row = some r → B ≤ r ∧ ∃ o : Obj, W.heap[r]? = some o ∧ o.isCells = false) : AX w n W' := by
  have hr2 := fun r e => (hr r e).2
  exact ⟨boxed_keep h.b1 hg hr2, boxed_keep h.b2 hg hr2, boxed_keep h.b3 hg hr2, below_keep h.below hg h.below.size hB (fun r e => (hr r e).1)⟩

theorem own_form {W : World} {base : Nat} {e : TypeId} {size : Nat} {v : Value} {k : Nat} {xs : List Value} (h : W.ownsRow base e size v k xs) : ∃ A cp, v = .slice A k cp := by
  rcases h.2 with ⟨rfl, rfl⟩ | ⟨g, cap, _, rfl, _⟩
  · exact ⟨none, 0, rfl⟩
  · exact ⟨_, cap, rfl⟩

/-- three boxes, each written -/
theorem three {w W : World} {t1 t2 t3 : TypeId} {a1 a2 a3 : Value} (u1 u2 u3 : Value) (h1 : Boxed W w.heap.size t1 a1) (h2 : Boxed W (w.heap.size + 1) t2 a2) (h3 : Boxed W (w.heap.size + 1 + 1) t3 a3) (hb : Below w.heap.size w W) :
    Boxed (((W.setCell ⟨w.heap.size, 0, none⟩ u1).setCell ⟨w.heap.size + 1, 0, none⟩ u2).setCell ⟨w.heap.size + 1 + 1, 0, none⟩ u3) w.heap.size t1 u1 ∧ Boxed (((W.setCell ⟨w.heap.size, 0, none⟩ u1).setCell ⟨w.heap.size + 1, 0, none⟩ u2).setCell ⟨w.heap.size + 1 + 1, 0, none⟩ u3) (w.heap.size + 1) t2 u2 ∧
      Boxed (((W.setCell ⟨w.heap.size, 0, none⟩ u1).setCell ⟨w.heap.size + 1, 0, none⟩ u2).setCell ⟨w.heap.size + 1 + 1, 0, none⟩ u3) (w.heap.size + 1 + 1) t3 u3 ∧ Below w.heap.size w (((W.setCell ⟨w.heap.size, 0, none⟩ u1).setCell ⟨w.heap.size + 1, 0, none⟩ u2).setCell ⟨w.heap.size + 1 + 1, 0, none⟩ u3) := by
  have x1 := Boxed.set u1 h1
  have x2 := Boxed.other h2 (B' := w.heap.size) (by omega) u1
  have x3 := Boxed.other h3 (B' := w.heap.size) (by omega) u1
  have y1 := Boxed.other x1 (B' := w.heap.size + 1) (by omega) u2
  have y2 := Boxed.set u2 x2
  have y3 := Boxed.other x3 (B' := w.heap.size + 1) (by omega) u2
  have z1 := Boxed.other y1 (B' := w.heap.size + 1 + 1) (by omega) u3
  have z2 := Boxed.other y2 (B' := w.heap.size + 1 + 1) (by omega) u3
  have z3 := Boxed.set u3 y3
  exact ⟨z1, z2, z3, (((Below.setCell hb (p := ⟨w.heap.size, 0, none⟩) (Nat.le_refl _) _).setCell (p := ⟨w.heap.size + 1, 0, none⟩) (by show w.heap.size ≤ w.heap.size + 1; omega) _).setCell (p := ⟨w.heap.size + 1 + 1, 0, none⟩) (by show w.heap.size ≤ w.heap.size + 1 + 1; omega) _)⟩

theorem AI.left {w : World} {xs : List Int} {W : World} (h : AI w xs W) :
    AX w xs.length (((W.setCell ⟨w.heap.size, 0, none⟩ (.slice none 0 0)).setCell ⟨w.heap.size + 1, 0, none⟩ (.int .i64 2)).setCell ⟨w.heap.size + 1 + 1, 0, none⟩ (.int .i64 (xs.length : Nat))).drew := by
  obtain ⟨z1, z2, z3, hb⟩ := three (.slice none 0 0) (.int .i64 2) (.int .i64 (xs.length : Nat)) h.b1 h.b2 h.b3 h.below
  exact ⟨z1, z2, z3, hb.drew⟩

theorem AI.leftK {w : World} {W w1 : World} {u1 u2 u3 : Value} (k : Dn W w1) : KeepsOthers W (((w1.setCell ⟨w.heap.size, 0, none⟩ u1).setCell ⟨w.heap.size + 1, 0, none⟩ u2).setCell ⟨w.heap.size + 1 + 1, 0, none⟩ u3).drew :=
  ((((keepsO_dn k).trans (KeepsOthers.setCell _ _ _)).trans (KeepsOthers.setCell _ _ _)).trans (KeepsOthers.setCell _ _ _)).trans (KeepsOthers.drew _)

def IA (w : World) (pre : List Ln) (W : World) : Prop := ∃ xs, Rng xs ∧ valL pre = xs.map gd ∧ AI w xs W
def IX (w : World) (c : Code) (pre : List Ln) (W : World) : Prop := c = .ret ∧ ∃ xs y, Rng xs ∧ valL pre = xs.map gd ++ [y] ∧ Bad y ∧ AX w xs.length W

theorem IA.ownF (w : World) {B : Nat} (hB : w.heap.size ≤ B) : OwnFrom B (IA w) := by
  rintro pre W W' row ⟨xs, h1, h2, h3⟩ hg hr
  exact ⟨xs, h1, h2, h3.own hB hg hr⟩
theorem IX.ownF (w : World) (c : Code) {B : Nat} (hB : w.heap.size ≤ B) : OwnFrom B (IX w c) := by
  rintro pre W W' row ⟨hc, xs, y, h1, h2, h3, h4⟩ hg hr
  exact ⟨hc, xs, y, h1, h2, h3, h4.own hB hg hr⟩

theorem AI.start (w : World) (s : ByteArray) : AI w [] (((((w.alloc (Obj.cells #[Value.slice none 0 0] 24)).alloc (Obj.cells #[Value.int IntKind.i64 0] 26)).alloc (Obj.cells #[Value.int IntKind.i64 0] 3)).alloc (Obj.cells #[Value.slice none 0 0] 24)).alloc (Obj.cells #[Value.string s] 9)) := by
  have x1 := Boxed.new w 24 (.slice none 0 0)
  have x2 := Boxed.new (w.alloc (Obj.cells #[Value.slice none 0 0] 24)) 26 (.int .i64 0)
  have x3 := Boxed.new ((w.alloc (Obj.cells #[Value.slice none 0 0] 24)).alloc (Obj.cells #[Value.int IntKind.i64 0] 26)) 3 (.int .i64 0)
  have x4 := Boxed.new (((w.alloc (Obj.cells #[Value.slice none 0 0] 24)).alloc (Obj.cells #[Value.int IntKind.i64 0] 26)).alloc (Obj.cells #[Value.int IntKind.i64 0] 3)) 24 (.slice none 0 0)
  simp only [World.size_alloc] at x2 x3 x4
  exact ⟨(((x1.alloc _).alloc _).alloc _).alloc _, ((x2.alloc _).alloc _).alloc _, (x3.alloc _).alloc _, ⟨_, x4.alloc _, World.ownsRow_nil _ _ _ _⟩, ((((Dn.refl w).alloc _).alloc _).alloc _).alloc _ |>.alloc _⟩

set_option maxRecDepth 100000 in
set_option maxHeartbeats 2000000 in
theorem assemble (s : List UInt8) (w : World) (E : Env w) (hs : s.length ≤ 100000) :
    Calls Tryz.prog 13 #[.string ⟨s.toArray⟩] w (AsmRet w s) := by
  obtain ⟨i0, hi, hz0, hz1, hz2⟩ := info_parts infoU32
  refine (callsIn_wide (n := 6)).1 ?_
  refine callsIn_of_wp_marks Tryz.func13 rfl trivial ?_ rfl
  simp only [Tryz.ntmps13, List.size_toArray, List.length_cons, List.length_nil, Nat.reduceAdd, Nat.reduceSub, Array.replicate_succ, Array.replicate_zero, List.push_toArray, List.append_toArray, List.nil_append, List.cons_append]
  gi_wp2_with (refine ⟨trivial, ?_⟩; gi_at_call 30; refine (lines_in _ s _).mono ?_; rintro e w' ⟨rfl, rfl⟩)
  have bI := AI.start w ⟨s.toArray⟩
  have bS := Boxed.new ((((w.alloc (Obj.cells #[Value.slice none 0 0] 24)).alloc (Obj.cells #[Value.int IntKind.i64 0] 26)).alloc (Obj.cells #[Value.int IntKind.i64 0] 3)).alloc (Obj.cells #[Value.slice none 0 0] 24)) 9 (.string ⟨s.toArray⟩)
  have hz : (((((w.alloc (Obj.cells #[Value.slice none 0 0] 24)).alloc (Obj.cells #[Value.int IntKind.i64 0] 26)).alloc (Obj.cells #[Value.int IntKind.i64 0] 3)).alloc (Obj.cells #[Value.slice none 0 0] 24)).alloc (Obj.cells #[Value.string ⟨s.toArray⟩] 9)).heap.size = w.heap.size + 5 := by simp only [World.size_alloc]
  simp only [World.size_alloc] at bS
  generalize ((((w.alloc (Obj.cells #[Value.slice none 0 0] 24)).alloc (Obj.cells #[Value.int IntKind.i64 0] 26)).alloc (Obj.cells #[Value.int IntKind.i64 0] 3)).alloc (Obj.cells #[Value.slice none 0 0] 24)).alloc (Obj.cells #[Value.string ⟨s.toArray⟩] 9) = w5 at *
  have hsz5 : w.heap.size ≤ w5.heap.size := by omega
  have hE5 := E.dn bI.below
  have hW := E.sz
  refine wpIn_rangeFunc_ownG rfl (by omega) (gf := 52) (lb := #[.pointer (some ⟨w.heap.size + 1 + 1 + 1 + 1, 0, none⟩)]) rfl trivial (enters_of Tryz.func52 (by kernel_rfl) rfl)
    (lines_stops 5 (by omega) (w.heap.size + 1 + 1 + 1 + 1) w.heap.size s hs w5 (by omega) hsz5 (by omega) bS.cell hE5.maxLen) belowK_t (belowK_b hsz5) (Below.refl _ _) (fun _ => rfl)
    (IA w) (IX w) (IA.ownF w hsz5) (fun c => IX.ownF w c hsz5) ⟨[], fun x hx => absurd hx (by simp), rfl, bI⟩
    (fun x => { tmps := #[Value.string ⟨s.toArray⟩, undef, .pointer (some ⟨w.heap.size, 0, none⟩), .pointer (some ⟨w.heap.size + 1, 0, none⟩), .pointer (some ⟨w.heap.size + 1 + 1, 0, none⟩), .pointer (some ⟨w.heap.size + 1 + 1 + 1, 0, none⟩), .string ⟨x.1.1.toArray⟩, .bool x.1.2, undef, undef, .string ⟨s.toArray⟩, .func (.func 52) #[] #[.pointer (some ⟨w.heap.size + 1 + 1 + 1 + 1, 0, none⟩)], .string ⟨x.1.1.toArray⟩, .bool x.1.2, undef, undef, undef, undef, undef, undef, undef, undef, undef, undef, undef, undef, undef, undef, undef, undef, undef, undef], defers := [] }) ?assign ?body ?done ?stop
  case assign =>
    intro l x W K hK
    dsimp only [encL]
    gi_wp2
    exact hK
  case body =>
    rintro l pre ⟨⟨line, ended⟩, hll⟩ W ⟨xs, hx, hpre, ai⟩ hlt
    have hlnl := ln_len s
    have hxl : xs.length = pre.length := by
      have := congrArg List.length hpre
      simpa [valL] using this.symm
    have hxl2 : xs.length ≤ 100000 := by omega
    have HPRE := Lib.hid hpre
    have HX := Lib.hid hx
    clear hpre hx hxl hlt
    dsimp only at hll ⊢
    have mixed : Tryz.prog.follows Departure.mixedOrders = true := by kernel_rfl
    by_cases hg : ended = true ∧ IsLine line
    · obtain ⟨rfl, y, y0, y1, rfl⟩ := hg
      gi_wp2_with (first
        | (refine ⟨trivial, ?_⟩; gi_at_call 31; refine (CallsIn.inRound l (callsIn_wide.2 (wordOf_yes y _ (E.dn ai.below) y0 y1))).mono ?_; rintro e w1 ⟨rfl, dn1⟩; have ai1 := ai.dn dn1; obtain ⟨v, hv, hrow⟩ := ai1.row; have hc := hv.cell)
        | (gi_at_builtin; refine wpListIn_append_own _ rfl _ _ 24 rfl w.heap.size 45 i0 (.int .u32 0) 1 4 Tryz.underlying24 hi hz0 hz1 hz2 rfl (by decide) _ _ _ rfl (hrow.alloc _) ⟨w1.heap.size, 0, none⟩ 1 1 [.int .u32 y] rfl rfl (cell_one_new _ _ _) (by simp [Value.oneCell']) (by unfold maxLen; omega) (by omega) (by have := ai1.below.size; simp; omega) ?_; intro v' w2 hown' hgrow _; obtain ⟨g', cap', rfl⟩ := ownsRow_succ hown'; obtain ⟨hv1, hv2, hr2, hk2, hb2⟩ := hv.appended (by decide) hrow ai1.below.size (by omega) hown' hgrow; have hc1 := hv1.cell; have hf1 := hv1.frozen))
      have n1 := ((ai1.b1.alloc _).kept hgrow (ai1.b1.not_row (by decide) hrow)).other (B' := w.heap.size + 1 + 1 + 1) (by omega) (.slice (some ⟨g', 0, none⟩) (xs.length + 1) cap')
      have n2 := ((ai1.b2.alloc _).kept hgrow (ai1.b2.not_row (by decide) hrow)).other (B' := w.heap.size + 1 + 1 + 1) (by omega) (.slice (some ⟨g', 0, none⟩) (xs.length + 1) cap')
      have n3 := ((ai1.b3.alloc _).kept hgrow (ai1.b3.not_row (by decide) hrow)).other (B' := w.heap.size + 1 + 1 + 1) (by omega) (.slice (some ⟨g', 0, none⟩) (xs.length + 1) cap')
      have hr3 := hr2
      rw [show xs.length + 1 = (xs ++ [y]).length by simp, show xs.map (Value.int .u32) ++ [Value.int .u32 y] = (xs ++ [y]).map (Value.int .u32) by simp] at hr3
      exact ⟨((keepsO_dn dn1).trans hk2).from _, (Below.mono dn1 ai.below.size).trans hb2, xs ++ [y], fun z hz => by
          rcases List.mem_append.1 hz with hz | hz
          · exact HX.out z hz
          · rw [List.mem_singleton.1 hz]; exact ⟨y0, y1⟩, by
          have := HPRE.out
          unfold valL at this ⊢
          rw [List.map_append, List.map_append, this]; rfl, n1, n2, n3, ⟨_, hv2, by rw [List.length_append] at hr3 ⊢; exact hr3⟩, ai1.below.trans hb2⟩
    · have HB : Hid (Bad (line, ended)) := Lib.hid hg
      by_cases hli : IsLine line
      · have he : ended = false := by
          cases ended
          · rfl
          · exact absurd ⟨rfl, hli⟩ hg
        subst he
        obtain ⟨y, y0, y1, rfl⟩ := hli
        clear hg
        gi_wp2_with (refine ⟨trivial, ?_⟩; gi_at_call 31; refine (CallsIn.inRound l (callsIn_wide.2 (wordOf_yes y _ (E.dn ai.below) y0 y1))).mono ?_; rintro e w1 ⟨rfl, dn1⟩; have ai1 := ai.dn dn1; obtain ⟨v, hv, hrow⟩ := ai1.row; have hc := hv.cell; obtain ⟨A, cp, rfl⟩ := own_form hrow; have k1 := ai1.b1.cell; have k2 := ai1.b2.cell; have k3 := ai1.b3.cell; have f1 := ai1.b1.frozen; have f2 := ai1.b2.frozen; have f3 := ai1.b3.frozen)
        gi_region_with_o (fail)
        all_goals gi_wp2
        all_goals exact ⟨(AI.leftK dn1).from _, rfl, xs, _, HX.out, by
          have := HPRE.out
          unfold valL at this ⊢
          rw [List.map_append, this]; rfl, HB.out, ai1.left⟩
      · clear hg
        gi_wp2_with (refine ⟨trivial, ?_⟩; gi_at_call 31; refine (CallsIn.inRound l (callsIn_wide.2 (wordOf_no line _ (E.dn ai.below) hll hli))).mono ?_; rintro e w1 ⟨rfl, dn1⟩; have ai1 := ai.dn dn1; obtain ⟨v, hv, hrow⟩ := ai1.row; have hc := hv.cell; obtain ⟨A, cp, rfl⟩ := own_form hrow; have k1 := ai1.b1.cell; have k2 := ai1.b2.cell; have k3 := ai1.b3.cell; have f1 := ai1.b1.frozen; have f2 := ai1.b2.frozen; have f3 := ai1.b3.frozen)
        gi_region_with_o (fail)
        all_goals gi_wp2
        all_goals exact ⟨(AI.leftK dn1).from _, rfl, xs, _, HX.out, by
          have := HPRE.out
          unfold valL at this ⊢
          rw [List.map_append, this]; rfl, HB.out, ai1.left⟩
  case done =>
    rintro D ys W hD hys ⟨xs, hx, hpre, ai⟩ hK
    have HX := Lib.hid hx
    have HS : Hid (M.ln s = xs.map gd) := Lib.hid (hys.symm.trans hpre)
    clear hx hys hpre
    obtain ⟨v, hv, hrow⟩ := ai.row
    have hc := hv.cell
    obtain ⟨A, cp, rfl⟩ := own_form hrow
    have k1 := ai.b1.cell
    have k2 := ai.b2.cell
    have k3 := ai.b3.cell
    have f1 := ai.b1.frozen
    have f2 := ai.b2.frozen
    have f3 := ai.b3.frozen
    obtain ⟨z1, z2, z3, hb⟩ := three (.slice A xs.length cp) (.int .i64 0) (.int .i64 0) ai.b1 ai.b2 ai.b3 ai.below
    have hKO := ((KeepsOthers.setCell W ⟨w.heap.size, 0, none⟩ (.slice A xs.length cp)).trans (KeepsOthers.setCell _ ⟨w.heap.size + 1, 0, none⟩ (.int .i64 0))).trans (KeepsOthers.setCell _ ⟨w.heap.size + 1 + 1, 0, none⟩ (.int .i64 0))
    have hK' := hKO.same D _ hK rfl
    have hrow' := ((hrow.kept (grownBy_setCell' W w.heap.size (.slice A xs.length cp)) (.inr (ai.b1.not_row (by decide) hrow).symm)).kept (grownBy_setCell' _ (w.heap.size + 1) (.int .i64 0)) (.inr (ai.b2.not_row (by decide) hrow).symm)).kept (grownBy_setCell' _ (w.heap.size + 1 + 1) (.int .i64 0)) (.inr (ai.b3.not_row (by decide) hrow).symm)
    gi_wp2
    generalize ((W.setCell ⟨w.heap.size, 0, none⟩ (.slice A xs.length cp)).setCell ⟨w.heap.size + 1, 0, none⟩ (.int .i64 0)).setCell ⟨w.heap.size + 1 + 1, 0, none⟩ (.int .i64 0) = W9 at *
    have hpk : ∀ r, some D = some r → ∃ o : Obj, W9.heap[r]? = some o ∧ o.isCells = false := fun r e => by cases e; exact ⟨_, hK', rfl⟩
    have q1 := (boxed_keep z1 (grownBy_putObj' W9 D (.deferred none)) hpk).cell
    have q2 := (boxed_keep z2 (grownBy_putObj' W9 D (.deferred none)) hpk).cell
    have q3 := (boxed_keep z3 (grownBy_putObj' W9 D (.deferred none)) hpk).cell
    refine ⟨by simp, .inl ⟨_, _, rfl, run_takeDeferred hK', ?_⟩⟩
    refine ⟨.tuple #[.slice A xs.length cp, .int .i64 0, .int .i64 0], ?_, .inl ⟨xs, _, HX.out, HS.out, rfl, ownsRow_putObj hrow' _ hK' rfl⟩, hb.trans (belowK_b (w := w) (Nat.le_refl _) W9 D _ _ (by omega) hK' rfl rfl)⟩
    simp [results, Tryz.f13, go_sem, q1, q2, q3]
  case stop =>
    rintro D c pre W hD ⟨rest, hrest⟩ ⟨rfl, xs, y, hx, hpre, hbad, ax⟩ hK
    have HX := Lib.hid hx
    have HB := Lib.hid hbad
    have HS : Hid (M.ln s = xs.map gd ++ y :: rest) := Lib.hid (by rw [← hrest, hpre]; simp)
    clear hx hbad hpre hrest
    have hpk : ∀ r, some D = some r → ∃ o : Obj, W.heap[r]? = some o ∧ o.isCells = false := fun r e => by cases e; exact ⟨_, hK, rfl⟩
    have q1 := (boxed_keep ax.b1 (grownBy_putObj' W D (.deferred none)) hpk).cell
    have q2 := (boxed_keep ax.b2 (grownBy_putObj' W D (.deferred none)) hpk).cell
    have q3 := (boxed_keep ax.b3 (grownBy_putObj' W D (.deferred none)) hpk).cell
    gi_wp2
    refine ⟨by simp, .inl ⟨_, _, rfl, run_takeDeferred hK, ?_⟩⟩
    refine ⟨.tuple #[.slice none 0 0, .int .i64 2, .int .i64 (xs.length : Nat)], ?_, .inr ⟨xs, y, rest, HX.out, HS.out, HB.out, rfl⟩, ax.below.trans (belowK_b (w := w) (Nat.le_refl _) W D _ _ (by omega) hK rfl rfl)⟩
    simp [results, Tryz.f13, go_sem, q1, q2, q3]

end Go.Proofs.YtokhipjpppfkgaaGreatDoor
