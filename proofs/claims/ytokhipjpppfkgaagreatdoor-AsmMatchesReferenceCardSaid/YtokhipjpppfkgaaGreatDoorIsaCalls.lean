/-
  What each function of package isa returns when called: contracts over the translated program. Conditions: those that stand in each theorem; the two tables hold what the program's text lays there.
-/
import Derived.Test.YtokhipjpppfkgaaGreatDoorCalls
import Derived.Test.YtokhipjpppfkgaaGreatDoorIsa
import Derived.Test.YtokhipjpppfkgaaGreatDoorRefs
import Derived.Handy
namespace Go.Proofs.YtokhipjpppfkgaaGreatDoor
open Go.ChangeShapes Go.WideShapes Go.ChangeAt Go.RowKit
set_option linter.unusedVariables false

/-- the two tables in memory -/
structure Tabs (W : World) : Prop where
  sizeF : 2 < W.heap.size
  sizeO : 1 < W.heap.size
  form : ∀ i : Int, 0 ≤ i → i ≤ 25 → W.cell? ⟨2, i.toNat, none⟩ = some (.int .i64 (M.form i))
  rd : ∀ f : Int, 0 ≤ f → f ≤ 7 → W.cell? ⟨1, f.toNat * 5, none⟩ = some (.bool (M.hasRd f))
  ra : ∀ f : Int, 0 ≤ f → f ≤ 7 → W.cell? ⟨1, f.toNat * 5 + 1, none⟩ = some (.bool (M.hasRa f))
  rb : ∀ f : Int, 0 ≤ f → f ≤ 7 → W.cell? ⟨1, f.toNat * 5 + 2, none⟩ = some (.bool (M.hasRb f))
  imm : ∀ f : Int, 0 ≤ f → f ≤ 7 → W.cell? ⟨1, f.toNat * 5 + 3, none⟩ = some (.bool (M.hasImm f))
  csr : ∀ f : Int, 0 ≤ f → f ≤ 7 → W.cell? ⟨1, f.toNat * 5 + 4, none⟩ = some (.bool (M.hasCsr f))

/-- the call has laid new blocks at most, and no range is frozen that was not -/
structure Up (W W' : World) : Prop where
  below : Below W.heap.size W W'
  frozen : ∀ a, W'.frozen? a = W.frozen? a
theorem Up.size {W W' : World} (h : Up W W') : W.heap.size ≤ W'.heap.size := h.below.size
theorem Up.refl (W : World) : Up W W := ⟨Below.refl _ _, fun _ => rfl⟩
theorem Up.trans {a b c : World} (h : Up a b) (k : Up b c) : Up a c := ⟨Below.trans h.below (Below.mono k.below h.size), fun x => (k.frozen x).trans (h.frozen x)⟩
theorem Up.cell {W W' : World} (h : Up W W') {p : Addr} (hp : p.block < W.heap.size) : W'.cell? p = W.cell? p := Below.cell h.below hp
theorem Tabs.upb {W W' : World} (h : Tabs W) (k : Below W.heap.size W W') : Tabs W' :=
  ⟨Nat.lt_of_lt_of_le h.sizeF k.size, Nat.lt_of_lt_of_le h.sizeO k.size, fun i a b => (k.cell h.sizeF).trans (h.form i a b), fun i a b => (k.cell h.sizeO).trans (h.rd i a b), fun i a b => (k.cell h.sizeO).trans (h.ra i a b), fun i a b => (k.cell h.sizeO).trans (h.rb i a b), fun i a b => (k.cell h.sizeO).trans (h.imm i a b), fun i a b => (k.cell h.sizeO).trans (h.csr i a b)⟩
theorem Tabs.up {W W' : World} (h : Tabs W) (k : Up W W') : Tabs W' := h.upb k.below

theorem Up.alloc {a w : World} (h : Up a w) (c : Array Value) {t : TypeId} : Up a (w.alloc (.cells c t)) := ⟨Below.alloc h.below h.size _, fun x => (frozen?_alloc_cells _ _ _ x).trans (h.frozen x)⟩
theorem Up.setCell {a w : World} (h : Up a w) {p : Addr} (hp : a.heap.size ≤ p.block) (u : Value) : Up a (w.setCell p u) := ⟨Below.setCell h.below hp u, fun x => (World.frozen?_setCell w p x u).trans (h.frozen x)⟩
theorem Up.drewN {a w : World} (h : Up a w) (n : Nat) : Up a (w.drewN n) := ⟨⟨h.below.os, h.below.tape, h.below.output, h.below.size, h.below.block⟩, h.frozen⟩

theorem lt_of_cell {w : World} {p : Addr} {v : Value} (h : w.cell? p = some v) : p.block < w.heap.size := by
  by_cases hb : p.block < w.heap.size
  · exact hb
  · have : w.heap[p.block]? = none := Array.getElem?_eq_none (by omega)
    simp [World.cell?, this] at h

theorem Up.keep {w w' : World} (h : Up w w') {p : Addr} {v : Value} (hc : w.cell? p = some v) : w'.cell? p = some v := (h.cell (lt_of_cell hc)).trans hc

theorem Up.froz {w w' : World} (h : Up w w') {p : Addr} (hp : p.block < w.heap.size) (hf : w.frozen? p = false) : w'.frozen? p = false := (h.frozen p).trans hf

/-- five cells in a block that may be written -/
structure Box (w : World) (b : Nat) (v0 v1 v2 v3 v4 : Value) : Prop where
  c0 : w.cell? ⟨b, 0, none⟩ = some v0
  c1 : w.cell? ⟨b, 1, none⟩ = some v1
  c2 : w.cell? ⟨b, 2, none⟩ = some v2
  c3 : w.cell? ⟨b, 3, none⟩ = some v3
  c4 : w.cell? ⟨b, 4, none⟩ = some v4
  lt : b < w.heap.size
  fr : ∀ j, w.frozen? ⟨b, j, none⟩ = false

theorem Box.up {w w' : World} {b : Nat} {v0 v1 v2 v3 v4 : Value} (h : Box w b v0 v1 v2 v3 v4) (k : Up w w') : Box w' b v0 v1 v2 v3 v4 :=
  ⟨k.keep h.c0, k.keep h.c1, k.keep h.c2, k.keep h.c3, k.keep h.c4, Nat.lt_of_lt_of_le h.lt k.size, fun j => k.froz h.lt (h.fr j)⟩

theorem Box.new (w : World) (v0 v1 v2 v3 v4 : Value) (t : TypeId) : Box (w.alloc (.cells #[v0, v1, v2, v3, v4] t)) w.heap.size v0 v1 v2 v3 v4 :=
  ⟨by rw [World.cell?_alloc_new]; rfl, by rw [World.cell?_alloc_new]; rfl, by rw [World.cell?_alloc_new]; rfl, by rw [World.cell?_alloc_new]; rfl, by rw [World.cell?_alloc_new]; rfl, by simp, fun j => by simp [go_sem]⟩

theorem Box.open {w : World} {b : Nat} {v0 v1 v2 v3 v4 : Value} (h : Box w b v0 v1 v2 v3 v4) :
    w.cell? ⟨b, 0, none⟩ = some v0 ∧ w.cell? ⟨b, 1, none⟩ = some v1 ∧ w.cell? ⟨b, 2, none⟩ = some v2 ∧ w.cell? ⟨b, 3, none⟩ = some v3 ∧ w.cell? ⟨b, 4, none⟩ = some v4 ∧ b < w.heap.size :=
  ⟨h.c0, h.c1, h.c2, h.c3, h.c4, h.lt⟩

set_option maxHeartbeats 400000 in
theorem formatOf (op : Int) (W : World) (T : Tabs W) :
    Calls Tryz.prog 41 #[.int .i64 op] W fun e W' => e = .returned (.int .i64 (M.form op)) ∧ W = W' := by
  by_cases h0 : op < 0
  · have HE := Lib.hid (M.form_zero op (.inl h0))
    go_enter Tryz.func41, Tryz.ntmps41
    go_wp2
    go_ret
    exact ⟨ret_int HE.out.symm, rfl⟩
  · by_cases h1 : 25 < op
    · have HE := Lib.hid (M.form_zero op (.inr h1))
      go_enter Tryz.func41, Tryz.ntmps41
      go_wp2
      go_ret
      exact ⟨ret_int HE.out.symm, rfl⟩
    · have hc := T.form op (by omega) (by omega)
      go_enter Tryz.func41, Tryz.ntmps41
      go_wp2
      go_ret
      exact ⟨rfl, rfl⟩

theorem okReg_true (r : Int) (a b : Bool) (ha : a = decide (0 ≤ r)) (hb : b = decide (r < 16)) : (a && b) = M.okReg r true := by
  unfold M.okReg; subst ha; subst hb
  rw [if_pos rfl, Bool.eq_iff_iff]; simp; omega

set_option maxHeartbeats 400000 in
theorem validRegister (r : Int) (used : Bool) (W : World) :
    Calls Tryz.prog 42 #[.int .i64 r, .bool used] W fun e W' => e = .returned (.bool (M.okReg r used)) ∧ W = W' := by
  cases used
  · go_enter Tryz.func42, Tryz.ntmps42
    go_wp2
    go_ret
    exact ⟨ret_bool rfl, rfl⟩
  · by_cases h0 : 0 ≤ r
    · go_enter Tryz.func42, Tryz.ntmps42
      go_wp2
      go_ret
      exact ⟨ret_bool (okReg_true r true _ (by simp [h0]) rfl), rfl⟩
    · go_enter Tryz.func42, Tryz.ntmps42
      go_wp2
      go_ret
      exact ⟨ret_bool (okReg_true r false true (by simp [h0]) (by simp; omega)), rfl⟩

theorem okCsr (x : Int) (a b : Bool) (ha : a = decide (0 ≤ x)) (hb : b = decide (x < 12)) : (a && b) = M.okImm x false true := by
  unfold M.okImm; subst ha; subst hb
  rw [if_neg (by decide), if_pos rfl, Bool.eq_iff_iff]; simp; omega

set_option maxHeartbeats 400000 in
theorem validImmediate (x : Int) (p q r imm csr : Bool) (W : World) (hx0 : -2147483648 ≤ x) (hx : x < 2147483648) :
    Calls Tryz.prog 43 #[.int .i32 x, .agg #[.bool p, .bool q, .bool r, .bool imm, .bool csr]] W fun e W' => e = .returned (.bool (M.okImm x imm csr)) ∧ Up W W' := by
  cases imm
  · cases csr
    · go_enter Tryz.func43, Tryz.ntmps43
      go_wp2
      go_ret
      exact ⟨ret_bool rfl, (Up.refl _).alloc _⟩
    · by_cases h0 : 0 ≤ x
      · go_enter Tryz.func43, Tryz.ntmps43
        go_wp2
        go_ret
        exact ⟨ret_bool (okCsr x true _ (by simp [h0]) rfl), (Up.refl _).alloc _⟩
      · go_enter Tryz.func43, Tryz.ntmps43
        go_wp2
        go_ret
        exact ⟨ret_bool (okCsr x false true (by simp [h0]) (by simp; omega)), (Up.refl _).alloc _⟩
  · go_enter Tryz.func43, Tryz.ntmps43
    go_wp2_with (go_at_call 63; refine (fitsSigned _ _ _ (by omega) (by omega) (by omega) (by omega)).mono ?_; rintro e w' ⟨rfl, rfl⟩)
    go_ret
    exact ⟨ret_bool rfl, (Up.refl _).alloc _⟩

set_option maxHeartbeats 400000 in
theorem valid (op rd ra rb imm : Int) (W : World) (T : Tabs W) (hx0 : -2147483648 ≤ imm) (hx : imm < 2147483648) :
    Calls Tryz.prog 20 #[.agg #[.int .i64 op, .int .i64 rd, .int .i64 ra, .int .i64 rb, .int .i32 imm]] W fun e W' => e = .returned (.bool (M.ok op rd ra rb imm)) ∧ Up W W' := by
  have hr := M.form_rng op
  have hs1 := T.sizeO
  cases hz : (M.form op == 0)
  · have c0 := T.rd (M.form op) (by omega) (by omega)
    have c1 := T.ra (M.form op) (by omega) (by omega)
    have c2 := T.rb (M.form op) (by omega) (by omega)
    have c3 := T.imm (M.form op) (by omega) (by omega)
    have c4 := T.csr (M.form op) (by omega) (by omega)
    have HE := Lib.hid (M.ok_eq op rd ra rb imm hz)
    cases h1 : M.okReg rd (M.hasRd (M.form op)) <;> cases h2 : M.okReg ra (M.hasRa (M.form op)) <;> cases h3 : M.okReg rb (M.hasRb (M.form op))
    all_goals
      go_enter Tryz.func20, Tryz.ntmps20
      go_wp2_with (first
        | (go_at_call 41; refine (formatOf _ _ (T.up ((Up.refl _).alloc _))).mono ?_; rintro e w' ⟨rfl, rfl⟩)
        | (go_at_call 42; refine (validRegister _ _ _).mono ?_; rintro e w' ⟨rfl, rfl⟩)
        | (go_at_call 43; refine (validImmediate _ _ _ _ _ _ _ (by omega) (by omega)).mono ?_; rintro e w' ⟨rfl, up⟩))
      go_ret
      first
      | exact ⟨ret_bool (by rw [HE.out, h1, h2, h3]; rfl), (((Up.refl _).alloc _).alloc _).trans up⟩
      | exact ⟨ret_bool (by rw [HE.out, h1, h2, h3]; rfl), ((Up.refl _).alloc _).alloc _⟩
  · go_enter Tryz.func20, Tryz.ntmps20
    go_wp2_with (go_at_call 41; refine (formatOf _ _ (T.up ((Up.refl _).alloc _))).mono ?_; rintro e w' ⟨rfl, rfl⟩)
    go_ret
    exact ⟨ret_bool (by unfold M.ok; simp [bne, hz]), (Up.refl _).alloc _⟩
end Go.Proofs.YtokhipjpppfkgaaGreatDoor
