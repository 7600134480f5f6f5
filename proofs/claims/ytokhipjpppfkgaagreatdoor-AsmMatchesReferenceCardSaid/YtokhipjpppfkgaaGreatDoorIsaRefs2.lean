/-
  What Encode and Decode of the reference package gaolerref02 return when called: contracts over the translated program. Conditions: those that stand in each theorem.
-/
import Derived.Test.YtokhipjpppfkgaaGreatDoorIsaRefs
import Derived.Test.YtokhipjpppfkgaaGreatDoorIsaPack
namespace Go.Proofs.YtokhipjpppfkgaaGreatDoor
open Go.ChangeShapes Go.WideShapes Go.ChangeAt Go.RowKit
set_option linter.unusedVariables false

set_option maxHeartbeats 400000 in
theorem refEncode_yes (op rd ra rb imm : Int) (W : World) (h : M.ok op rd ra rb imm = true) :
    Calls Tryz.prog 40 #[.agg #[.int .i64 op, .int .i64 rd, .int .i64 ra, .int .i64 rb, .int .i32 imm]] W fun e W' => e = .returned (.tuple #[.int .u32 (M.word op rd ra rb imm), .bool true]) ∧ Up W W' := by
  obtain ⟨⟨o1, o2⟩, ⟨d1, d2⟩, ⟨a1, a2⟩, ⟨b1, b2⟩, ⟨i1, i2⟩⟩ := M.ok_rng _ _ _ _ _ h
  have g4 : 0 ≤ M.L imm 18 ∧ M.L imm 18 < 262144 := by show 0 ≤ imm % 262144 ∧ imm % 262144 < 262144; omega
  by_cases hf : M.form op = 1
  · have HW : Hid (op * 67108864 + rd * 4194304 + ra * 262144 + rb = M.word op rd ra rb imm) := Lib.hid (by unfold M.word; rw [if_pos hf])
    have hb : (M.form op == 1) = true := by rw [hf]; rfl
    clear hf
    go_enter Tryz.func40, Tryz.ntmps40
    go_wp2_with (first
      | (go_at_call 18; refine (may _ _ _ _ _ _ (by omega) (by omega)).mono ?_; rintro e w' ⟨rfl, up⟩; obtain ⟨k0, k1, k2, k3, k4, k5⟩ := ((Box.new _ _ _ _ _ _ _).up up).open)
      | (go_at_call 25; refine (refForm _ _).mono ?_; rintro e w'' ⟨rfl, rfl⟩)
      | (go_at_call 62; refine (low _ _ _ (by omega) (by omega) (by omega) (by omega)).mono ?_; rintro e w'' ⟨rfl, rfl⟩))
    go_ret2
    exact ⟨by rw [← HW.out]; rfl, ((Up.refl _).alloc _).trans up⟩
  · have HW : Hid (op * 67108864 + rd * 4194304 + ra * 262144 + M.L imm 18 = M.word op rd ra rb imm) := Lib.hid (by unfold M.word; rw [if_neg hf]; rfl)
    have hb : (M.form op == 1) = false := beq_eq_false_iff_ne.2 hf
    clear hf
    go_enter Tryz.func40, Tryz.ntmps40
    go_wp2_with (first
      | (go_at_call 18; refine (may _ _ _ _ _ _ (by omega) (by omega)).mono ?_; rintro e w' ⟨rfl, up⟩; obtain ⟨k0, k1, k2, k3, k4, k5⟩ := ((Box.new _ _ _ _ _ _ _).up up).open)
      | (go_at_call 25; refine (refForm _ _).mono ?_; rintro e w'' ⟨rfl, rfl⟩)
      | (go_at_call 62; refine (low _ _ _ (by omega) (by omega) (by omega) (by omega)).mono ?_; rintro e w'' ⟨rfl, rfl⟩))
    go_ret2
    exact ⟨by rw [← HW.out]; rfl, ((Up.refl _).alloc _).trans up⟩

set_option maxHeartbeats 400000 in
theorem refEncode_no (op rd ra rb imm : Int) (W : World) (h : M.ok op rd ra rb imm = false) (hx0 : -2147483648 ≤ imm) (hx : imm < 2147483648) :
    Calls Tryz.prog 40 #[.agg #[.int .i64 op, .int .i64 rd, .int .i64 ra, .int .i64 rb, .int .i32 imm]] W fun e W' => e = .returned (.tuple #[.int .u32 0, .bool false]) ∧ Up W W' := by
  go_enter Tryz.func40, Tryz.ntmps40
  go_wp2_with (go_at_call 18; refine (may _ _ _ _ _ _ (by omega) (by omega)).mono ?_; rintro e w' ⟨rfl, up⟩)
  go_ret2
  exact ⟨rfl, ((Up.refl _).alloc _).trans up⟩

theorem refEncode (op rd ra rb imm : Int) (W : World) (hx0 : -2147483648 ≤ imm) (hx : imm < 2147483648) :
    Calls Tryz.prog 40 #[.agg #[.int .i64 op, .int .i64 rd, .int .i64 ra, .int .i64 rb, .int .i32 imm]] W fun e W' => e = .returned (.tuple #[.int .u32 (enc op rd ra rb imm), .bool (M.ok op rd ra rb imm)]) ∧ Up W W' := by
  cases h : M.ok op rd ra rb imm
  · refine (refEncode_no op rd ra rb imm W h hx0 hx).mono fun e w' hh => ?_
    have : enc op rd ra rb imm = 0 := by unfold enc; rw [h]; rfl
    rw [this]; exact hh
  · refine (refEncode_yes op rd ra rb imm W h).mono fun e w' hh => ?_
    have : enc op rd ra rb imm = M.word op rd ra rb imm := by unfold enc; rw [if_pos h]
    rw [this]; exact hh

theorem Box.new2 (w : World) (o : Obj) (v0 v1 v2 v3 v4 : Value) (t : TypeId) : Box ((w.alloc o).alloc (.cells #[v0, v1, v2, v3, v4] t)) (w.heap.size + 1) v0 v1 v2 v3 v4 := by
  have h := Box.new (w.alloc o) v0 v1 v2 v3 v4 t
  rwa [World.size_alloc] at h
theorem Box.drewN {w : World} {b : Nat} {v0 v1 v2 v3 v4 : Value} (h : Box w b v0 v1 v2 v3 v4) (n : Nat) : Box (w.drewN n) b v0 v1 v2 v3 v4 := ⟨h.c0, h.c1, h.c2, h.c3, h.c4, h.lt, h.fr⟩
theorem addr_ne {b i c j : Nat} (h : b ≠ c ∨ i ≠ j) : (⟨b, i, none⟩ : Addr) ≠ ⟨c, j, none⟩ := by
  intro e; injection e with e1 e2; omega
theorem Box.set4 {w : World} {b : Nat} {v0 v1 v2 v3 v4 : Value} (h : Box w b v0 v1 v2 v3 v4) (u : Value) : Box (w.setCell ⟨b, 4, none⟩ u) b v0 v1 v2 v3 u :=
  ⟨(World.cell?_setCell_other _ _ _ _ (addr_ne (.inr (by decide)))).trans h.c0, (World.cell?_setCell_other _ _ _ _ (addr_ne (.inr (by decide)))).trans h.c1, (World.cell?_setCell_other _ _ _ _ (addr_ne (.inr (by decide)))).trans h.c2,
    (World.cell?_setCell_other _ _ _ _ (addr_ne (.inr (by decide)))).trans h.c3, World.cell?_setCell_same _ _ _ h.c4, by rw [World.size_setCell]; exact h.lt, fun j => by rw [World.frozen?_setCell]; exact h.fr j⟩
theorem Box.other {w : World} {b c j : Nat} {v0 v1 v2 v3 v4 : Value} (h : Box w b v0 v1 v2 v3 v4) (hn : c ≠ b) (u : Value) : Box (w.setCell ⟨c, j, none⟩ u) b v0 v1 v2 v3 v4 :=
  ⟨(World.cell?_setCell_other _ _ _ _ (addr_ne (.inl hn))).trans h.c0, (World.cell?_setCell_other _ _ _ _ (addr_ne (.inl hn))).trans h.c1, (World.cell?_setCell_other _ _ _ _ (addr_ne (.inl hn))).trans h.c2,
    (World.cell?_setCell_other _ _ _ _ (addr_ne (.inl hn))).trans h.c3, (World.cell?_setCell_other _ _ _ _ (addr_ne (.inl hn))).trans h.c4, by rw [World.size_setCell]; exact h.lt, fun j => by rw [World.frozen?_setCell]; exact h.fr j⟩

set_option maxHeartbeats 400000 in
theorem refDecode_yes (w : Int) (W : World) (h0 : 0 ≤ w) (h : w < 4294967296) (hd : M.dok w = true) :
    Calls Tryz.prog 19 #[.int .u32 w] W fun e W' => e = .returned (.tuple #[.agg #[.int .i64 (M.dOp w), .int .i64 (M.dRd w), .int .i64 (M.dRa w), .int .i64 (M.dRb w), .int .i32 (M.dImm w)], .bool true]) ∧ Up W W' := by
  have hr := dImm_rng w
  unfold M.dok at hd
  simp only [Bool.and_eq_true] at hd
  obtain ⟨hd1, hd2⟩ := hd
  have HW : Hid (M.word (M.dOp w) (M.dRd w) (M.dRa w) (M.dRb w) (M.dImm w) = w) := Lib.hid (by simpa using hd2)
  have hd3 : (M.word (M.dOp w) (M.dRd w) (M.dRa w) (M.dRb w) (M.dImm w) != w) = false := by rw [HW.out]; simp
  clear hd2
  by_cases hf : M.form (M.dOp w) = 1
  · have hb : (M.form (w / 67108864) == 1) = true := beq_iff_eq.2 hf
    have e1 : M.dRb w = w % 16 := if_pos hf
    have e2 : M.dImm w = 0 := if_pos hf
    rw [e1, e2] at hd1 hd3
    replace hd1 : M.ok (w / 67108864) (w / 4194304 % 16) (w / 262144 % 16) (w % 16) 0 = true := hd1
    replace hd3 : (M.word (w / 67108864) (w / 4194304 % 16) (w / 262144 % 16) (w % 16) 0 != w) = false := hd3
    have E1 := Lib.hid e1
    have E2 := Lib.hid e2
    clear hf e1 e2
    go_enter Tryz.func19, Tryz.ntmps19
    go_wp2_with (first
      | (go_at_call 25; refine (refForm _ _).mono ?_; rintro e w'' ⟨rfl, rfl⟩)
      | (go_at_call 40; refine (refEncode_yes _ _ _ _ _ _ hd1).mono ?_; rintro e w2 ⟨rfl, up2⟩; obtain ⟨l0, l1, l2, l3, l4, l5⟩ := ((Box.new2 _ _ _ _ _ _ _ _).up up2).open; have bx := ((Box.new _ _ _ _ _ _ _).up ((Up.refl _).alloc _)).up up2; obtain ⟨m0, m1, m2, m3, m4, m5⟩ := bx.open; have fr := bx.fr; clear bx))
    refine bodyPost_ret (by simp [results, Tryz.results19, go_sem, m0, m1, m2, m3, m4]; try rfl) rfl ?_
    have s0 : Up W w2 := (((Up.refl _).alloc _).alloc _).trans up2
    exact ⟨by rw [E1.out, E2.out]; rfl, ((((s0.setCell (Nat.le_refl _) _).setCell (Nat.le_refl _) _).setCell (Nat.le_refl _) _).setCell (Nat.le_refl _) _).setCell (Nat.le_refl _) _⟩
  · have hb : (M.form (w / 67108864) == 1) = false := beq_eq_false_iff_ne.2 hf
    have e1 : M.dRb w = 0 := if_neg hf
    have e2 : M.dImm w = M.S w 18 := if_neg hf
    rw [e1, e2] at hd1 hd3
    replace hd1 : M.ok (w / 67108864) (w / 4194304 % 16) (w / 262144 % 16) 0 (M.S w 18) = true := hd1
    replace hd3 : (M.word (w / 67108864) (w / 4194304 % 16) (w / 262144 % 16) 0 (M.S w 18) != w) = false := hd3
    have E1 := Lib.hid e1
    have E2 := Lib.hid e2
    clear hf e1 e2
    go_enter Tryz.func19, Tryz.ntmps19
    go_wp2_with (first
      | (go_at_call 25; refine (refForm _ _).mono ?_; rintro e w'' ⟨rfl, rfl⟩)
      | (go_at_call 39; refine (sign _ _ _ (by omega) (by omega) (by omega) (by omega)).mono ?_; rintro e w'' ⟨rfl, q, rfl⟩)
      | (go_at_call 40; refine (refEncode_yes _ _ _ _ _ _ hd1).mono ?_; rintro e w2 ⟨rfl, up2⟩; obtain ⟨l0, l1, l2, l3, l4, l5⟩ := ((((Box.new2 _ _ _ _ _ _ _ _).drewN q).set4 _).up up2).open; have bx := ((((Box.new _ _ _ _ _ _ _).up ((Up.refl _).alloc _)).drewN q).other (Nat.succ_ne_self _) _).up up2; obtain ⟨m0, m1, m2, m3, m4, m5⟩ := bx.open; have fr := bx.fr; clear bx))
    refine bodyPost_ret (by simp [results, Tryz.results19, go_sem, m0, m1, m2, m3, m4]; try rfl) rfl ?_
    have s0 : Up W w2 := (((((Up.refl _).alloc _).alloc _).drewN q).setCell (Nat.le_succ _) _).trans up2
    exact ⟨by rw [E1.out, E2.out]; rfl, ((((s0.setCell (Nat.le_refl _) _).setCell (Nat.le_refl _) _).setCell (Nat.le_refl _) _).setCell (Nat.le_refl _) _).setCell (Nat.le_refl _) _⟩

set_option maxHeartbeats 400000 in
theorem refDecode_no1 (w : Int) (W : World) (h0 : 0 ≤ w) (h : w < 4294967296) (hd1 : M.ok (M.dOp w) (M.dRd w) (M.dRa w) (M.dRb w) (M.dImm w) = false) :
    Calls Tryz.prog 19 #[.int .u32 w] W fun e W' => e = .returned (.tuple #[.agg #[.int .i64 0, .int .i64 0, .int .i64 0, .int .i64 0, .int .i32 0], .bool false]) ∧ Up W W' := by
  have hr := M.S_rng w 18 (by decide) (by decide)
  by_cases hf : M.form (M.dOp w) = 1
  · have hb : (M.form (w / 67108864) == 1) = true := beq_iff_eq.2 hf
    have e1 : M.dRb w = w % 16 := if_pos hf
    have e2 : M.dImm w = 0 := if_pos hf
    rw [e1, e2] at hd1
    replace hd1 : M.ok (w / 67108864) (w / 4194304 % 16) (w / 262144 % 16) (w % 16) 0 = false := hd1
    clear hf e1 e2
    go_enter Tryz.func19, Tryz.ntmps19
    go_wp2_with (first
      | (go_at_call 25; refine (refForm _ _).mono ?_; rintro e w'' ⟨rfl, rfl⟩)
      | (go_at_call 40; refine (refEncode_no _ _ _ _ _ _ hd1 (by omega) (by omega)).mono ?_; rintro e w2 ⟨rfl, up2⟩; obtain ⟨l0, l1, l2, l3, l4, l5⟩ := ((Box.new2 _ _ _ _ _ _ _ _).up up2).open; have bx := ((Box.new _ _ _ _ _ _ _).up ((Up.refl _).alloc _)).up up2; obtain ⟨m0, m1, m2, m3, m4, m5⟩ := bx.open; have fr := bx.fr; clear bx))
    refine bodyPost_ret (by simp [results, Tryz.results19, go_sem, m0, m1, m2, m3, m4]; try rfl) rfl ?_
    have s0 : Up W w2 := (((Up.refl _).alloc _).alloc _).trans up2
    exact ⟨rfl, ((((s0.setCell (Nat.le_refl _) _).setCell (Nat.le_refl _) _).setCell (Nat.le_refl _) _).setCell (Nat.le_refl _) _).setCell (Nat.le_refl _) _⟩
  · have hb : (M.form (w / 67108864) == 1) = false := beq_eq_false_iff_ne.2 hf
    have e1 : M.dRb w = 0 := if_neg hf
    have e2 : M.dImm w = M.S w 18 := if_neg hf
    rw [e1, e2] at hd1
    replace hd1 : M.ok (w / 67108864) (w / 4194304 % 16) (w / 262144 % 16) 0 (M.S w 18) = false := hd1
    clear hf e1 e2
    go_enter Tryz.func19, Tryz.ntmps19
    go_wp2_with (first
      | (go_at_call 25; refine (refForm _ _).mono ?_; rintro e w'' ⟨rfl, rfl⟩)
      | (go_at_call 39; refine (sign _ _ _ (by omega) (by omega) (by omega) (by omega)).mono ?_; rintro e w'' ⟨rfl, q, rfl⟩)
      | (go_at_call 40; refine (refEncode_no _ _ _ _ _ _ hd1 (by omega) (by omega)).mono ?_; rintro e w2 ⟨rfl, up2⟩; obtain ⟨l0, l1, l2, l3, l4, l5⟩ := ((((Box.new2 _ _ _ _ _ _ _ _).drewN q).set4 _).up up2).open; have bx := ((((Box.new _ _ _ _ _ _ _).up ((Up.refl _).alloc _)).drewN q).other (Nat.succ_ne_self _) _).up up2; obtain ⟨m0, m1, m2, m3, m4, m5⟩ := bx.open; have fr := bx.fr; clear bx))
    refine bodyPost_ret (by simp [results, Tryz.results19, go_sem, m0, m1, m2, m3, m4]; try rfl) rfl ?_
    have s0 : Up W w2 := (((((Up.refl _).alloc _).alloc _).drewN q).setCell (Nat.le_succ _) _).trans up2
    exact ⟨rfl, ((((s0.setCell (Nat.le_refl _) _).setCell (Nat.le_refl _) _).setCell (Nat.le_refl _) _).setCell (Nat.le_refl _) _).setCell (Nat.le_refl _) _⟩

set_option maxHeartbeats 400000 in
theorem refDecode_no2 (w : Int) (W : World) (h0 : 0 ≤ w) (h : w < 4294967296) (hd1 : M.ok (M.dOp w) (M.dRd w) (M.dRa w) (M.dRb w) (M.dImm w) = true) (hd3 : (M.word (M.dOp w) (M.dRd w) (M.dRa w) (M.dRb w) (M.dImm w) != w) = true) :
    Calls Tryz.prog 19 #[.int .u32 w] W fun e W' => e = .returned (.tuple #[.agg #[.int .i64 0, .int .i64 0, .int .i64 0, .int .i64 0, .int .i32 0], .bool false]) ∧ Up W W' := by
  have hr := M.S_rng w 18 (by decide) (by decide)
  by_cases hf : M.form (M.dOp w) = 1
  · have hb : (M.form (w / 67108864) == 1) = true := beq_iff_eq.2 hf
    have e1 : M.dRb w = w % 16 := if_pos hf
    have e2 : M.dImm w = 0 := if_pos hf
    rw [e1, e2] at hd1 hd3
    replace hd1 : M.ok (w / 67108864) (w / 4194304 % 16) (w / 262144 % 16) (w % 16) 0 = true := hd1
    replace hd3 : (M.word (w / 67108864) (w / 4194304 % 16) (w / 262144 % 16) (w % 16) 0 != w) = true := hd3
    clear hf e1 e2
    go_enter Tryz.func19, Tryz.ntmps19
    go_wp2_with (first
      | (go_at_call 25; refine (refForm _ _).mono ?_; rintro e w'' ⟨rfl, rfl⟩)
      | (go_at_call 40; refine (refEncode_yes _ _ _ _ _ _ hd1).mono ?_; rintro e w2 ⟨rfl, up2⟩; obtain ⟨l0, l1, l2, l3, l4, l5⟩ := ((Box.new2 _ _ _ _ _ _ _ _).up up2).open; have bx := ((Box.new _ _ _ _ _ _ _).up ((Up.refl _).alloc _)).up up2; obtain ⟨m0, m1, m2, m3, m4, m5⟩ := bx.open; have fr := bx.fr; clear bx))
    refine bodyPost_ret (by simp [results, Tryz.results19, go_sem, m0, m1, m2, m3, m4]; try rfl) rfl ?_
    have s0 : Up W w2 := (((Up.refl _).alloc _).alloc _).trans up2
    exact ⟨rfl, ((((s0.setCell (Nat.le_refl _) _).setCell (Nat.le_refl _) _).setCell (Nat.le_refl _) _).setCell (Nat.le_refl _) _).setCell (Nat.le_refl _) _⟩
  · have hb : (M.form (w / 67108864) == 1) = false := beq_eq_false_iff_ne.2 hf
    have e1 : M.dRb w = 0 := if_neg hf
    have e2 : M.dImm w = M.S w 18 := if_neg hf
    rw [e1, e2] at hd1 hd3
    replace hd1 : M.ok (w / 67108864) (w / 4194304 % 16) (w / 262144 % 16) 0 (M.S w 18) = true := hd1
    replace hd3 : (M.word (w / 67108864) (w / 4194304 % 16) (w / 262144 % 16) 0 (M.S w 18) != w) = true := hd3
    clear hf e1 e2
    go_enter Tryz.func19, Tryz.ntmps19
    go_wp2_with (first
      | (go_at_call 25; refine (refForm _ _).mono ?_; rintro e w'' ⟨rfl, rfl⟩)
      | (go_at_call 39; refine (sign _ _ _ (by omega) (by omega) (by omega) (by omega)).mono ?_; rintro e w'' ⟨rfl, q, rfl⟩)
      | (go_at_call 40; refine (refEncode_yes _ _ _ _ _ _ hd1).mono ?_; rintro e w2 ⟨rfl, up2⟩; obtain ⟨l0, l1, l2, l3, l4, l5⟩ := ((((Box.new2 _ _ _ _ _ _ _ _).drewN q).set4 _).up up2).open; have bx := ((((Box.new _ _ _ _ _ _ _).up ((Up.refl _).alloc _)).drewN q).other (Nat.succ_ne_self _) _).up up2; obtain ⟨m0, m1, m2, m3, m4, m5⟩ := bx.open; have fr := bx.fr; clear bx))
    refine bodyPost_ret (by simp [results, Tryz.results19, go_sem, m0, m1, m2, m3, m4]; try rfl) rfl ?_
    have s0 : Up W w2 := (((((Up.refl _).alloc _).alloc _).drewN q).setCell (Nat.le_succ _) _).trans up2
    exact ⟨rfl, ((((s0.setCell (Nat.le_refl _) _).setCell (Nat.le_refl _) _).setCell (Nat.le_refl _) _).setCell (Nat.le_refl _) _).setCell (Nat.le_refl _) _⟩

theorem refDecode (w : Int) (W : World) (h0 : 0 ≤ w) (h : w < 4294967296) :
    Calls Tryz.prog 19 #[.int .u32 w] W fun e W' => e = .returned (.tuple #[.agg #[.int .i64 (dI w M.dOp), .int .i64 (dI w M.dRd), .int .i64 (dI w M.dRa), .int .i64 (dI w M.dRb), .int .i32 (dI w M.dImm)], .bool (M.dok w)]) ∧ Up W W' := by
  cases hd : M.dok w
  · have : ∀ f, dI w f = 0 := fun f => by unfold dI; rw [hd]; rfl
    rcases dok_no w hd with hd1 | ⟨hd1, hd3⟩
    · refine (refDecode_no1 w W h0 h hd1).mono fun e w' hh => ?_
      rw [this, this, this, this, this]; exact hh
    · refine (refDecode_no2 w W h0 h hd1 hd3).mono fun e w' hh => ?_
      rw [this, this, this, this, this]; exact hh
  · refine (refDecode_yes w W h0 h hd).mono fun e w' hh => ?_
    have : ∀ f, dI w f = f w := fun f => by unfold dI; rw [if_pos hd]
    rw [this, this, this, this, this]; exact hh

end Go.Proofs.YtokhipjpppfkgaaGreatDoor
