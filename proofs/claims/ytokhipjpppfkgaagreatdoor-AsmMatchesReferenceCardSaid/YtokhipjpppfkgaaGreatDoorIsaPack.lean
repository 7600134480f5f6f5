/-
  What pack, Encode, unpack and Decode of package isa return when called: contracts over the translated program. Conditions: those that stand in each theorem.
-/
import Derived.Test.YtokhipjpppfkgaaGreatDoorIsaCalls
namespace Go.Proofs.YtokhipjpppfkgaaGreatDoor
open Go.ChangeShapes Go.WideShapes Go.ChangeAt Go.RowKit
set_option linter.unusedVariables false

set_option maxHeartbeats 400000 in
theorem pack (op rd ra rb imm : Int) (W : World) (T : Tabs W) (h : M.ok op rd ra rb imm = true) :
    Calls Tryz.prog 73 #[.agg #[.int .i64 op, .int .i64 rd, .int .i64 ra, .int .i64 rb, .int .i32 imm]] W fun e W' => e = .returned (.int .u32 (M.word op rd ra rb imm)) ∧ Up W W' := by
  have hr := M.form_rng op
  have hs1 := T.sizeO
  obtain ⟨⟨o1, o2⟩, ⟨d1, d2⟩, ⟨a1, a2⟩, ⟨b1, b2⟩, ⟨i1, i2⟩⟩ := M.ok_rng _ _ _ _ _ h
  have c2 := T.rb (M.form op) (by omega) (by omega)
  have g1 := M.I_rng 0 26 6 op (by decide) (by decide) (by decide) (by decide)
  have g2 := M.I_rng (M.I 0 26 6 op) 22 4 rd g1.2 (by decide) (by decide) (by decide)
  have g3 := M.I_rng (M.I (M.I 0 26 6 op) 22 4 rd) 18 4 ra g2.2 (by decide) (by decide) (by decide)
  have g4 := M.L_rng imm 18 (by decide)
  rcases M.hasRb_form op with ⟨hf, hb⟩ | ⟨hf, hb⟩
  · have HE := Lib.hid (M.pack_rb op rd ra rb imm h hf)
    clear hf h
    go_enter Tryz.func73, Tryz.ntmps73
    go_wp2_with (first
      | (go_at_call 41; refine (formatOf _ _ (T.up ((Up.refl _).alloc _))).mono ?_; rintro e w' ⟨rfl, rfl⟩)
      | (go_at_call 90; refine (insert _ _ _ _ _ (by omega) (by omega) (by omega) (by omega) (by omega) (by omega) (by omega)).mono ?_; rintro e w' ⟨rfl, rfl⟩)
      | (go_at_call 91; refine (lowBits _ _ _ (by omega) (by omega) (by omega) (by omega)).mono ?_; rintro e w' ⟨rfl, rfl⟩))
    go_ret
    exact ⟨ret_int HE.out, (Up.refl _).alloc _⟩
  · have HE := Lib.hid (M.pack_imm op rd ra rb imm h hf)
    clear hf h
    go_enter Tryz.func73, Tryz.ntmps73
    go_wp2_with (first
      | (go_at_call 41; refine (formatOf _ _ (T.up ((Up.refl _).alloc _))).mono ?_; rintro e w' ⟨rfl, rfl⟩)
      | (go_at_call 90; refine (insert _ _ _ _ _ (by omega) (by omega) (by omega) (by omega) (by omega) (by omega) (by omega)).mono ?_; rintro e w' ⟨rfl, rfl⟩)
      | (go_at_call 91; refine (lowBits _ _ _ (by omega) (by omega) (by omega) (by omega)).mono ?_; rintro e w' ⟨rfl, rfl⟩))
    go_ret
    exact ⟨ret_int HE.out, (Up.refl _).alloc _⟩

set_option maxHeartbeats 400000 in
theorem encode_yes (op rd ra rb imm : Int) (W : World) (T : Tabs W) (h : M.ok op rd ra rb imm = true) :
    Calls Tryz.prog 56 #[.agg #[.int .i64 op, .int .i64 rd, .int .i64 ra, .int .i64 rb, .int .i32 imm]] W fun e W' => e = .returned (.tuple #[.int .u32 (M.word op rd ra rb imm), .bool true]) ∧ Up W W' := by
  have hr := M.ok_rng _ _ _ _ _ h
  go_enter Tryz.func56, Tryz.ntmps56
  go_wp2_with (first
    | (go_at_call 20; refine (valid _ _ _ _ _ _ (T.up ((Up.refl _).alloc _)) (by omega) (by omega)).mono ?_; rintro e w' ⟨rfl, up⟩; obtain ⟨k0, k1, k2, k3, k4, k5⟩ := ((Box.new _ _ _ _ _ _ _).up up).open)
    | (go_at_call 73; refine (pack _ _ _ _ _ _ (T.up (((Up.refl _).alloc _).trans up)) h).mono ?_; rintro e w'' ⟨rfl, up2⟩))
  go_ret2
  exact ⟨rfl, (((Up.refl _).alloc _).trans up).trans up2⟩

set_option maxHeartbeats 400000 in
theorem encode_no (op rd ra rb imm : Int) (W : World) (T : Tabs W) (h : M.ok op rd ra rb imm = false) (hx0 : -2147483648 ≤ imm) (hx : imm < 2147483648) :
    Calls Tryz.prog 56 #[.agg #[.int .i64 op, .int .i64 rd, .int .i64 ra, .int .i64 rb, .int .i32 imm]] W fun e W' => e = .returned (.tuple #[.int .u32 0, .bool false]) ∧ Up W W' := by
  go_enter Tryz.func56, Tryz.ntmps56
  go_wp2_with (go_at_call 20; refine (valid _ _ _ _ _ _ (T.up ((Up.refl _).alloc _)) (by omega) (by omega)).mono ?_; rintro e w' ⟨rfl, up⟩)
  go_ret2
  exact ⟨rfl, ((Up.refl _).alloc _).trans up⟩

/-- what Encode returns -/
def enc (op rd ra rb imm : Int) : Int := if M.ok op rd ra rb imm = true then M.word op rd ra rb imm else 0

theorem encode (op rd ra rb imm : Int) (W : World) (T : Tabs W) (hx0 : -2147483648 ≤ imm) (hx : imm < 2147483648) :
    Calls Tryz.prog 56 #[.agg #[.int .i64 op, .int .i64 rd, .int .i64 ra, .int .i64 rb, .int .i32 imm]] W fun e W' => e = .returned (.tuple #[.int .u32 (enc op rd ra rb imm), .bool (M.ok op rd ra rb imm)]) ∧ Up W W' := by
  cases h : M.ok op rd ra rb imm
  · refine (encode_no op rd ra rb imm W T h hx0 hx).mono fun e w' hh => ?_
    have : enc op rd ra rb imm = 0 := by unfold enc; rw [h]; rfl
    rw [this]; exact hh
  · refine (encode_yes op rd ra rb imm W T h).mono fun e w' hh => ?_
    have : enc op rd ra rb imm = M.word op rd ra rb imm := by unfold enc; rw [if_pos h]
    rw [this]; exact hh

/-- an instruction as a value -/
def instr (op rd ra rb imm : Int) : Value := .agg #[.int .i64 op, .int .i64 rd, .int .i64 ra, .int .i64 rb, .int .i32 imm]

set_option maxHeartbeats 400000 in
theorem unpack (w : Int) (W : World) (T : Tabs W) (h0 : 0 ≤ w) (h : w < 4294967296) :
    Calls Tryz.prog 75 #[.int .u32 w] W fun e W' => e = .returned (.agg #[.int .i64 (M.dOp w), .int .i64 (M.dRd w), .int .i64 (M.dRa w), .int .i64 (M.dRb w), .int .i32 (M.dImm w)]) ∧ Up W W' := by
  have hr := M.form_rng (M.E w 26 6)
  have hs1 := T.sizeO
  have hs0 : 0 < W.heap.size := by omega
  have hs2 : 1 < W.heap.size + 1 := by omega
  have c2 := T.rb (M.form (M.E w 26 6)) (by omega) (by omega)
  have g1 := M.E_rng w 26 6 (by decide)
  have g2 := M.E_rng w 22 4 (by decide)
  have g3 := M.E_rng w 18 4 (by decide)
  have g4 := M.E_rng w 0 4 (by decide)
  have g5 := M.E_rng w 0 18 (by decide)
  have HO := Lib.hid (M.E_op w h0 h)
  have HD := Lib.hid (M.E_rd w h0)
  have HA := Lib.hid (M.E_ra w h0)
  rcases M.hasRb_form (M.E w 26 6) with ⟨hf, hb⟩ | ⟨hf, hb⟩
  · have HB := Lib.hid (M.E_rb w h0 (by rw [← M.E_op w h0 h]; exact hf))
    have HI := Lib.hid (M.dImm_0 w (by rw [← M.E_op w h0 h]; exact hf))
    clear hf
    go_enter Tryz.func75, Tryz.ntmps75
    go_wp2_with (first
      | (go_at_call 41; refine (formatOf _ _ (T.up (((Up.refl _).alloc _).alloc _))).mono ?_; rintro e w' ⟨rfl, rfl⟩)
      | (go_at_call 92; refine (extract _ _ _ _ (by omega) (by omega) (by omega) (by omega) (by omega)).mono ?_; rintro e w' ⟨rfl, rfl⟩)
      | (go_at_call 93; refine (signExtend _ _ _ (by omega) (by omega) (by omega) (by omega)).mono ?_; rintro e w' ⟨rfl, rfl⟩))
    go_returns
    refine ⟨?_, ((Up.refl _).alloc _).alloc _⟩
    rw [← HO.out, ← HD.out, ← HA.out, ← HB.out, ← HI.out]
  · have HB := Lib.hid (M.dRb_0 w (by rw [← M.E_op w h0 h]; exact hf))
    have HI := Lib.hid (M.E_imm w h0 (by rw [← M.E_op w h0 h]; exact hf))
    clear hf
    go_enter Tryz.func75, Tryz.ntmps75
    go_wp2_with (first
      | (go_at_call 41; refine (formatOf _ _ (T.up (((Up.refl _).alloc _).alloc _))).mono ?_; rintro e w' ⟨rfl, rfl⟩)
      | (go_at_call 92; refine (extract _ _ _ _ (by omega) (by omega) (by omega) (by omega) (by omega)).mono ?_; rintro e w' ⟨rfl, rfl⟩)
      | (go_at_call 93; refine (signExtend _ _ _ (by omega) (by omega) (by omega) (by omega)).mono ?_; rintro e w' ⟨rfl, rfl⟩))
    go_returns
    refine ⟨?_, ((Up.refl _).alloc _).alloc _⟩
    rw [← HO.out, ← HD.out, ← HA.out, ← HB.out, ← HI.out]

theorem dImm_rng (w : Int) : -2147483648 ≤ M.dImm w ∧ M.dImm w < 2147483648 := by
  have h := M.S_rng w 18 (by decide) (by decide)
  unfold M.dImm
  split <;> omega

/-- what Decode returns beside its bool -/
def dI (w : Int) (f : Int → Int) : Int := if M.dok w = true then f w else 0

set_option maxHeartbeats 400000 in
theorem decode_yes (w : Int) (W : World) (T : Tabs W) (h0 : 0 ≤ w) (h : w < 4294967296) (hd : M.dok w = true) :
    Calls Tryz.prog 58 #[.int .u32 w] W fun e W' => e = .returned (.tuple #[.agg #[.int .i64 (M.dOp w), .int .i64 (M.dRd w), .int .i64 (M.dRa w), .int .i64 (M.dRb w), .int .i32 (M.dImm w)], .bool true]) ∧ Up W W' := by
  have hr := dImm_rng w
  unfold M.dok at hd
  simp only [Bool.and_eq_true] at hd
  obtain ⟨hd1, hd2⟩ := hd
  have HW : Hid (M.word (M.dOp w) (M.dRd w) (M.dRa w) (M.dRb w) (M.dImm w) = w) := Lib.hid (by simpa using hd2)
  have hd3 : (M.word (M.dOp w) (M.dRd w) (M.dRa w) (M.dRb w) (M.dImm w) != w) = false := by rw [HW.out]; simp
  clear hd2
  go_enter Tryz.func58, Tryz.ntmps58
  go_wp2_with (first
    | (go_at_call 75; refine (unpack _ _ (T.up ((Up.refl _).alloc _)) (by omega) (by omega)).mono ?_; rintro e w1 ⟨rfl, up1⟩; obtain ⟨k0, k1, k2, k3, k4, k5⟩ := ((Box.new _ _ _ _ _ _ _).up up1).open)
    | (go_at_call 56; refine (encode_yes _ _ _ _ _ _ (T.up ((((Up.refl _).alloc _).trans up1).alloc _)) hd1).mono ?_; rintro e w2 ⟨rfl, up2⟩; obtain ⟨l0, l1, l2, l3, l4, l5⟩ := ((Box.new _ _ _ _ _ _ _).up up2).open; have bx := (((Box.new _ _ _ _ _ _ _).up up1).up ((Up.refl _).alloc _)).up up2; obtain ⟨m0, m1, m2, m3, m4, m5⟩ := bx.open; have fr := bx.fr; clear bx))
  refine bodyPost_ret (by simp [results, Tryz.results58, go_sem, m0, m1, m2, m3, m4]; try rfl) rfl ?_
  have s0 : Up W w2 := ((((Up.refl _).alloc _).trans up1).alloc _).trans up2
  exact ⟨rfl, ((((s0.setCell (Nat.le_refl _) _).setCell (Nat.le_refl _) _).setCell (Nat.le_refl _) _).setCell (Nat.le_refl _) _).setCell (Nat.le_refl _) _⟩

theorem dok_no (w : Int) (hd : M.dok w = false) : M.ok (M.dOp w) (M.dRd w) (M.dRa w) (M.dRb w) (M.dImm w) = false ∨ (M.ok (M.dOp w) (M.dRd w) (M.dRa w) (M.dRb w) (M.dImm w) = true ∧ (M.word (M.dOp w) (M.dRd w) (M.dRa w) (M.dRb w) (M.dImm w) != w) = true) := by
  unfold M.dok at hd
  cases h : M.ok (M.dOp w) (M.dRd w) (M.dRa w) (M.dRb w) (M.dImm w)
  · exact .inl rfl
  · rw [h] at hd
    exact .inr ⟨rfl, by simp at hd; simpa using hd⟩

set_option maxHeartbeats 400000 in
theorem decode_no (w : Int) (W : World) (T : Tabs W) (h0 : 0 ≤ w) (h : w < 4294967296) (hd : M.dok w = false) :
    Calls Tryz.prog 58 #[.int .u32 w] W fun e W' => e = .returned (.tuple #[.agg #[.int .i64 0, .int .i64 0, .int .i64 0, .int .i64 0, .int .i32 0], .bool false]) ∧ Up W W' := by
  have hr := dImm_rng w
  rcases dok_no w hd with hd1 | ⟨hd1, hd3⟩
  · clear hd
    go_enter Tryz.func58, Tryz.ntmps58
    go_wp2_with (first
      | (go_at_call 75; refine (unpack _ _ (T.up ((Up.refl _).alloc _)) (by omega) (by omega)).mono ?_; rintro e w1 ⟨rfl, up1⟩; obtain ⟨k0, k1, k2, k3, k4, k5⟩ := ((Box.new _ _ _ _ _ _ _).up up1).open)
      | (go_at_call 56; refine (encode_no _ _ _ _ _ _ (T.up ((((Up.refl _).alloc _).trans up1).alloc _)) hd1 (by omega) (by omega)).mono ?_; rintro e w2 ⟨rfl, up2⟩; obtain ⟨l0, l1, l2, l3, l4, l5⟩ := ((Box.new _ _ _ _ _ _ _).up up2).open; have bx := (((Box.new _ _ _ _ _ _ _).up up1).up ((Up.refl _).alloc _)).up up2; obtain ⟨m0, m1, m2, m3, m4, m5⟩ := bx.open; have fr := bx.fr; clear bx))
    refine bodyPost_ret (by simp [results, Tryz.results58, go_sem, m0, m1, m2, m3, m4]; try rfl) rfl ?_
    have s0 : Up W w2 := ((((Up.refl _).alloc _).trans up1).alloc _).trans up2
    exact ⟨rfl, ((((s0.setCell (Nat.le_refl _) _).setCell (Nat.le_refl _) _).setCell (Nat.le_refl _) _).setCell (Nat.le_refl _) _).setCell (Nat.le_refl _) _⟩
  · clear hd
    go_enter Tryz.func58, Tryz.ntmps58
    go_wp2_with (first
      | (go_at_call 75; refine (unpack _ _ (T.up ((Up.refl _).alloc _)) (by omega) (by omega)).mono ?_; rintro e w1 ⟨rfl, up1⟩; obtain ⟨k0, k1, k2, k3, k4, k5⟩ := ((Box.new _ _ _ _ _ _ _).up up1).open)
      | (go_at_call 56; refine (encode_yes _ _ _ _ _ _ (T.up ((((Up.refl _).alloc _).trans up1).alloc _)) hd1).mono ?_; rintro e w2 ⟨rfl, up2⟩; obtain ⟨l0, l1, l2, l3, l4, l5⟩ := ((Box.new _ _ _ _ _ _ _).up up2).open; have bx := (((Box.new _ _ _ _ _ _ _).up up1).up ((Up.refl _).alloc _)).up up2; obtain ⟨m0, m1, m2, m3, m4, m5⟩ := bx.open; have fr := bx.fr; clear bx))
    refine bodyPost_ret (by simp [results, Tryz.results58, go_sem, m0, m1, m2, m3, m4]; try rfl) rfl ?_
    have s0 : Up W w2 := ((((Up.refl _).alloc _).trans up1).alloc _).trans up2
    exact ⟨rfl, ((((s0.setCell (Nat.le_refl _) _).setCell (Nat.le_refl _) _).setCell (Nat.le_refl _) _).setCell (Nat.le_refl _) _).setCell (Nat.le_refl _) _⟩

theorem decode (w : Int) (W : World) (T : Tabs W) (h0 : 0 ≤ w) (h : w < 4294967296) :
    Calls Tryz.prog 58 #[.int .u32 w] W fun e W' => e = .returned (.tuple #[.agg #[.int .i64 (dI w M.dOp), .int .i64 (dI w M.dRd), .int .i64 (dI w M.dRa), .int .i64 (dI w M.dRb), .int .i32 (dI w M.dImm)], .bool (M.dok w)]) ∧ Up W W' := by
  cases hd : M.dok w
  · refine (decode_no w W T h0 h hd).mono fun e w' hh => ?_
    have : ∀ f, dI w f = 0 := fun f => by unfold dI; rw [hd]; rfl
    rw [this, this, this, this, this]; exact hh
  · refine (decode_yes w W T h0 h hd).mono fun e w' hh => ?_
    have : ∀ f, dI w f = f w := fun f => by unfold dI; rw [if_pos hd]
    rw [this, this, this, this, this]; exact hh

end Go.Proofs.YtokhipjpppfkgaaGreatDoor
