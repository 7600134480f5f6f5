/-
  The law IsaUnusedBitsMustBeZero walked, case by case. Conditions: the two tables, and those that part the cases.
-/
import Derived.Test.YtfhgenoecpnkbaaDoorAwake
import Derived.Test.YtfhgenoecpnkbaaDoorFlip
namespace Go.Proofs.YtfhgenoecpnkbaaDoor
open Go.ChangeShapes Go.WideShapes Go.ChangeAt Go.RowKit
set_option linter.unusedVariables false

theorem low_1 (op rd ra rb imm : Int) (h : M.ok op rd ra rb imm = true) (hf : M.form op = 1) : M.word op rd ra rb imm % 262144 < 16 := by
  obtain ⟨ho, hd, ha, hb, hi⟩ := M.ok_rng _ _ _ _ _ h
  unfold M.word; rw [if_pos hf]; omega
theorem low_0 (op rd ra rb imm : Int) (h : M.ok op rd ra rb imm = true) (hf : M.form op = 4 ∨ M.form op = 7) : M.word op rd ra rb imm % 262144 = 0 := by
  obtain ⟨ho, hd, ha, hb, hi⟩ := M.ok_rng _ _ _ _ _ h
  obtain ⟨_, _, _, _, h4⟩ := M.ok_parts _ _ _ _ _ h
  have : imm = 0 := by rcases hf with hf | hf <;> (rw [hf] at h4; simpa [M.okImm, M.hasImm, M.hasCsr] using h4)
  unfold M.word; rw [if_neg (by omega)]; omega

/-- which words decode once one bit is turned -/
theorem unused (op0 rd0 ra0 rb0 im0 k : Int) (h : M.ok op0 rd0 ra0 rb0 im0 = true) (k0 : 0 ≤ k) (k1 : k < 18) :
    (M.form op0 = 1 ∧ k < 4 ∧ M.dok (M.I (enc op0 rd0 ra0 rb0 im0) k 1 (1 - M.E (enc op0 rd0 ra0 rb0 im0) k 1)) = true) ∨ (M.form op0 = 1 ∧ ¬ k < 4 ∧ M.dok (M.I (enc op0 rd0 ra0 rb0 im0) k 1 (1 - M.E (enc op0 rd0 ra0 rb0 im0) k 1)) = false)
    ∨ ((M.form op0 = 2 ∨ M.form op0 = 3) ∧ M.dok (M.I (enc op0 rd0 ra0 rb0 im0) k 1 (1 - M.E (enc op0 rd0 ra0 rb0 im0) k 1)) = true)
    ∨ ((M.form op0 = 5 ∨ M.form op0 = 6) ∧ M.E (M.I (enc op0 rd0 ra0 rb0 im0) k 1 (1 - M.E (enc op0 rd0 ra0 rb0 im0) k 1)) 0 18 < 12 ∧ M.dok (M.I (enc op0 rd0 ra0 rb0 im0) k 1 (1 - M.E (enc op0 rd0 ra0 rb0 im0) k 1)) = true) ∨ ((M.form op0 = 5 ∨ M.form op0 = 6) ∧ ¬ M.E (M.I (enc op0 rd0 ra0 rb0 im0) k 1 (1 - M.E (enc op0 rd0 ra0 rb0 im0) k 1)) 0 18 < 12 ∧ M.dok (M.I (enc op0 rd0 ra0 rb0 im0) k 1 (1 - M.E (enc op0 rd0 ra0 rb0 im0) k 1)) = false)
    ∨ ((M.form op0 = 4 ∨ M.form op0 = 7) ∧ M.dok (M.I (enc op0 rd0 ra0 rb0 im0) k 1 (1 - M.E (enc op0 rd0 ra0 rb0 im0) k 1)) = false) := by
  have hr := enc_rng op0 rd0 ra0 rb0 im0
  rw [enc_ok h] at hr ⊢
  have e := M.word_fields _ _ _ _ _ h
  have hh := M.turn_high _ k hr.1 hr.2 k0 k1
  have hl := M.turn_low _ k hr.1 hr.2 k0 k1
  have ht := M.turn_rng _ k hr.2 k0 k1
  have d := M.dok_low op0 rd0 ra0 rb0 im0 (M.turn (M.word op0 rd0 ra0 rb0 im0) k) h (hh.1.trans e.1) (hh.2.1.trans e.2.1) (hh.2.2.trans e.2.2.1)
  have hE : M.E (M.turn (M.word op0 rd0 ra0 rb0 im0) k) 0 18 = M.turn (M.word op0 rd0 ra0 rb0 im0) k % 262144 := by rw [← M.E_eq _ _ _ ht.1]; simp
  show (M.form op0 = 1 ∧ k < 4 ∧ M.dok (M.turn (M.word op0 rd0 ra0 rb0 im0) k) = true) ∨ (M.form op0 = 1 ∧ ¬ k < 4 ∧ M.dok (M.turn (M.word op0 rd0 ra0 rb0 im0) k) = false)
    ∨ ((M.form op0 = 2 ∨ M.form op0 = 3) ∧ M.dok (M.turn (M.word op0 rd0 ra0 rb0 im0) k) = true)
    ∨ ((M.form op0 = 5 ∨ M.form op0 = 6) ∧ M.E (M.turn (M.word op0 rd0 ra0 rb0 im0) k) 0 18 < 12 ∧ M.dok (M.turn (M.word op0 rd0 ra0 rb0 im0) k) = true) ∨ ((M.form op0 = 5 ∨ M.form op0 = 6) ∧ ¬ M.E (M.turn (M.word op0 rd0 ra0 rb0 im0) k) 0 18 < 12 ∧ M.dok (M.turn (M.word op0 rd0 ra0 rb0 im0) k) = false)
    ∨ ((M.form op0 = 4 ∨ M.form op0 = 7) ∧ M.dok (M.turn (M.word op0 rd0 ra0 rb0 im0) k) = false)
  rw [hE]
  obtain ⟨d1, d2, d3, d4⟩ := d
  obtain ⟨p0, _⟩ := M.ok_parts _ _ _ _ _ h
  have l1 := low_1 op0 rd0 ra0 rb0 im0 h
  have l0 := low_0 op0 rd0 ra0 rb0 im0 h
  generalize M.turn (M.word op0 rd0 ra0 rb0 im0) k = t at *
  rcases forms _ (M.form_rng op0) with hf | hf | hf | hf | hf | hf | hf | hf
  · exact absurd hf p0
  · have hk := hl.1 (l1 hf)
    by_cases k4 : k < 4
    · exact .inl ⟨hf, k4, (d1 hf).trans (decide_eq_true (hk.2 k4))⟩
    · exact .inr (.inl ⟨hf, k4, (d1 hf).trans (decide_eq_false (fun c => k4 (hk.1 c)))⟩)
  · exact .inr (.inr (.inl ⟨.inl hf, d2 (.inl hf)⟩))
  · exact .inr (.inr (.inl ⟨.inr hf, d2 (.inr hf)⟩))
  · exact .inr (.inr (.inr (.inr (.inr ⟨.inl hf, (d4 (.inl hf)).trans (decide_eq_false (hl.2 (l0 (.inl hf))))⟩))))
  · by_cases c : t % 262144 < 12
    · exact .inr (.inr (.inr (.inl ⟨.inl hf, c, (d3 (.inl hf)).trans (decide_eq_true c)⟩)))
    · exact .inr (.inr (.inr (.inr (.inl ⟨.inl hf, c, (d3 (.inl hf)).trans (decide_eq_false c)⟩))))
  · by_cases c : t % 262144 < 12
    · exact .inr (.inr (.inr (.inl ⟨.inr hf, c, (d3 (.inr hf)).trans (decide_eq_true c)⟩)))
    · exact .inr (.inr (.inr (.inr (.inl ⟨.inr hf, c, (d3 (.inr hf)).trans (decide_eq_false c)⟩))))
  · exact .inr (.inr (.inr (.inr (.inr ⟨.inr hf, (d4 (.inr hf)).trans (decide_eq_false (hl.2 (l0 (.inr hf))))⟩))))

set_option maxHeartbeats 1000000 in
theorem ub_no (op0 rd0 ra0 rb0 im0 a1 : Int) (i1 : -2147483648 ≤ im0) (i2 : im0 < 2147483648) (s1 : 0 ≤ a1) (s2 : a1 < 256) (W : World) (T : Tabs W) (k0 : M.ok op0 rd0 ra0 rb0 im0 = false) :
    Calls Tryd.prog 5 #[.agg #[.int .i64 op0, .int .i64 rd0, .int .i64 ra0, .int .i64 rb0, .int .i32 im0], .int .u8 a1] W fun e W' => e = .returned (.bool true) ∧ Up W W' := by
  go_enter Tryd.func5, Tryd.ntmps5
  go_wp2_with fail
  refine (awake _ (T.up ((Up.refl W).alloc _))).mono ?_
  rintro e w1 ⟨rfl, up1⟩
  have u1 : Up W w1 := ((Up.refl W).alloc _).trans up1
  have bi1 := (Box.new _ _ _ _ _ _ _).up up1
  obtain ⟨c0, c1, c2, c3, c4, c5⟩ := bi1.open
  go_wp2_with fail
  refine (may _ _ _ _ _ _ (by omega) (by omega)).mono ?_
  rintro e w2 ⟨rfl, up2⟩
  have u2 := u1.trans up2
  have bi2 := bi1.up up2
  clear c0 c1 c2 c3 c4 c5 bi1
  obtain ⟨c0, c1, c2, c3, c4, c5⟩ := bi2.open
  go_wp2_with fail
  refine (awake _ (T.up u2)).mono ?_
  rintro e w9 ⟨rfl, up9⟩
  go_wp2
  go_ret
  exact ⟨rfl, u2.trans up9⟩

set_option maxHeartbeats 1000000 in
theorem ub_1a (op0 rd0 ra0 rb0 im0 a1 : Int) (i1 : -2147483648 ≤ im0) (i2 : im0 < 2147483648) (s1 : 0 ≤ a1) (s2 : a1 < 256) (W : World) (T : Tabs W) (k0 : M.ok op0 rd0 ra0 rb0 im0 = true) (hf : M.form op0 = 1) (hk : a1 % 18 < 4) (hd : M.dok (M.I (enc op0 rd0 ra0 rb0 im0) (a1 % 18) 1 (1 - M.E (enc op0 rd0 ra0 rb0 im0) (a1 % 18) 1)) = true) :
    Calls Tryd.prog 5 #[.agg #[.int .i64 op0, .int .i64 rd0, .int .i64 ra0, .int .i64 rb0, .int .i32 im0], .int .u8 a1] W fun e W' => e = .returned (.bool true) ∧ Up W W' := by
  obtain ⟨r1, r2⟩ := enc_rng op0 rd0 ra0 rb0 im0
  obtain ⟨g1, g2⟩ := M.E1 (enc op0 rd0 ra0 rb0 im0) (a1 % 18) r1
  obtain ⟨r3, r4⟩ : 0 ≤ M.I (enc op0 rd0 ra0 rb0 im0) (a1 % 18) 1 (1 - M.E (enc op0 rd0 ra0 rb0 im0) (a1 % 18) 1) ∧ M.I (enc op0 rd0 ra0 rb0 im0) (a1 % 18) 1 (1 - M.E (enc op0 rd0 ra0 rb0 im0) (a1 % 18) 1) < 4294967296 := M.turn_rng (enc op0 rd0 ra0 rb0 im0) (a1 % 18) r2 (by omega) (by omega)
  go_enter Tryd.func5, Tryd.ntmps5
  go_wp2_with fail
  refine (awake _ (T.up ((Up.refl W).alloc _))).mono ?_
  rintro e w1 ⟨rfl, up1⟩
  have u1 : Up W w1 := ((Up.refl W).alloc _).trans up1
  have bi1 := (Box.new _ _ _ _ _ _ _).up up1
  obtain ⟨c0, c1, c2, c3, c4, c5⟩ := bi1.open
  go_wp2_with fail
  refine (may _ _ _ _ _ _ (by omega) (by omega)).mono ?_
  rintro e w2 ⟨rfl, up2⟩
  have u2 := u1.trans up2
  have bi2 := bi1.up up2
  clear c0 c1 c2 c3 c4 c5 bi1
  obtain ⟨c0, c1, c2, c3, c4, c5⟩ := bi2.open
  go_wp2_with fail
  refine (encode _ _ _ _ _ _ (T.up u2) (by omega) (by omega)).mono ?_
  rintro e w3 ⟨rfl, up3⟩
  have u3 := u2.trans up3
  have bi3 := bi2.up up3
  clear c0 c1 c2 c3 c4 c5 bi2
  obtain ⟨c0, c1, c2, c3, c4, c5⟩ := bi3.open
  go_wp2_with fail
  refine (formatOf _ _ (T.up u3)).mono ?_
  rintro e w4 ⟨rfl, rfl⟩
  go_wp2_with fail
  refine (field _ _ _ _ r1 r2 (by omega) (by omega) (by omega) (by omega)).mono ?_
  rintro e w4 ⟨rfl, q1, rfl⟩
  go_wp2_with fail
  refine (put _ _ _ _ _ r1 r2 (by omega) (by omega) (by omega) (by omega) (by omega)).mono ?_
  rintro e w4 ⟨rfl, q2, rfl⟩
  go_wp2_with fail
  refine (decode _ _ (T.up (u3.drewN _)) r3 r4).mono ?_
  rintro e w5 ⟨rfl, up5⟩
  have u5 := (u3.drewN _).trans up5
  go_wp2
  go_ret
  exact ⟨rfl, u5.alloc _⟩

set_option maxHeartbeats 1000000 in
theorem ub_1b (op0 rd0 ra0 rb0 im0 a1 : Int) (i1 : -2147483648 ≤ im0) (i2 : im0 < 2147483648) (s1 : 0 ≤ a1) (s2 : a1 < 256) (W : World) (T : Tabs W) (k0 : M.ok op0 rd0 ra0 rb0 im0 = true) (hf : M.form op0 = 1) (hk : ¬ a1 % 18 < 4) (hd : M.dok (M.I (enc op0 rd0 ra0 rb0 im0) (a1 % 18) 1 (1 - M.E (enc op0 rd0 ra0 rb0 im0) (a1 % 18) 1)) = false) :
    Calls Tryd.prog 5 #[.agg #[.int .i64 op0, .int .i64 rd0, .int .i64 ra0, .int .i64 rb0, .int .i32 im0], .int .u8 a1] W fun e W' => e = .returned (.bool true) ∧ Up W W' := by
  obtain ⟨r1, r2⟩ := enc_rng op0 rd0 ra0 rb0 im0
  obtain ⟨g1, g2⟩ := M.E1 (enc op0 rd0 ra0 rb0 im0) (a1 % 18) r1
  obtain ⟨r3, r4⟩ : 0 ≤ M.I (enc op0 rd0 ra0 rb0 im0) (a1 % 18) 1 (1 - M.E (enc op0 rd0 ra0 rb0 im0) (a1 % 18) 1) ∧ M.I (enc op0 rd0 ra0 rb0 im0) (a1 % 18) 1 (1 - M.E (enc op0 rd0 ra0 rb0 im0) (a1 % 18) 1) < 4294967296 := M.turn_rng (enc op0 rd0 ra0 rb0 im0) (a1 % 18) r2 (by omega) (by omega)
  go_enter Tryd.func5, Tryd.ntmps5
  go_wp2_with fail
  refine (awake _ (T.up ((Up.refl W).alloc _))).mono ?_
  rintro e w1 ⟨rfl, up1⟩
  have u1 : Up W w1 := ((Up.refl W).alloc _).trans up1
  have bi1 := (Box.new _ _ _ _ _ _ _).up up1
  obtain ⟨c0, c1, c2, c3, c4, c5⟩ := bi1.open
  go_wp2_with fail
  refine (may _ _ _ _ _ _ (by omega) (by omega)).mono ?_
  rintro e w2 ⟨rfl, up2⟩
  have u2 := u1.trans up2
  have bi2 := bi1.up up2
  clear c0 c1 c2 c3 c4 c5 bi1
  obtain ⟨c0, c1, c2, c3, c4, c5⟩ := bi2.open
  go_wp2_with fail
  refine (encode _ _ _ _ _ _ (T.up u2) (by omega) (by omega)).mono ?_
  rintro e w3 ⟨rfl, up3⟩
  have u3 := u2.trans up3
  have bi3 := bi2.up up3
  clear c0 c1 c2 c3 c4 c5 bi2
  obtain ⟨c0, c1, c2, c3, c4, c5⟩ := bi3.open
  go_wp2_with fail
  refine (formatOf _ _ (T.up u3)).mono ?_
  rintro e w4 ⟨rfl, rfl⟩
  go_wp2_with fail
  refine (field _ _ _ _ r1 r2 (by omega) (by omega) (by omega) (by omega)).mono ?_
  rintro e w4 ⟨rfl, q1, rfl⟩
  go_wp2_with fail
  refine (put _ _ _ _ _ r1 r2 (by omega) (by omega) (by omega) (by omega) (by omega)).mono ?_
  rintro e w4 ⟨rfl, q2, rfl⟩
  go_wp2_with fail
  refine (decode _ _ (T.up (u3.drewN _)) r3 r4).mono ?_
  rintro e w5 ⟨rfl, up5⟩
  have u5 := (u3.drewN _).trans up5
  go_wp2
  go_ret
  exact ⟨ret_bool (by simp; omega), u5.alloc _⟩

set_option maxHeartbeats 1000000 in
theorem ub_2 (op0 rd0 ra0 rb0 im0 a1 : Int) (i1 : -2147483648 ≤ im0) (i2 : im0 < 2147483648) (s1 : 0 ≤ a1) (s2 : a1 < 256) (W : World) (T : Tabs W) (k0 : M.ok op0 rd0 ra0 rb0 im0 = true) (hf : M.form op0 = 2) (hd : M.dok (M.I (enc op0 rd0 ra0 rb0 im0) (a1 % 18) 1 (1 - M.E (enc op0 rd0 ra0 rb0 im0) (a1 % 18) 1)) = true) :
    Calls Tryd.prog 5 #[.agg #[.int .i64 op0, .int .i64 rd0, .int .i64 ra0, .int .i64 rb0, .int .i32 im0], .int .u8 a1] W fun e W' => e = .returned (.bool true) ∧ Up W W' := by
  obtain ⟨r1, r2⟩ := enc_rng op0 rd0 ra0 rb0 im0
  obtain ⟨g1, g2⟩ := M.E1 (enc op0 rd0 ra0 rb0 im0) (a1 % 18) r1
  obtain ⟨r3, r4⟩ : 0 ≤ M.I (enc op0 rd0 ra0 rb0 im0) (a1 % 18) 1 (1 - M.E (enc op0 rd0 ra0 rb0 im0) (a1 % 18) 1) ∧ M.I (enc op0 rd0 ra0 rb0 im0) (a1 % 18) 1 (1 - M.E (enc op0 rd0 ra0 rb0 im0) (a1 % 18) 1) < 4294967296 := M.turn_rng (enc op0 rd0 ra0 rb0 im0) (a1 % 18) r2 (by omega) (by omega)
  go_enter Tryd.func5, Tryd.ntmps5
  go_wp2_with fail
  refine (awake _ (T.up ((Up.refl W).alloc _))).mono ?_
  rintro e w1 ⟨rfl, up1⟩
  have u1 : Up W w1 := ((Up.refl W).alloc _).trans up1
  have bi1 := (Box.new _ _ _ _ _ _ _).up up1
  obtain ⟨c0, c1, c2, c3, c4, c5⟩ := bi1.open
  go_wp2_with fail
  refine (may _ _ _ _ _ _ (by omega) (by omega)).mono ?_
  rintro e w2 ⟨rfl, up2⟩
  have u2 := u1.trans up2
  have bi2 := bi1.up up2
  clear c0 c1 c2 c3 c4 c5 bi1
  obtain ⟨c0, c1, c2, c3, c4, c5⟩ := bi2.open
  go_wp2_with fail
  refine (encode _ _ _ _ _ _ (T.up u2) (by omega) (by omega)).mono ?_
  rintro e w3 ⟨rfl, up3⟩
  have u3 := u2.trans up3
  have bi3 := bi2.up up3
  clear c0 c1 c2 c3 c4 c5 bi2
  obtain ⟨c0, c1, c2, c3, c4, c5⟩ := bi3.open
  go_wp2_with fail
  refine (formatOf _ _ (T.up u3)).mono ?_
  rintro e w4 ⟨rfl, rfl⟩
  go_wp2_with fail
  refine (field _ _ _ _ r1 r2 (by omega) (by omega) (by omega) (by omega)).mono ?_
  rintro e w4 ⟨rfl, q1, rfl⟩
  go_wp2_with fail
  refine (put _ _ _ _ _ r1 r2 (by omega) (by omega) (by omega) (by omega) (by omega)).mono ?_
  rintro e w4 ⟨rfl, q2, rfl⟩
  go_wp2_with fail
  refine (decode _ _ (T.up (u3.drewN _)) r3 r4).mono ?_
  rintro e w5 ⟨rfl, up5⟩
  have u5 := (u3.drewN _).trans up5
  go_wp2
  go_ret
  exact ⟨rfl, u5.alloc _⟩

set_option maxHeartbeats 1000000 in
theorem ub_3 (op0 rd0 ra0 rb0 im0 a1 : Int) (i1 : -2147483648 ≤ im0) (i2 : im0 < 2147483648) (s1 : 0 ≤ a1) (s2 : a1 < 256) (W : World) (T : Tabs W) (k0 : M.ok op0 rd0 ra0 rb0 im0 = true) (hf : M.form op0 = 3) (hd : M.dok (M.I (enc op0 rd0 ra0 rb0 im0) (a1 % 18) 1 (1 - M.E (enc op0 rd0 ra0 rb0 im0) (a1 % 18) 1)) = true) :
    Calls Tryd.prog 5 #[.agg #[.int .i64 op0, .int .i64 rd0, .int .i64 ra0, .int .i64 rb0, .int .i32 im0], .int .u8 a1] W fun e W' => e = .returned (.bool true) ∧ Up W W' := by
  obtain ⟨r1, r2⟩ := enc_rng op0 rd0 ra0 rb0 im0
  obtain ⟨g1, g2⟩ := M.E1 (enc op0 rd0 ra0 rb0 im0) (a1 % 18) r1
  obtain ⟨r3, r4⟩ : 0 ≤ M.I (enc op0 rd0 ra0 rb0 im0) (a1 % 18) 1 (1 - M.E (enc op0 rd0 ra0 rb0 im0) (a1 % 18) 1) ∧ M.I (enc op0 rd0 ra0 rb0 im0) (a1 % 18) 1 (1 - M.E (enc op0 rd0 ra0 rb0 im0) (a1 % 18) 1) < 4294967296 := M.turn_rng (enc op0 rd0 ra0 rb0 im0) (a1 % 18) r2 (by omega) (by omega)
  go_enter Tryd.func5, Tryd.ntmps5
  go_wp2_with fail
  refine (awake _ (T.up ((Up.refl W).alloc _))).mono ?_
  rintro e w1 ⟨rfl, up1⟩
  have u1 : Up W w1 := ((Up.refl W).alloc _).trans up1
  have bi1 := (Box.new _ _ _ _ _ _ _).up up1
  obtain ⟨c0, c1, c2, c3, c4, c5⟩ := bi1.open
  go_wp2_with fail
  refine (may _ _ _ _ _ _ (by omega) (by omega)).mono ?_
  rintro e w2 ⟨rfl, up2⟩
  have u2 := u1.trans up2
  have bi2 := bi1.up up2
  clear c0 c1 c2 c3 c4 c5 bi1
  obtain ⟨c0, c1, c2, c3, c4, c5⟩ := bi2.open
  go_wp2_with fail
  refine (encode _ _ _ _ _ _ (T.up u2) (by omega) (by omega)).mono ?_
  rintro e w3 ⟨rfl, up3⟩
  have u3 := u2.trans up3
  have bi3 := bi2.up up3
  clear c0 c1 c2 c3 c4 c5 bi2
  obtain ⟨c0, c1, c2, c3, c4, c5⟩ := bi3.open
  go_wp2_with fail
  refine (formatOf _ _ (T.up u3)).mono ?_
  rintro e w4 ⟨rfl, rfl⟩
  go_wp2_with fail
  refine (field _ _ _ _ r1 r2 (by omega) (by omega) (by omega) (by omega)).mono ?_
  rintro e w4 ⟨rfl, q1, rfl⟩
  go_wp2_with fail
  refine (put _ _ _ _ _ r1 r2 (by omega) (by omega) (by omega) (by omega) (by omega)).mono ?_
  rintro e w4 ⟨rfl, q2, rfl⟩
  go_wp2_with fail
  refine (decode _ _ (T.up (u3.drewN _)) r3 r4).mono ?_
  rintro e w5 ⟨rfl, up5⟩
  have u5 := (u3.drewN _).trans up5
  go_wp2
  go_ret
  exact ⟨rfl, u5.alloc _⟩

set_option maxHeartbeats 1000000 in
theorem ub_5a (op0 rd0 ra0 rb0 im0 a1 : Int) (i1 : -2147483648 ≤ im0) (i2 : im0 < 2147483648) (s1 : 0 ≤ a1) (s2 : a1 < 256) (W : World) (T : Tabs W) (k0 : M.ok op0 rd0 ra0 rb0 im0 = true) (hf : M.form op0 = 5) (hk : M.E (M.I (enc op0 rd0 ra0 rb0 im0) (a1 % 18) 1 (1 - M.E (enc op0 rd0 ra0 rb0 im0) (a1 % 18) 1)) 0 18 < 12) (hd : M.dok (M.I (enc op0 rd0 ra0 rb0 im0) (a1 % 18) 1 (1 - M.E (enc op0 rd0 ra0 rb0 im0) (a1 % 18) 1)) = true) :
    Calls Tryd.prog 5 #[.agg #[.int .i64 op0, .int .i64 rd0, .int .i64 ra0, .int .i64 rb0, .int .i32 im0], .int .u8 a1] W fun e W' => e = .returned (.bool true) ∧ Up W W' := by
  obtain ⟨r1, r2⟩ := enc_rng op0 rd0 ra0 rb0 im0
  obtain ⟨g1, g2⟩ := M.E1 (enc op0 rd0 ra0 rb0 im0) (a1 % 18) r1
  obtain ⟨r3, r4⟩ : 0 ≤ M.I (enc op0 rd0 ra0 rb0 im0) (a1 % 18) 1 (1 - M.E (enc op0 rd0 ra0 rb0 im0) (a1 % 18) 1) ∧ M.I (enc op0 rd0 ra0 rb0 im0) (a1 % 18) 1 (1 - M.E (enc op0 rd0 ra0 rb0 im0) (a1 % 18) 1) < 4294967296 := M.turn_rng (enc op0 rd0 ra0 rb0 im0) (a1 % 18) r2 (by omega) (by omega)
  go_enter Tryd.func5, Tryd.ntmps5
  go_wp2_with fail
  refine (awake _ (T.up ((Up.refl W).alloc _))).mono ?_
  rintro e w1 ⟨rfl, up1⟩
  have u1 : Up W w1 := ((Up.refl W).alloc _).trans up1
  have bi1 := (Box.new _ _ _ _ _ _ _).up up1
  obtain ⟨c0, c1, c2, c3, c4, c5⟩ := bi1.open
  go_wp2_with fail
  refine (may _ _ _ _ _ _ (by omega) (by omega)).mono ?_
  rintro e w2 ⟨rfl, up2⟩
  have u2 := u1.trans up2
  have bi2 := bi1.up up2
  clear c0 c1 c2 c3 c4 c5 bi1
  obtain ⟨c0, c1, c2, c3, c4, c5⟩ := bi2.open
  go_wp2_with fail
  refine (encode _ _ _ _ _ _ (T.up u2) (by omega) (by omega)).mono ?_
  rintro e w3 ⟨rfl, up3⟩
  have u3 := u2.trans up3
  have bi3 := bi2.up up3
  clear c0 c1 c2 c3 c4 c5 bi2
  obtain ⟨c0, c1, c2, c3, c4, c5⟩ := bi3.open
  go_wp2_with fail
  refine (formatOf _ _ (T.up u3)).mono ?_
  rintro e w4 ⟨rfl, rfl⟩
  go_wp2_with fail
  refine (field _ _ _ _ r1 r2 (by omega) (by omega) (by omega) (by omega)).mono ?_
  rintro e w4 ⟨rfl, q1, rfl⟩
  go_wp2_with fail
  refine (put _ _ _ _ _ r1 r2 (by omega) (by omega) (by omega) (by omega) (by omega)).mono ?_
  rintro e w4 ⟨rfl, q2, rfl⟩
  go_wp2_with fail
  refine (decode _ _ (T.up (u3.drewN _)) r3 r4).mono ?_
  rintro e w5 ⟨rfl, up5⟩
  have u5 := (u3.drewN _).trans up5
  go_wp2_with fail
  refine (field _ _ _ _ r3 r4 (by omega) (by omega) (by omega) (by omega)).mono ?_
  rintro e w6 ⟨rfl, q3, rfl⟩
  go_wp2
  go_ret
  exact ⟨rfl, (u5.alloc _).drewN _⟩

set_option maxHeartbeats 1000000 in
theorem ub_5b (op0 rd0 ra0 rb0 im0 a1 : Int) (i1 : -2147483648 ≤ im0) (i2 : im0 < 2147483648) (s1 : 0 ≤ a1) (s2 : a1 < 256) (W : World) (T : Tabs W) (k0 : M.ok op0 rd0 ra0 rb0 im0 = true) (hf : M.form op0 = 5) (hk : ¬ M.E (M.I (enc op0 rd0 ra0 rb0 im0) (a1 % 18) 1 (1 - M.E (enc op0 rd0 ra0 rb0 im0) (a1 % 18) 1)) 0 18 < 12) (hd : M.dok (M.I (enc op0 rd0 ra0 rb0 im0) (a1 % 18) 1 (1 - M.E (enc op0 rd0 ra0 rb0 im0) (a1 % 18) 1)) = false) :
    Calls Tryd.prog 5 #[.agg #[.int .i64 op0, .int .i64 rd0, .int .i64 ra0, .int .i64 rb0, .int .i32 im0], .int .u8 a1] W fun e W' => e = .returned (.bool true) ∧ Up W W' := by
  obtain ⟨r1, r2⟩ := enc_rng op0 rd0 ra0 rb0 im0
  obtain ⟨g1, g2⟩ := M.E1 (enc op0 rd0 ra0 rb0 im0) (a1 % 18) r1
  obtain ⟨r3, r4⟩ : 0 ≤ M.I (enc op0 rd0 ra0 rb0 im0) (a1 % 18) 1 (1 - M.E (enc op0 rd0 ra0 rb0 im0) (a1 % 18) 1) ∧ M.I (enc op0 rd0 ra0 rb0 im0) (a1 % 18) 1 (1 - M.E (enc op0 rd0 ra0 rb0 im0) (a1 % 18) 1) < 4294967296 := M.turn_rng (enc op0 rd0 ra0 rb0 im0) (a1 % 18) r2 (by omega) (by omega)
  go_enter Tryd.func5, Tryd.ntmps5
  go_wp2_with fail
  refine (awake _ (T.up ((Up.refl W).alloc _))).mono ?_
  rintro e w1 ⟨rfl, up1⟩
  have u1 : Up W w1 := ((Up.refl W).alloc _).trans up1
  have bi1 := (Box.new _ _ _ _ _ _ _).up up1
  obtain ⟨c0, c1, c2, c3, c4, c5⟩ := bi1.open
  go_wp2_with fail
  refine (may _ _ _ _ _ _ (by omega) (by omega)).mono ?_
  rintro e w2 ⟨rfl, up2⟩
  have u2 := u1.trans up2
  have bi2 := bi1.up up2
  clear c0 c1 c2 c3 c4 c5 bi1
  obtain ⟨c0, c1, c2, c3, c4, c5⟩ := bi2.open
  go_wp2_with fail
  refine (encode _ _ _ _ _ _ (T.up u2) (by omega) (by omega)).mono ?_
  rintro e w3 ⟨rfl, up3⟩
  have u3 := u2.trans up3
  have bi3 := bi2.up up3
  clear c0 c1 c2 c3 c4 c5 bi2
  obtain ⟨c0, c1, c2, c3, c4, c5⟩ := bi3.open
  go_wp2_with fail
  refine (formatOf _ _ (T.up u3)).mono ?_
  rintro e w4 ⟨rfl, rfl⟩
  go_wp2_with fail
  refine (field _ _ _ _ r1 r2 (by omega) (by omega) (by omega) (by omega)).mono ?_
  rintro e w4 ⟨rfl, q1, rfl⟩
  go_wp2_with fail
  refine (put _ _ _ _ _ r1 r2 (by omega) (by omega) (by omega) (by omega) (by omega)).mono ?_
  rintro e w4 ⟨rfl, q2, rfl⟩
  go_wp2_with fail
  refine (decode _ _ (T.up (u3.drewN _)) r3 r4).mono ?_
  rintro e w5 ⟨rfl, up5⟩
  have u5 := (u3.drewN _).trans up5
  go_wp2_with fail
  refine (field _ _ _ _ r3 r4 (by omega) (by omega) (by omega) (by omega)).mono ?_
  rintro e w6 ⟨rfl, q3, rfl⟩
  go_wp2
  go_ret
  exact ⟨ret_bool (by simp; omega), (u5.alloc _).drewN _⟩

set_option maxHeartbeats 1000000 in
theorem ub_6a (op0 rd0 ra0 rb0 im0 a1 : Int) (i1 : -2147483648 ≤ im0) (i2 : im0 < 2147483648) (s1 : 0 ≤ a1) (s2 : a1 < 256) (W : World) (T : Tabs W) (k0 : M.ok op0 rd0 ra0 rb0 im0 = true) (hf : M.form op0 = 6) (hk : M.E (M.I (enc op0 rd0 ra0 rb0 im0) (a1 % 18) 1 (1 - M.E (enc op0 rd0 ra0 rb0 im0) (a1 % 18) 1)) 0 18 < 12) (hd : M.dok (M.I (enc op0 rd0 ra0 rb0 im0) (a1 % 18) 1 (1 - M.E (enc op0 rd0 ra0 rb0 im0) (a1 % 18) 1)) = true) :
    Calls Tryd.prog 5 #[.agg #[.int .i64 op0, .int .i64 rd0, .int .i64 ra0, .int .i64 rb0, .int .i32 im0], .int .u8 a1] W fun e W' => e = .returned (.bool true) ∧ Up W W' := by
  obtain ⟨r1, r2⟩ := enc_rng op0 rd0 ra0 rb0 im0
  obtain ⟨g1, g2⟩ := M.E1 (enc op0 rd0 ra0 rb0 im0) (a1 % 18) r1
  obtain ⟨r3, r4⟩ : 0 ≤ M.I (enc op0 rd0 ra0 rb0 im0) (a1 % 18) 1 (1 - M.E (enc op0 rd0 ra0 rb0 im0) (a1 % 18) 1) ∧ M.I (enc op0 rd0 ra0 rb0 im0) (a1 % 18) 1 (1 - M.E (enc op0 rd0 ra0 rb0 im0) (a1 % 18) 1) < 4294967296 := M.turn_rng (enc op0 rd0 ra0 rb0 im0) (a1 % 18) r2 (by omega) (by omega)
  go_enter Tryd.func5, Tryd.ntmps5
  go_wp2_with fail
  refine (awake _ (T.up ((Up.refl W).alloc _))).mono ?_
  rintro e w1 ⟨rfl, up1⟩
  have u1 : Up W w1 := ((Up.refl W).alloc _).trans up1
  have bi1 := (Box.new _ _ _ _ _ _ _).up up1
  obtain ⟨c0, c1, c2, c3, c4, c5⟩ := bi1.open
  go_wp2_with fail
  refine (may _ _ _ _ _ _ (by omega) (by omega)).mono ?_
  rintro e w2 ⟨rfl, up2⟩
  have u2 := u1.trans up2
  have bi2 := bi1.up up2
  clear c0 c1 c2 c3 c4 c5 bi1
  obtain ⟨c0, c1, c2, c3, c4, c5⟩ := bi2.open
  go_wp2_with fail
  refine (encode _ _ _ _ _ _ (T.up u2) (by omega) (by omega)).mono ?_
  rintro e w3 ⟨rfl, up3⟩
  have u3 := u2.trans up3
  have bi3 := bi2.up up3
  clear c0 c1 c2 c3 c4 c5 bi2
  obtain ⟨c0, c1, c2, c3, c4, c5⟩ := bi3.open
  go_wp2_with fail
  refine (formatOf _ _ (T.up u3)).mono ?_
  rintro e w4 ⟨rfl, rfl⟩
  go_wp2_with fail
  refine (field _ _ _ _ r1 r2 (by omega) (by omega) (by omega) (by omega)).mono ?_
  rintro e w4 ⟨rfl, q1, rfl⟩
  go_wp2_with fail
  refine (put _ _ _ _ _ r1 r2 (by omega) (by omega) (by omega) (by omega) (by omega)).mono ?_
  rintro e w4 ⟨rfl, q2, rfl⟩
  go_wp2_with fail
  refine (decode _ _ (T.up (u3.drewN _)) r3 r4).mono ?_
  rintro e w5 ⟨rfl, up5⟩
  have u5 := (u3.drewN _).trans up5
  go_wp2_with fail
  refine (field _ _ _ _ r3 r4 (by omega) (by omega) (by omega) (by omega)).mono ?_
  rintro e w6 ⟨rfl, q3, rfl⟩
  go_wp2
  go_ret
  exact ⟨rfl, (u5.alloc _).drewN _⟩

set_option maxHeartbeats 1000000 in
theorem ub_6b (op0 rd0 ra0 rb0 im0 a1 : Int) (i1 : -2147483648 ≤ im0) (i2 : im0 < 2147483648) (s1 : 0 ≤ a1) (s2 : a1 < 256) (W : World) (T : Tabs W) (k0 : M.ok op0 rd0 ra0 rb0 im0 = true) (hf : M.form op0 = 6) (hk : ¬ M.E (M.I (enc op0 rd0 ra0 rb0 im0) (a1 % 18) 1 (1 - M.E (enc op0 rd0 ra0 rb0 im0) (a1 % 18) 1)) 0 18 < 12) (hd : M.dok (M.I (enc op0 rd0 ra0 rb0 im0) (a1 % 18) 1 (1 - M.E (enc op0 rd0 ra0 rb0 im0) (a1 % 18) 1)) = false) :
    Calls Tryd.prog 5 #[.agg #[.int .i64 op0, .int .i64 rd0, .int .i64 ra0, .int .i64 rb0, .int .i32 im0], .int .u8 a1] W fun e W' => e = .returned (.bool true) ∧ Up W W' := by
  obtain ⟨r1, r2⟩ := enc_rng op0 rd0 ra0 rb0 im0
  obtain ⟨g1, g2⟩ := M.E1 (enc op0 rd0 ra0 rb0 im0) (a1 % 18) r1
  obtain ⟨r3, r4⟩ : 0 ≤ M.I (enc op0 rd0 ra0 rb0 im0) (a1 % 18) 1 (1 - M.E (enc op0 rd0 ra0 rb0 im0) (a1 % 18) 1) ∧ M.I (enc op0 rd0 ra0 rb0 im0) (a1 % 18) 1 (1 - M.E (enc op0 rd0 ra0 rb0 im0) (a1 % 18) 1) < 4294967296 := M.turn_rng (enc op0 rd0 ra0 rb0 im0) (a1 % 18) r2 (by omega) (by omega)
  go_enter Tryd.func5, Tryd.ntmps5
  go_wp2_with fail
  refine (awake _ (T.up ((Up.refl W).alloc _))).mono ?_
  rintro e w1 ⟨rfl, up1⟩
  have u1 : Up W w1 := ((Up.refl W).alloc _).trans up1
  have bi1 := (Box.new _ _ _ _ _ _ _).up up1
  obtain ⟨c0, c1, c2, c3, c4, c5⟩ := bi1.open
  go_wp2_with fail
  refine (may _ _ _ _ _ _ (by omega) (by omega)).mono ?_
  rintro e w2 ⟨rfl, up2⟩
  have u2 := u1.trans up2
  have bi2 := bi1.up up2
  clear c0 c1 c2 c3 c4 c5 bi1
  obtain ⟨c0, c1, c2, c3, c4, c5⟩ := bi2.open
  go_wp2_with fail
  refine (encode _ _ _ _ _ _ (T.up u2) (by omega) (by omega)).mono ?_
  rintro e w3 ⟨rfl, up3⟩
  have u3 := u2.trans up3
  have bi3 := bi2.up up3
  clear c0 c1 c2 c3 c4 c5 bi2
  obtain ⟨c0, c1, c2, c3, c4, c5⟩ := bi3.open
  go_wp2_with fail
  refine (formatOf _ _ (T.up u3)).mono ?_
  rintro e w4 ⟨rfl, rfl⟩
  go_wp2_with fail
  refine (field _ _ _ _ r1 r2 (by omega) (by omega) (by omega) (by omega)).mono ?_
  rintro e w4 ⟨rfl, q1, rfl⟩
  go_wp2_with fail
  refine (put _ _ _ _ _ r1 r2 (by omega) (by omega) (by omega) (by omega) (by omega)).mono ?_
  rintro e w4 ⟨rfl, q2, rfl⟩
  go_wp2_with fail
  refine (decode _ _ (T.up (u3.drewN _)) r3 r4).mono ?_
  rintro e w5 ⟨rfl, up5⟩
  have u5 := (u3.drewN _).trans up5
  go_wp2_with fail
  refine (field _ _ _ _ r3 r4 (by omega) (by omega) (by omega) (by omega)).mono ?_
  rintro e w6 ⟨rfl, q3, rfl⟩
  go_wp2
  go_ret
  exact ⟨ret_bool (by simp; omega), (u5.alloc _).drewN _⟩

set_option maxHeartbeats 1000000 in
theorem ub_4 (op0 rd0 ra0 rb0 im0 a1 : Int) (i1 : -2147483648 ≤ im0) (i2 : im0 < 2147483648) (s1 : 0 ≤ a1) (s2 : a1 < 256) (W : World) (T : Tabs W) (k0 : M.ok op0 rd0 ra0 rb0 im0 = true) (hf : M.form op0 = 4) (hd : M.dok (M.I (enc op0 rd0 ra0 rb0 im0) (a1 % 18) 1 (1 - M.E (enc op0 rd0 ra0 rb0 im0) (a1 % 18) 1)) = false) :
    Calls Tryd.prog 5 #[.agg #[.int .i64 op0, .int .i64 rd0, .int .i64 ra0, .int .i64 rb0, .int .i32 im0], .int .u8 a1] W fun e W' => e = .returned (.bool true) ∧ Up W W' := by
  obtain ⟨r1, r2⟩ := enc_rng op0 rd0 ra0 rb0 im0
  obtain ⟨g1, g2⟩ := M.E1 (enc op0 rd0 ra0 rb0 im0) (a1 % 18) r1
  obtain ⟨r3, r4⟩ : 0 ≤ M.I (enc op0 rd0 ra0 rb0 im0) (a1 % 18) 1 (1 - M.E (enc op0 rd0 ra0 rb0 im0) (a1 % 18) 1) ∧ M.I (enc op0 rd0 ra0 rb0 im0) (a1 % 18) 1 (1 - M.E (enc op0 rd0 ra0 rb0 im0) (a1 % 18) 1) < 4294967296 := M.turn_rng (enc op0 rd0 ra0 rb0 im0) (a1 % 18) r2 (by omega) (by omega)
  go_enter Tryd.func5, Tryd.ntmps5
  go_wp2_with fail
  refine (awake _ (T.up ((Up.refl W).alloc _))).mono ?_
  rintro e w1 ⟨rfl, up1⟩
  have u1 : Up W w1 := ((Up.refl W).alloc _).trans up1
  have bi1 := (Box.new _ _ _ _ _ _ _).up up1
  obtain ⟨c0, c1, c2, c3, c4, c5⟩ := bi1.open
  go_wp2_with fail
  refine (may _ _ _ _ _ _ (by omega) (by omega)).mono ?_
  rintro e w2 ⟨rfl, up2⟩
  have u2 := u1.trans up2
  have bi2 := bi1.up up2
  clear c0 c1 c2 c3 c4 c5 bi1
  obtain ⟨c0, c1, c2, c3, c4, c5⟩ := bi2.open
  go_wp2_with fail
  refine (encode _ _ _ _ _ _ (T.up u2) (by omega) (by omega)).mono ?_
  rintro e w3 ⟨rfl, up3⟩
  have u3 := u2.trans up3
  have bi3 := bi2.up up3
  clear c0 c1 c2 c3 c4 c5 bi2
  obtain ⟨c0, c1, c2, c3, c4, c5⟩ := bi3.open
  go_wp2_with fail
  refine (formatOf _ _ (T.up u3)).mono ?_
  rintro e w4 ⟨rfl, rfl⟩
  go_wp2_with fail
  refine (field _ _ _ _ r1 r2 (by omega) (by omega) (by omega) (by omega)).mono ?_
  rintro e w4 ⟨rfl, q1, rfl⟩
  go_wp2_with fail
  refine (put _ _ _ _ _ r1 r2 (by omega) (by omega) (by omega) (by omega) (by omega)).mono ?_
  rintro e w4 ⟨rfl, q2, rfl⟩
  go_wp2_with fail
  refine (decode _ _ (T.up (u3.drewN _)) r3 r4).mono ?_
  rintro e w5 ⟨rfl, up5⟩
  have u5 := (u3.drewN _).trans up5
  go_wp2
  go_ret
  exact ⟨rfl, u5.alloc _⟩

set_option maxHeartbeats 1000000 in
theorem ub_7 (op0 rd0 ra0 rb0 im0 a1 : Int) (i1 : -2147483648 ≤ im0) (i2 : im0 < 2147483648) (s1 : 0 ≤ a1) (s2 : a1 < 256) (W : World) (T : Tabs W) (k0 : M.ok op0 rd0 ra0 rb0 im0 = true) (hf : M.form op0 = 7) (hd : M.dok (M.I (enc op0 rd0 ra0 rb0 im0) (a1 % 18) 1 (1 - M.E (enc op0 rd0 ra0 rb0 im0) (a1 % 18) 1)) = false) :
    Calls Tryd.prog 5 #[.agg #[.int .i64 op0, .int .i64 rd0, .int .i64 ra0, .int .i64 rb0, .int .i32 im0], .int .u8 a1] W fun e W' => e = .returned (.bool true) ∧ Up W W' := by
  obtain ⟨r1, r2⟩ := enc_rng op0 rd0 ra0 rb0 im0
  obtain ⟨g1, g2⟩ := M.E1 (enc op0 rd0 ra0 rb0 im0) (a1 % 18) r1
  obtain ⟨r3, r4⟩ : 0 ≤ M.I (enc op0 rd0 ra0 rb0 im0) (a1 % 18) 1 (1 - M.E (enc op0 rd0 ra0 rb0 im0) (a1 % 18) 1) ∧ M.I (enc op0 rd0 ra0 rb0 im0) (a1 % 18) 1 (1 - M.E (enc op0 rd0 ra0 rb0 im0) (a1 % 18) 1) < 4294967296 := M.turn_rng (enc op0 rd0 ra0 rb0 im0) (a1 % 18) r2 (by omega) (by omega)
  go_enter Tryd.func5, Tryd.ntmps5
  go_wp2_with fail
  refine (awake _ (T.up ((Up.refl W).alloc _))).mono ?_
  rintro e w1 ⟨rfl, up1⟩
  have u1 : Up W w1 := ((Up.refl W).alloc _).trans up1
  have bi1 := (Box.new _ _ _ _ _ _ _).up up1
  obtain ⟨c0, c1, c2, c3, c4, c5⟩ := bi1.open
  go_wp2_with fail
  refine (may _ _ _ _ _ _ (by omega) (by omega)).mono ?_
  rintro e w2 ⟨rfl, up2⟩
  have u2 := u1.trans up2
  have bi2 := bi1.up up2
  clear c0 c1 c2 c3 c4 c5 bi1
  obtain ⟨c0, c1, c2, c3, c4, c5⟩ := bi2.open
  go_wp2_with fail
  refine (encode _ _ _ _ _ _ (T.up u2) (by omega) (by omega)).mono ?_
  rintro e w3 ⟨rfl, up3⟩
  have u3 := u2.trans up3
  have bi3 := bi2.up up3
  clear c0 c1 c2 c3 c4 c5 bi2
  obtain ⟨c0, c1, c2, c3, c4, c5⟩ := bi3.open
  go_wp2_with fail
  refine (formatOf _ _ (T.up u3)).mono ?_
  rintro e w4 ⟨rfl, rfl⟩
  go_wp2_with fail
  refine (field _ _ _ _ r1 r2 (by omega) (by omega) (by omega) (by omega)).mono ?_
  rintro e w4 ⟨rfl, q1, rfl⟩
  go_wp2_with fail
  refine (put _ _ _ _ _ r1 r2 (by omega) (by omega) (by omega) (by omega) (by omega)).mono ?_
  rintro e w4 ⟨rfl, q2, rfl⟩
  go_wp2_with fail
  refine (decode _ _ (T.up (u3.drewN _)) r3 r4).mono ?_
  rintro e w5 ⟨rfl, up5⟩
  have u5 := (u3.drewN _).trans up5
  go_wp2
  go_ret
  exact ⟨rfl, u5.alloc _⟩


theorem ub (op0 rd0 ra0 rb0 im0 a1 : Int) (i1 : -2147483648 ≤ im0) (i2 : im0 < 2147483648) (s1 : 0 ≤ a1) (s2 : a1 < 256) (W : World) (T : Tabs W) :
    Calls Tryd.prog 5 #[.agg #[.int .i64 op0, .int .i64 rd0, .int .i64 ra0, .int .i64 rb0, .int .i32 im0], .int .u8 a1] W fun e W' => e = .returned (.bool true) ∧ Up W W' := by
  cases k0 : M.ok op0 rd0 ra0 rb0 im0
  · exact ub_no op0 rd0 ra0 rb0 im0 a1 i1 i2 s1 s2 W T k0
  rcases unused op0 rd0 ra0 rb0 im0 (a1 % 18) k0 (by omega) (by omega) with ⟨hf, hk, hd⟩ | ⟨hf, hk, hd⟩ | ⟨hf | hf, hd⟩ | ⟨hf | hf, hk, hd⟩ | ⟨hf | hf, hk, hd⟩ | ⟨hf | hf, hd⟩
  · exact ub_1a op0 rd0 ra0 rb0 im0 a1 i1 i2 s1 s2 W T k0 hf hk hd
  · exact ub_1b op0 rd0 ra0 rb0 im0 a1 i1 i2 s1 s2 W T k0 hf hk hd
  · exact ub_2 op0 rd0 ra0 rb0 im0 a1 i1 i2 s1 s2 W T k0 hf hd
  · exact ub_3 op0 rd0 ra0 rb0 im0 a1 i1 i2 s1 s2 W T k0 hf hd
  · exact ub_5a op0 rd0 ra0 rb0 im0 a1 i1 i2 s1 s2 W T k0 hf hk hd
  · exact ub_6a op0 rd0 ra0 rb0 im0 a1 i1 i2 s1 s2 W T k0 hf hk hd
  · exact ub_5b op0 rd0 ra0 rb0 im0 a1 i1 i2 s1 s2 W T k0 hf hk hd
  · exact ub_6b op0 rd0 ra0 rb0 im0 a1 i1 i2 s1 s2 W T k0 hf hk hd
  · exact ub_4 op0 rd0 ra0 rb0 im0 a1 i1 i2 s1 s2 W T k0 hf hd
  · exact ub_7 op0 rd0 ra0 rb0 im0 a1 i1 i2 s1 s2 W T k0 hf hd

end Go.Proofs.YtfhgenoecpnkbaaDoor
