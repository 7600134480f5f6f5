/-
  The law BitsSignRoundTrip of package gaolerlaw01 returns true at every input (no conditions).
-/
import Derived.Test.YtnpiebpegbbbdaaRows
import Derived.WalkKit
import Derived.ProofKit
import Derived.OpenShut
import Derived.Test.YtnpiebpegbbbdaaCalls
import Derived.Test.YtnpiebpegbbbdaaLaws
namespace Go.Proofs.Ytnpiebpegbbbdaa.bitsSignRoundTrip
open Go.ChangeShapes Go.WideShapes Go.ChangeAt Go.RowKit
set_option linter.unusedVariables false      -- a walk need not use every 'w<i>' (that an integer argument fits its kind)

theorem own : ownKnob Try.prog.godebug = none := by kernel_rfl

set_option maxHeartbeats 1000000 in
theorem walk (a0 : Int) (a1 : Int) (a2 : Int) (w0 : (Lit.int .u32 a0).wf = true) (w1 : (Lit.int .i32 a1).wf = true) (w2 : (Lit.int .u8 a2).wf = true) (w : World) :
    Calls Try.prog 5 #[.int .u32 a0, .int .i32 a1, .int .u8 a2] w fun e w' => e = .returned (.bool true) ∧ Grown w w' := by
  obtain ⟨b00, b01⟩ := bounds_u32 w0
  obtain ⟨b10, b11⟩ := bounds_i32 w1
  obtain ⟨b20, b21⟩ := bounds_u8 w2
  clear w0 w1 w2
  have n0 : 1 ≤ 1 + a2 % 32 := by omega
  have n1 : 1 + a2 % 32 ≤ 32 := by omega
  have sr := M.S_rng a0 (1 + a2 % 32) n0 n1
  have lr := M.L_rng a1 (1 + a2 % 32) n1
  have f1 := M.F_S a0 (1 + a2 % 32) n0 n1
  have f2 : (M.L (M.S a0 (1 + a2 % 32)) (1 + a2 % 32) != M.E a0 0 (1 + a2 % 32)) = false := by rw [M.L_S a0 _ b00 n0 n1]; simp
  have f3 : (decide (M.S a0 (1 + a2 % 32) < 0) == (M.E a0 (1 + a2 % 32 - 1) 1 == 1)) = true := by rw [M.S_neg a0 _ b00 n0 n1]; simp
  have f5 := M.F_32 a1 (by omega) (by omega)
  have last : ((1 + a2 % 32 == 32) = true ∧ M.F a1 (1 + a2 % 32) = true ∧ (M.S (M.L a1 (1 + a2 % 32)) (1 + a2 % 32) == a1) = true) ∨ ((1 + a2 % 32 == 32) = false ∧ M.F a1 (1 + a2 % 32) = false ∧ (M.S (M.L a1 (1 + a2 % 32)) (1 + a2 % 32) == a1) = false)
      ∨ ((1 + a2 % 32 == 32) = false ∧ M.F a1 (1 + a2 % 32) = true ∧ (M.S (M.L a1 (1 + a2 % 32)) (1 + a2 % 32) == a1) = true ∧ 1 + a2 % 32 + 1 ≤ 32 ∧ M.F a1 (1 + a2 % 32 + 1) = true) := by
    rw [← M.F_S_L a1 _ n0 n1]
    by_cases h32 : 1 + a2 % 32 = 32
    · rw [h32]; exact Or.inl ⟨rfl, f5, f5⟩
    · have hb : (1 + a2 % 32 == 32) = false := beq_eq_false_iff_ne.2 h32
      cases hF : M.F a1 (1 + a2 % 32)
      · exact Or.inr (Or.inl ⟨hb, rfl, rfl⟩)
      · exact Or.inr (Or.inr ⟨hb, rfl, rfl, by omega, M.F_up a1 _ n0 (by omega) hF⟩)
  rcases last with ⟨g1, g2, g3⟩ | ⟨g1, g2, g3⟩ | ⟨g1, g2, g3, g4, g5⟩
  all_goals
    go_enter Try.func5, Try.ntmps5
    go_wp2_with (first
      | (go_at_call 8; refine (awake _).mono ?_; rintro e w' ⟨rfl, rfl⟩)
      | (go_at_call 10; refine (extract _ _ _ _ (by omega) (by omega) (by omega) (by omega) (by omega)).mono ?_; rintro e w' ⟨rfl, rfl⟩)
      | (go_at_call 12; refine (insert _ _ _ _ _ (by omega) (by omega) (by omega) (by omega) (by omega) (by omega) (by omega)).mono ?_; rintro e w' ⟨rfl, rfl⟩)
      | (go_at_call 14; refine (signExtend _ _ _ (by omega) (by omega) (by omega) (by omega)).mono ?_; rintro e w' ⟨rfl, rfl⟩)
      | (go_at_call 16; refine (fitsSigned _ _ _ (by omega) (by omega) (by omega) (by omega)).mono ?_; rintro e w' ⟨rfl, rfl⟩)
      | (go_at_call 18; refine (lowBits _ _ _ (by omega) (by omega) (by omega) (by omega)).mono ?_; rintro e w' ⟨rfl, rfl⟩))
    go_ret
    exact ⟨rfl, Grown.refl _⟩

set_option maxRecDepth 100000 in
theorem lifted (os : Os) (started : os.Started) (H : Type) (enc : TypeId × Value → H) :
    ReturnsInHanded {} Try.checked os 5 .any (Rows.bitsSignRoundTripSpec.pre6 enc Try.prog Try.f5 Rows.bitsSignRoundTripRow.domain false) (Rows.bitsSignRoundTripSpec.post enc Try.prog Try.f5 false true false false) := by
  refine returnsInHanded_of_change (C := Try.checked) own started (by kernel_rfl) Try.func5
    (ChangeSpec.witness6 (enc := enc) (C := Try.checked) false ⟨#[], #[.int .u32 0, .int .i32 0, .int .u8 0], []⟩ 8 (by kernel_rfl) (by kernel_rfl) (by kernel_rfl) (by kernel_rfl)) ?_
  intro W base args ds gs before hval0 hW hcnd _
  have hval : ∀ (j : Nat) t v, Try.f5.params[j]? = some t → args[j]? = some v → Value.okWide Try.prog W .any base t v := hval0
  have hW' := hW
  obtain ⟨p, q, hA0, hV, rfl, hfz, hnd⟩ := hW
  have hA : DataW.TrodAll enc Try.prog W 0 (fun _ => true) true Try.f5.params.toList args.toList ds p := hA0
  rw [Try.params5] at hA hval
  obtain ⟨v0, vs0, d0, ds0, p0, q0, hargs, rfl, rfl, h0, r0⟩ := trodAll_cons hA
  obtain ⟨v1, vs1, d1, ds1, p1, q1, rfl, rfl, rfl, h1, r1⟩ := trodAll_cons r0
  obtain ⟨v2, vs2, d2, ds2, p2, q2, rfl, rfl, rfl, h2, r2⟩ := trodAll_cons r1
  obtain ⟨rfl, rfl, rfl⟩ := trodAll_nil r2
  obtain rfl : args = #[v0, v1, v2] := by cases args; simp_all
  obtain ⟨rfl, rfl⟩ := trodVars_none hV
  obtain ⟨a0, rfl, rfl, rfl, w0⟩ := open_int Try.underlying22 (hval 0 22 v0 rfl rfl) h0
  obtain ⟨a1, rfl, rfl, rfl, w1⟩ := open_int Try.underlying21 (hval 1 21 v1 rfl rfl) h1
  obtain ⟨a2, rfl, rfl, rfl, w2⟩ := open_int Try.underlying5 (hval 2 5 v2 rfl rfl) h2
  clear hA0 hval0
  simp only [List.append_nil] at hW'
  refine (walk a0 a1 a2 w0 w1 w2 W).mono fun e W' ⟨he, hg⟩ => ?_
  subst he
  exact ⟨_, rfl, post_of_same (pa := []) (pv := []) hW' (fun _ _ _ => (trodAll_cons_mk (shut_bool Try.underlying4 _) trodAll_mk0)) (fun sp _ => (trodAll_cons_mk (shut_int Try.underlying22 w0) (trodAll_cons_mk (shut_int Try.underlying21 w1) (trodAll_cons_mk (shut_int Try.underlying5 w2) trodAll_mk0)))) (fun _ _ => rfl) rfl
    (hg.frame _) hg.2.1 (ok_one (by kernel_rfl) rfl (okWide_bool_mk Try.underlying4 _))⟩

theorem over : Rows.bitsSignRoundTripRow.holds Try.pinned (OpenSpec.ofChange Rows.bitsSignRoundTripSpec) :=
  OpenClaim.holds_of_wide 5 Try.f5 rfl rfl rfl rfl rfl rfl rfl ⟨rfl, rfl, rfl, rfl, rfl⟩ rfl rfl rfl rfl rfl (by kernel_rfl) Try.func5 (by kernel_rfl)
    (of_decide_eq_true (by kernel_rfl)) (by unfold Func.isWrapper; first | (rw [if_pos (by decide +kernel)]; kernel_rfl) | (rw [if_neg (by decide +kernel)]; exact ⟨rfl, rfl⟩))
    (fun os started H enc _ => lifted os started H enc)

/-- ████ THE STATEMENT ████ -/
theorem proved : Rows.BitsSignRoundTripSaid :=
  over
#print axioms proved
end Go.Proofs.Ytnpiebpegbbbdaa.bitsSignRoundTrip
