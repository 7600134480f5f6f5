/-
  The law BitsWordFromBits of package gaolerlaw01 returns true at every input (no conditions).
-/
import Derived.Test.YtnpiebpegbbbdaaRows
import Derived.WalkKit
import Derived.ProofKit
import Derived.OpenShut
import Derived.Test.YtnpiebpegbbbdaaCalls
import Derived.Test.YtnpiebpegbbbdaaLaws
namespace Go.Proofs.Ytnpiebpegbbbdaa.bitsWordFromBits
open Go.ChangeShapes Go.WideShapes Go.ChangeAt Go.RowKit
set_option linter.unusedVariables false      -- a walk need not use every 'w<i>' (that an integer argument fits its kind)

theorem own : ownKnob Try.prog.godebug = none := by kernel_rfl

/-- after k rounds the word's bits at the places of those rounds are copied -/
def Rel (w t : Int) (A i : Value) : Prop := ∃ k X : Nat, k ≤ 32 ∧ i = .int .i64 k ∧ A = .int .u32 X ∧ M.Part w.toNat t.toNat k X

theorem I_step (w t : Int) (k X : Nat) (hw : 0 ≤ w) (ht : 0 ≤ t) :
    M.I X (((k : Int) * 7 + t) % 32) 1 (M.E w (((k : Int) * 7 + t) % 32) 1) = (M.ins X ((k * 7 + t.toNat) % 32) 1 (M.ext w.toNat ((k * 7 + t.toNat) % 32) 1) : Nat) := by
  unfold M.I M.E
  rw [Int.toNat_natCast, Int.toNat_natCast, show (((k : Int) * 7 + t) % 32).toNat = (k * 7 + t.toNat) % 32 by omega]; rfl

set_option maxHeartbeats 1000000 in
theorem walk (a0 : Int) (a1 : Int) (a2 : Int) (w0 : (Lit.int .u32 a0).wf = true) (w1 : (Lit.int .u32 a1).wf = true) (w2 : (Lit.int .u8 a2).wf = true) (w : World) :
    Calls Try.prog 7 #[.int .u32 a0, .int .u32 a1, .int .u8 a2] w fun e w' => e = .returned (.bool true) ∧ Grown w w' := by
  obtain ⟨b00, b01⟩ := bounds_u32 w0
  obtain ⟨b10, b11⟩ := bounds_u32 w1
  obtain ⟨b20, b21⟩ := bounds_u8 w2
  clear w0 w1 w2
  go_enter Try.func7, Try.ntmps7
  go_wp2_with (go_at_call 8; refine (awake _).mono ?_; rintro e w' ⟨rfl, rfl⟩)
  go_loop [7, 8] (fun A i => Rel a0 a2 A i) (fun _ i => 32 - (intOf i).toNat)
  case atStart => exact ⟨0, a1.toNat, by omega, rfl, by rw [Int.toNat_of_nonneg b10], M.part_zero _ _ _ (by omega)⟩
  case round =>
    obtain ⟨k, X, hk, rfl, rfl, hp⟩ := hrel
    have hX : X < 4294967296 := hp.1
    by_cases hlt : k < 32
    · have hs := M.part_succ _ _ _ _ hp
      have HS := Lib.hid hs
      clear hs hp
      have q0 : 0 ≤ ((k : Int) * 7 + a2) % 32 := by omega
      have q1 : ((k : Int) * 7 + a2) % 32 ≤ 31 := by omega
      have r1 := M.E_rng a0 (((k : Int) * 7 + a2) % 32) 1 (by omega)
      go_wp2_with (first
        | (go_at_call 8; refine (awake _).mono ?_; rintro e w' ⟨rfl, rfl⟩)
        | (go_at_call 10; refine (extract _ _ _ _ (by omega) (by omega) (by omega) (by omega) (by omega)).mono ?_; rintro e w' ⟨rfl, rfl⟩)
        | (go_at_call 12; refine (insert _ _ _ _ _ (by omega) (by omega) (by omega) (by omega) (by omega) (by omega) (by omega)).mono ?_; rintro e w' ⟨rfl, rfl⟩)
        | (go_at_call 14; refine (signExtend _ _ _ (by omega) (by omega) (by omega) (by omega)).mono ?_; rintro e w' ⟨rfl, rfl⟩)
        | (go_at_call 18; refine (lowBits _ _ _ (by omega) (by omega) (by omega) (by omega)).mono ?_; rintro e w' ⟨rfl, rfl⟩))
      go_round
      case rel => exact ⟨k + 1, _, by omega, by go_num, by rw [I_step a0 a2 k X b00 b20], HS.out⟩
      case measure => simp [intOf]; omega
    · obtain rfl : k = 32 := by omega
      have hXw := M.part_all _ _ _ (show a0.toNat < 2 ^ 32 by omega) (by omega) hp
      have g0 : ((X : Int) == a0) = true := by rw [hXw, beq_iff_eq]; omega
      clear hXw hp
      have hh := M.halves a0 b00 (by omega)
      have hR : -2147483648 ≤ wrap32 a0 ∧ wrap32 a0 < 2147483648 := by unfold wrap32; omega
      have g1 : (M.E a0 0 32 == a0) = true := by rw [M.E_whole a0 b00 (by omega)]; simp
      have g2 : (M.E a0 16 16 * 65536 + M.E a0 0 16 == a0) = true := by rw [hh.1]; simp
      have g3 : (M.I a1 0 32 a0 == a0) = true := by rw [M.I_whole a1 a0 (by omega) b00 (by omega)]; simp
      have g4 : (M.S a0 32 == wrap32 a0) = true := by rw [M.S_32]; simp
      have g5 : (M.L (wrap32 a0) 32 == a0) = true := by rw [M.L_32 a0 b00 (by omega)]; simp
      obtain ⟨_, hh1, hh2, hh3, hh4⟩ := hh
      go_wp2_with (first
        | (go_at_call 8; refine (awake _).mono ?_; rintro e w' ⟨rfl, rfl⟩)
        | (go_at_call 10; refine (extract _ _ _ _ (by omega) (by omega) (by omega) (by omega) (by omega)).mono ?_; rintro e w' ⟨rfl, rfl⟩)
        | (go_at_call 12; refine (insert _ _ _ _ _ (by omega) (by omega) (by omega) (by omega) (by omega) (by omega) (by omega)).mono ?_; rintro e w' ⟨rfl, rfl⟩)
        | (go_at_call 14; refine (signExtend _ _ _ (by omega) (by omega) (by omega) (by omega)).mono ?_; rintro e w' ⟨rfl, rfl⟩)
        | (go_at_call 18; refine (lowBits _ _ _ (by omega) (by omega) (by omega) (by omega)).mono ?_; rintro e w' ⟨rfl, rfl⟩))
      go_ret
      exact ⟨rfl, Grown.refl _⟩

set_option maxRecDepth 100000 in
theorem lifted (os : Os) (started : os.Started) (H : Type) (enc : TypeId × Value → H) :
    ReturnsInHanded {} Try.checked os 7 .any (Rows.bitsWordFromBitsSpec.pre6 enc Try.prog Try.f7 Rows.bitsWordFromBitsRow.domain false) (Rows.bitsWordFromBitsSpec.post enc Try.prog Try.f7 false true false false) := by
  refine returnsInHanded_of_change (C := Try.checked) own started (by kernel_rfl) Try.func7
    (ChangeSpec.witness6 (enc := enc) (C := Try.checked) false ⟨#[], #[.int .u32 0, .int .u32 0, .int .u8 0], []⟩ 8 (by kernel_rfl) (by kernel_rfl) (by kernel_rfl) (by kernel_rfl)) ?_
  intro W base args ds gs before hval0 hW hcnd _
  have hval : ∀ (j : Nat) t v, Try.f7.params[j]? = some t → args[j]? = some v → Value.okWide Try.prog W .any base t v := hval0
  have hW' := hW
  obtain ⟨p, q, hA0, hV, rfl, hfz, hnd⟩ := hW
  have hA : DataW.TrodAll enc Try.prog W 0 (fun _ => true) true Try.f7.params.toList args.toList ds p := hA0
  rw [Try.params7] at hA hval
  obtain ⟨v0, vs0, d0, ds0, p0, q0, hargs, rfl, rfl, h0, r0⟩ := trodAll_cons hA
  obtain ⟨v1, vs1, d1, ds1, p1, q1, rfl, rfl, rfl, h1, r1⟩ := trodAll_cons r0
  obtain ⟨v2, vs2, d2, ds2, p2, q2, rfl, rfl, rfl, h2, r2⟩ := trodAll_cons r1
  obtain ⟨rfl, rfl, rfl⟩ := trodAll_nil r2
  obtain rfl : args = #[v0, v1, v2] := by cases args; simp_all
  obtain ⟨rfl, rfl⟩ := trodVars_none hV
  obtain ⟨a0, rfl, rfl, rfl, w0⟩ := open_int Try.underlying22 (hval 0 22 v0 rfl rfl) h0
  obtain ⟨a1, rfl, rfl, rfl, w1⟩ := open_int Try.underlying22 (hval 1 22 v1 rfl rfl) h1
  obtain ⟨a2, rfl, rfl, rfl, w2⟩ := open_int Try.underlying5 (hval 2 5 v2 rfl rfl) h2
  clear hA0 hval0
  simp only [List.append_nil] at hW'
  refine (walk a0 a1 a2 w0 w1 w2 W).mono fun e W' ⟨he, hg⟩ => ?_
  subst he
  exact ⟨_, rfl, post_of_same (pa := []) (pv := []) hW' (fun _ _ _ => (trodAll_cons_mk (shut_bool Try.underlying4 _) trodAll_mk0)) (fun sp _ => (trodAll_cons_mk (shut_int Try.underlying22 w0) (trodAll_cons_mk (shut_int Try.underlying22 w1) (trodAll_cons_mk (shut_int Try.underlying5 w2) trodAll_mk0)))) (fun _ _ => rfl) rfl
    (hg.frame _) hg.2.1 (ok_one (by kernel_rfl) rfl (okWide_bool_mk Try.underlying4 _))⟩

theorem over : Rows.bitsWordFromBitsRow.holds Try.pinned (OpenSpec.ofChange Rows.bitsWordFromBitsSpec) :=
  OpenClaim.holds_of_wide 7 Try.f7 rfl rfl rfl rfl rfl rfl rfl ⟨rfl, rfl, rfl, rfl, rfl⟩ rfl rfl rfl rfl rfl (by kernel_rfl) Try.func7 (by kernel_rfl)
    (of_decide_eq_true (by kernel_rfl)) (by unfold Func.isWrapper; first | (rw [if_pos (by decide +kernel)]; kernel_rfl) | (rw [if_neg (by decide +kernel)]; exact ⟨rfl, rfl⟩))
    (fun os started H enc _ => lifted os started H enc)

/-- ████ THE STATEMENT ████ -/
theorem proved : Rows.BitsWordFromBitsSaid :=
  over
#print axioms proved
end Go.Proofs.Ytnpiebpegbbbdaa.bitsWordFromBits
