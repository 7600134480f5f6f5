/-
  The law IsaFieldsAreIndependent of package gaolerlaw02 returns true at every input; conditions: the package variables formats and operandsOf of package isa hold what the program's text lays there (the card ties them to it).
-/
import Derived.Test.YtfhgenoecpnkbaaDoorCards
import Derived.Test.YtfhgenoecpnkbaaDoorTie
import Derived.Test.YtfhgenoecpnkbaaDoorFrame
import Derived.Test.YtfhgenoecpnkbaaDoorFiWalk
namespace Go.Proofs.YtfhgenoecpnkbaaDoor.isaFieldsAreIndependent
open Go.ChangeShapes Go.WideShapes Go.ChangeAt Go.RowKit
set_option linter.unusedVariables false

theorem walk (op0 rd0 ra0 rb0 im0 : Int) (op1 rd1 ra1 rb1 im1 : Int) (w00 : (Lit.int .i64 op0).wf = true) (w01 : (Lit.int .i64 rd0).wf = true) (w02 : (Lit.int .i64 ra0).wf = true) (w03 : (Lit.int .i64 rb0).wf = true) (w04 : (Lit.int .i32 im0).wf = true) (w10 : (Lit.int .i64 op1).wf = true) (w11 : (Lit.int .i64 rd1).wf = true) (w12 : (Lit.int .i64 ra1).wf = true) (w13 : (Lit.int .i64 rb1).wf = true) (w14 : (Lit.int .i32 im1).wf = true) (W : World) (T : Tabs W) :
    Calls Tryd.prog 7 #[.agg #[.int .i64 op0, .int .i64 rd0, .int .i64 ra0, .int .i64 rb0, .int .i32 im0], .agg #[.int .i64 op1, .int .i64 rd1, .int .i64 ra1, .int .i64 rb1, .int .i32 im1]] W fun e W' => e = .returned (.bool true) ∧ Up W W' := by
  obtain ⟨i1, i2⟩ := bounds_i32 w04
  obtain ⟨j1, j2⟩ := bounds_i32 w14
  exact fi op0 rd0 ra0 rb0 im0 op1 rd1 ra1 rb1 im1 (by omega) (by omega) (by omega) (by omega) W T


set_option maxRecDepth 100000 in
theorem lifted (os : Os) (started : os.Started) (H : Type) (enc : TypeId × Value → H) :
    ReturnsInHanded {} Tryd.checked os 7 .any (fun w args => (Rows.isaFieldsAreIndependentSpec.pre enc Tryd.prog Tryd.f7 [] false w args ∧ laidMetH Tryd.prog laid2 w) ∧ sizedMet enc Tryd.prog Tryd.f7 (OpenSpec.ofChange Rows.isaFieldsAreIndependentSpec) false w args)
      (Rows.isaFieldsAreIndependentSpec.post enc Tryd.prog Tryd.f7 false true false false) := by
  refine returnsInHanded_of_change_and (C := Tryd.checked) (X := fun w _ => laidMetH Tryd.prog laid2 w) (fun _ _ _ hh h => h.of_heap hh) own started (by kernel_rfl) Tryd.func7
    (ChangeSpec.witness_shaped (enc := enc) (C := Tryd.checked) (os := os) (X := fun w _ => laidMetH Tryd.prog laid2 w) false (World.doorLaid Tryd.prog 26 os) #[.agg #[.int .i64 0, .int .i64 0, .int .i64 0, .int .i64 0, .int .i32 0], .agg #[.int .i64 0, .int .i64 0, .int .i64 0, .int .i64 0, .int .i32 0]] 8 rfl (World.shaped_of_RefB (by kernel_rfl) (by kernel_rfl)) (by kernel_rfl) (by kernel_rfl) (by kernel_rfl) (door_met os _)) ?_
  intro W base args ds gs before hval0 hW _ _ hL _
  have hval : ∀ (j : Nat) t v, Tryd.f7.params[j]? = some t → args[j]? = some v → Value.okWide Tryd.prog W .any base t v := hval0
  have hW' := hW
  obtain ⟨p, q, hA0, hV, rfl, hfz, hnd⟩ := hW
  have hA : DataW.TrodAll enc Tryd.prog W 0 (fun _ => true) true Tryd.f7.params.toList args.toList ds p := hA0
  rw [Tryd.params7] at hA hval
  obtain ⟨v0, vs0, d0, ds0, p0, q0, hargs, rfl, rfl, h0, r0⟩ := trodAll_cons hA
  obtain ⟨v1, vs1, d1, ds1, p1, q1, rfl, rfl, rfl, h1, r1⟩ := trodAll_cons r0
  obtain ⟨rfl, rfl, rfl⟩ := trodAll_nil r1
  obtain rfl : args = #[v0, v1] := by cases args; simp_all
  obtain ⟨rfl, rfl⟩ := trodVars_none hV
  obtain ⟨op0, rd0, ra0, rb0, im0, rfl, rfl, rfl, w00, w01, w02, w03, w04⟩ := open_instr (hval 0 23 v0 rfl rfl) h0
  obtain ⟨op1, rd1, ra1, rb1, im1, rfl, rfl, rfl, w10, w11, w12, w13, w14⟩ := open_instr (hval 1 23 v1 rfl rfl) h1
  clear hA0 hval0
  simp only [List.append_nil] at hW'
  refine (walk op0 rd0 ra0 rb0 im0 op1 rd1 ra1 rb1 im1 w00 w01 w02 w03 w04 w10 w11 w12 w13 w14 W (tabs_of_laid hL)).mono fun e W' ⟨he, hg⟩ => ?_
  subst he
  exact ⟨_, rfl, post_of_same (pa := []) (pv := []) hW' (fun _ _ _ => (trodAll_cons_mk (shut_bool Tryd.underlying4 _) trodAll_mk0)) (fun sp _ => (trodAll_cons_mk (shut_instr w00 w01 w02 w03 w04) (trodAll_cons_mk (shut_instr w10 w11 w12 w13 w14) trodAll_mk0))) (fun _ _ => rfl) rfl
    (hg.below.frame _) hg.frozen (ok_one (by kernel_rfl) rfl (okWide_bool_mk Tryd.underlying4 _))⟩

theorem over : Rows.IsaFieldsAreIndependentSaid :=
  OpenClaim.holds_of_wide 7 Tryd.f7 rfl rfl rfl rfl rfl rfl rfl ⟨rfl, rfl, rfl, rfl, rfl⟩ rfl rfl rfl rfl rfl (by kernel_rfl) Tryd.func7 (by kernel_rfl)
    (of_decide_eq_true (by kernel_rfl)) (by unfold Func.isWrapper; first | (rw [if_pos (by decide +kernel)]; kernel_rfl) | (rw [if_neg (by decide +kernel)]; exact ⟨rfl, rfl⟩))
    (fun os started H enc _ => lifted os started H enc)

/-- THE STATEMENT -/
theorem proved : Rows.IsaFieldsAreIndependentCardSaid :=
  Claim7.holds_tied_plain_at .later [] [.data, .data] true (true, "8f4c7553a649a31191c80203694d133739bf525f6047329ed1e10595af5d955f") false
    over (fun _ h => by cases h) (by kernel_rfl) (fun _ h => by cases h) isaFieldsAreIndependent_row_tie rfl ⟨rfl, rfl⟩ (by kernel_rfl) rfl
    (fun f fn hf hfn => by
      obtain rfl : f = 7 := Option.some.inj ((show Tryd.prog.funcNamed "gaoler/gaolerlaw02.IsaFieldsAreIndependent" = some 7 by kernel_rfl).symm.trans hf) |>.symm
      obtain rfl : fn = Tryd.f7 := (Option.some.inj (Tryd.func7.symm.trans hfn)).symm
      exact ⟨by kernel_rfl, fun j t ht => by
        rw [Tryd.params7] at ht
        have hm : t ∈ [23, 23] := by simpa using Array.mem_of_getElem? ht
        have hall : ([23, 23].all fun u => !Tryd.prog.wantsStandIn u) = true := by kernel_rfl
        exact (show Tryd.prog.wantsStandIn t = false by simpa using List.all_eq_true.1 hall t hm)⟩)
    (by kernel_rfl)
#print axioms proved
end Go.Proofs.YtfhgenoecpnkbaaDoor.isaFieldsAreIndependent
