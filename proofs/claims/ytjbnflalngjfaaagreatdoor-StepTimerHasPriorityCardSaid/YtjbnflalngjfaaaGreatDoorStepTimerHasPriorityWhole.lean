/-
  The law StepTimerHasPriority of the law package returns true at every input, and each argument reads as it did; conditions: the listed package variables hold what the program's text lays there (the card ties them to it).
-/
import Derived.Test.YtjbnflalngjfaaaGreatDoorCards
import Derived.Test.YtjbnflalngjfaaaGreatDoorTie
import Derived.Test.YtjbnflalngjfaaaGreatDoorPkW
import Derived.Test.YtjbnflalngjfaaaGreatDoorPkT
import Derived.Test.YtjbnflalngjfaaaGreatDoorPkB
import Derived.Test.YtjbnflalngjfaaaGreatDoorPkG
namespace Go.Proofs.YtjbnflalngjfaaaGreatDoor
open Go.ChangeShapes Go.WideShapes Go.ChangeAt Go.RowKit Go.Sort
set_option linter.unusedVariables false

theorem st_on {c : List Int} (h : M.Core c) {t : Int} (t0 : 0 ≤ t) (t1 : t < 18446744073709551616) {S : Int} (hS : c.getD 17 0 = S) : M.Core (((c.set 17 (S / 4 * 4 + S % 2 + 2)).set 26 (t % 4294967296)).set 27 (t / 4294967296)) ∧ M.due (((c.set 17 (S / 4 * 4 + S % 2 + 2)).set 26 (t % 4294967296)).set 27 (t / 4294967296)) t = true ∧ (((c.set 17 (S / 4 * 4 + S % 2 + 2)).set 26 (t % 4294967296)).set 27 (t / 4294967296)).getD 17 0 = S / 4 * 4 + S % 2 + 2 := by
  have hr := h.rng 17
  rw [hS] at hr
  have l := h.len
  have e0 : (((c.set 17 (S / 4 * 4 + S % 2 + 2)).set 26 (t % 4294967296)).set 27 (t / 4294967296)).getD 17 0 = S / 4 * 4 + S % 2 + 2 := by rw [M.getD_set, if_neg (by omega), M.getD_set, if_neg (by omega), M.getD_set, if_pos ⟨rfl, by omega⟩]
  have e9 : (((c.set 17 (S / 4 * 4 + S % 2 + 2)).set 26 (t % 4294967296)).set 27 (t / 4294967296)).getD 26 0 = t % 4294967296 := by rw [M.getD_set, if_neg (by omega), M.getD_set, if_pos ⟨rfl, by rw [List.length_set]; omega⟩]
  have e10 : (((c.set 17 (S / 4 * 4 + S % 2 + 2)).set 26 (t % 4294967296)).set 27 (t / 4294967296)).getD 27 0 = t / 4294967296 := by rw [M.getD_set, if_pos ⟨rfl, by rw [List.length_set, List.length_set]; omega⟩]
  refine ⟨((h.set 17 _ (by omega) (by omega)).set 26 _ (by omega) (by omega)).set 27 _ (by omega) (by omega), ?_, e0⟩
  have i1 : M.ien (((c.set 17 (S / 4 * 4 + S % 2 + 2)).set 26 (t % 4294967296)).set 27 (t / 4294967296)) = true := by
    rw [M.ien_def]
    exact decide_eq_true (by show List.getD _ 17 0 / 2 % 2 = 1; rw [e0]; omega)
  have i2 : M.tcmp (((c.set 17 (S / 4 * 4 + S % 2 + 2)).set 26 (t % 4294967296)).set 27 (t / 4294967296)) ≤ t := by
    show List.getD _ 27 0 * 4294967296 + List.getD _ 26 0 ≤ t
    rw [e9, e10]; omega
  unfold M.due
  rw [i1, decide_eq_true i2]; rfl
theorem st_off {c : List Int} (h : M.Core c) (t : Int) {s : Int} (s0 : 0 ≤ s) (s1 : s < 4294967296) (hs : s / 2 % 2 = 0) : M.Core (c.set 17 s) ∧ M.due (c.set 17 s) t = false := by
  have l := h.len
  have e0 : (c.set 17 s).getD 17 0 = s := by rw [M.getD_set, if_pos ⟨rfl, by omega⟩]
  refine ⟨h.set 17 _ s0 s1, ?_⟩
  have i1 : M.ien (c.set 17 s) = false := by
    rw [M.ien_def]
    exact decide_eq_false (by show ¬ List.getD _ 17 0 / 2 % 2 = 1; rw [e0]; omega)
  unfold M.due
  rw [i1]; rfl
theorem stn_six (c xs ys : List Int) (t : Int) : (M.stn c xs ys false t).k ≠ 6 := by
  rw [M.stn_on]
  have n4 := M.nowK_vals c xs
  by_cases hk : M.nowK c xs = 0
  · cases hp : Is.M.priv (Is.M.dOp (M.fw c xs))
    · rw [M.stp_plain hk hp]
      have := M.ex_k c xs (Is.M.dOp (M.fw c xs)) (Is.M.dRd (M.fw c xs)) (Is.M.dRa (M.fw c xs)) (Is.M.dRb (M.fw c xs)) (Is.M.dImm (M.fw c xs))
      show (M.ex c xs _ _ _ _ _).k ≠ 6
      omega
    · rw [M.stp_priv hk hp]; show (0 : Int) ≠ 6; decide
  · rw [M.stp_trap hk]; show M.nowK c xs ≠ 6; omega
set_option maxRecDepth 100000 in
set_option maxHeartbeats 2000000 in
theorem sti_few (m : Mc) (Ao : Option Addr) (ko : Nat) (os : List Int) (W : World) (hm : m.Ok W) (T : Env2 W) (hos : Bs W Ao ko os) (hx : m.xs.length ≤ 9223372036854775807) (hy : m.ys.length ≤ 9223372036854775807) (hol : os.length ≤ 9223372036854775807) (hf : decide (m.xs.length ≤ 600 ∧ m.ys.length ≤ 600) = false) :
    Calls Tryz.prog 7 #[.agg (mach m), .slice Ao os.length ko] W fun e W' => e = .returned (.bool true) ∧ Dn W W' := by
  have hl := hm.len
  have C0 := Lib.hid fun w => fun (t : Env2 w) => awakeS w t
  have CF := Lib.hid fun w => fun (ow : m.Ok w) => rfew m false w ow hx hy hf
  clear hf
  have HD := Lib.hid (Dn.refl W)
  go_enter Tryz.func7, Tryz.ntmps7
  go_wp2_with (first | ((with_reducible refine wpList_box (vs := (mach m)) ?_ ?_ ?_); rfl; rfl; intro b_v2 w' nn; refine Hid.out ?_))
  refine Lib.hid ?_
  have HL_v2 : Hid (W.heap.size ≤ b_v2) := Lib.hid (Blk.hi nn HD.out.size)
  have d' := nn.dn
  replace HD := Lib.hid (HD.out.trans d')
  have v2 := nn.blk
  clear d' nn
  go_wp2_with (first | (go_at_call 9; (with_reducible refine (C0.out _ (T.dn HD.out)).mono ?_); rintro e w' ⟨rfl, d'⟩; refine Hid.out ?_))
  refine Lib.hid ?_
  replace v2 := v2.dn d'
  replace HD := Lib.hid (HD.out.trans d')
  clear d'
  go_wp2_with (first | ((with_reducible refine load33 v2 hm.len ?_ ?_ ?_); rfl; rfl) | (go_at_call 10; (with_reducible refine (CF.out _ (hm.dn HD.out)).mono ?_); rintro e w' ⟨rfl, d'⟩; refine Hid.out ?_))
  refine Lib.hid ?_
  replace v2 := v2.dn d'
  replace HD := Lib.hid (HD.out.trans d')
  clear d'
  go_wp2_with (first | (go_at_call 9; (with_reducible refine (C0.out _ (T.dn HD.out)).mono ?_); rintro e w' ⟨rfl, d'⟩; refine Hid.out ?_))
  refine Lib.hid ?_
  replace v2 := v2.dn d'
  replace HD := Lib.hid (HD.out.trans d')
  clear d'
  go_wp2_with fail
  go_ret
  exact ⟨rfl, HD.out⟩
set_option maxRecDepth 100000 in
set_option maxHeartbeats 2000000 in
theorem sti_long (m : Mc) (Ao : Option Addr) (ko : Nat) (os : List Int) (W : World) (hm : m.Ok W) (T : Env2 W) (hos : Bs W Ao ko os) (hx : m.xs.length ≤ 9223372036854775807) (hy : m.ys.length ≤ 9223372036854775807) (hol : os.length ≤ 9223372036854775807) (hf : decide (m.xs.length ≤ 600 ∧ m.ys.length ≤ 600) = true) (ho : 600 < os.length) :
    Calls Tryz.prog 7 #[.agg (mach m), .slice Ao os.length ko] W fun e W' => e = .returned (.bool true) ∧ Dn W W' := by
  have hl := hm.len
  have C0 := Lib.hid fun w => fun (t : Env2 w) => awakeS w t
  have CF := Lib.hid fun w => fun (ow : m.Ok w) => rfew m true w ow hx hy hf
  have ho6 : decide ((600 : Int) < os.length) = true := by simp; omega
  have ho7 : (600 : Int) < os.length := by omega
  clear hf
  have HD := Lib.hid (Dn.refl W)
  go_enter Tryz.func7, Tryz.ntmps7
  go_wp2_with (first | ((with_reducible refine wpList_box (vs := (mach m)) ?_ ?_ ?_); rfl; rfl; intro b_v2 w' nn; refine Hid.out ?_))
  refine Lib.hid ?_
  have HL_v2 : Hid (W.heap.size ≤ b_v2) := Lib.hid (Blk.hi nn HD.out.size)
  have d' := nn.dn
  replace HD := Lib.hid (HD.out.trans d')
  have v2 := nn.blk
  clear d' nn
  go_wp2_with (first | (go_at_call 9; (with_reducible refine (C0.out _ (T.dn HD.out)).mono ?_); rintro e w' ⟨rfl, d'⟩; refine Hid.out ?_))
  refine Lib.hid ?_
  replace v2 := v2.dn d'
  replace HD := Lib.hid (HD.out.trans d')
  clear d'
  go_wp2_with (first | ((with_reducible refine load33 v2 hm.len ?_ ?_ ?_); rfl; rfl) | (go_at_call 10; (with_reducible refine (CF.out _ (hm.dn HD.out)).mono ?_); rintro e w' ⟨rfl, d'⟩; refine Hid.out ?_))
  refine Lib.hid ?_
  replace v2 := v2.dn d'
  replace HD := Lib.hid (HD.out.trans d')
  clear d'
  go_wp2_with (first | (go_at_call 9; (with_reducible refine (C0.out _ (T.dn HD.out)).mono ?_); rintro e w' ⟨rfl, d'⟩; refine Hid.out ?_))
  refine Lib.hid ?_
  replace v2 := v2.dn d'
  replace HD := Lib.hid (HD.out.trans d')
  clear d'
  go_wp2_with fail
  go_ret
  exact ⟨rfl, HD.out⟩
set_option maxRecDepth 100000 in
set_option maxHeartbeats 2000000 in
theorem sti_h (m : Mc) (Ao : Option Addr) (ko : Nat) (os : List Int) (W : World) (hm : m.Ok W) (T : Env2 W) (hos : Bs W Ao ko os) (hx : m.xs.length ≤ 9223372036854775807) (hy : m.ys.length ≤ 9223372036854775807) (hol : os.length ≤ 9223372036854775807) (hf : decide (m.xs.length ≤ 600 ∧ m.ys.length ≤ 600) = true) (ho : ¬ 600 < os.length) (hh : m.h = true) :
    Calls Tryz.prog 7 #[.agg (mach m), .slice Ao os.length ko] W fun e W' => e = .returned (.bool true) ∧ Dn W W' := by
  have hl := hm.len
  have C0 := Lib.hid fun w => fun (t : Env2 w) => awakeS w t
  have CF := Lib.hid fun w => fun (ow : m.Ok w) => rfew m true w ow hx hy hf
  have ho6 : decide ((600 : Int) < os.length) = false := by simp; omega
  have ho7 : ¬ (600 : Int) < os.length := by omega
  clear hf
  have HD := Lib.hid (Dn.refl W)
  go_enter Tryz.func7, Tryz.ntmps7
  go_wp2_with (first | ((with_reducible refine wpList_box (vs := (mach m)) ?_ ?_ ?_); rfl; rfl; intro b_v2 w' nn; refine Hid.out ?_))
  refine Lib.hid ?_
  have HL_v2 : Hid (W.heap.size ≤ b_v2) := Lib.hid (Blk.hi nn HD.out.size)
  have d' := nn.dn
  replace HD := Lib.hid (HD.out.trans d')
  have v2 := nn.blk
  clear d' nn
  go_wp2_with (first | (go_at_call 9; (with_reducible refine (C0.out _ (T.dn HD.out)).mono ?_); rintro e w' ⟨rfl, d'⟩; refine Hid.out ?_))
  refine Lib.hid ?_
  replace v2 := v2.dn d'
  replace HD := Lib.hid (HD.out.trans d')
  clear d'
  go_wp2_with (first | ((with_reducible refine load33 v2 hm.len ?_ ?_ ?_); rfl; rfl) | (go_at_call 10; (with_reducible refine (CF.out _ (hm.dn HD.out)).mono ?_); rintro e w' ⟨rfl, d'⟩; refine Hid.out ?_))
  refine Lib.hid ?_
  replace v2 := v2.dn d'
  replace HD := Lib.hid (HD.out.trans d')
  clear d'
  have ck0 := v2.halted hm.len
  rw [hh] at ck0
  go_wp2_with (first | (go_at_call 9; (with_reducible refine (C0.out _ (T.dn HD.out)).mono ?_); rintro e w' ⟨rfl, d'⟩; refine Hid.out ?_))
  refine Lib.hid ?_
  clear ck0
  replace v2 := v2.dn d'
  replace HD := Lib.hid (HD.out.trans d')
  clear d'
  go_wp2_with fail
  go_ret
  exact ⟨rfl, HD.out⟩
set_option maxRecDepth 100000 in
set_option maxHeartbeats 2000000 in
theorem sti_main (m : Mc) (Ao : Option Addr) (ko : Nat) (os : List Int) (W : World) (hm : m.Ok W) (T : Env2 W) (hos : Bs W Ao ko os) (hx : m.xs.length ≤ 9223372036854775807) (hy : m.ys.length ≤ 9223372036854775807) (hol : os.length ≤ 9223372036854775807) (hf : decide (m.xs.length ≤ 600 ∧ m.ys.length ≤ 600) = true) (ho : ¬ 600 < os.length) (hh : m.h = false) :
    Calls Tryz.prog 7 #[.agg (mach m), .slice Ao os.length ko] W fun e W' => e = .returned (.bool true) ∧ Dn W W' := by
  have hl := hm.len
  have hc := hm.core
  have hs : m.xs.length ≤ 600 := by simp only [decide_eq_true_eq] at hf; omega
  have hn : m.ys.length ≤ 600 := by simp only [decide_eq_true_eq] at hf; omega
  have C0 := Lib.hid fun w => fun (t : Env2 w) => awakeS w t
  have CF := Lib.hid fun w => fun (ow : m.Ok w) => rfew m true w ow hx hy hf
  have ho6 : decide ((600 : Int) < os.length) = false := by simp; omega
  have ho7 : ¬ (600 : Int) < os.length := by omega
  clear hf
  have t0 := hm.t0
  have t1_ := hm.t1
  obtain ⟨S, nm17⟩ : ∃ S, m.c.getD 17 0 = S := ⟨_, rfl⟩
  have hS := hc.rng 17
  rw [nm17] at hS
  have S0 := hS.1
  have S1 := hS.2
  clear hS
  have ON := st_on hc t0 t1_ nm17
  obtain ⟨tt, htt⟩ : ∃ tt, m.t = tt := ⟨_, rfl⟩
  rw [htt] at ON t0 t1_
  obtain ⟨c1, ec1⟩ : ∃ c1, m.c.set 17 (S / 4 * 4 + S % 2 + 2) = c1 := ⟨_, rfl⟩
  rw [ec1] at ON
  obtain ⟨c2, ec2⟩ : ∃ c2, c1.set 26 (tt % 4294967296) = c2 := ⟨_, rfl⟩
  rw [ec2] at ON
  obtain ⟨c3, ec3⟩ : ∃ c3, c2.set 27 (tt / 4294967296) = c3 := ⟨_, rfl⟩
  rw [ec3] at ON
  obtain ⟨k3, d3, n3⟩ := ON
  obtain ⟨s1, es1⟩ : ∃ s1, S / 4 * 4 + S % 2 + 2 = s1 := ⟨_, rfl⟩
  have g1 : 2 ≤ s1 ∧ s1 < 4294967296 ∧ (s1 - 2) / 2 % 2 = 0 := by omega
  rw [es1] at n3
  have OF := st_off k3 tt (s := s1 - 2) (by omega) (by omega) g1.2.2
  obtain ⟨c4, ec4⟩ : ∃ c4, c3.set 17 (s1 - 2) = c4 := ⟨_, rfl⟩
  rw [ec4] at OF
  obtain ⟨k4, d4⟩ := OF
  have l1 : c1.length = 29 := by rw [← ec1, List.length_set]; exact hl
  have l2 : c2.length = 29 := by rw [← ec2, List.length_set]; exact l1
  have l3 : c3.length = 29 := k3.len
  have l4 : c4.length = 29 := k4.len
  obtain ⟨o1, eo1⟩ : ∃ o1 : Mc, o1 = { m with c := c1 } := ⟨_, rfl⟩
  obtain ⟨o2, eo2⟩ : ∃ o2 : Mc, o2 = { m with c := c2 } := ⟨_, rfl⟩
  obtain ⟨o3, eo3⟩ : ∃ o3 : Mc, o3 = { m with c := c3 } := ⟨_, rfl⟩
  obtain ⟨o4, eo4⟩ : ∃ o4 : Mc, o4 = { m with c := c4 } := ⟨_, rfl⟩
  have lo1 : o1.c.length = 29 := by rw [eo1]; exact l1
  have lo2 : o2.c.length = 29 := by rw [eo2]; exact l2
  have lo3 : o3.c.length = 29 := by rw [eo3]; exact l3
  have lo4 : o4.c.length = 29 := by rw [eo4]; exact l4
  obtain ⟨o5, eo5⟩ : ∃ o5 : Mc, o5 = { o3 with A := Ao, k := ko, xs := os } := ⟨_, rfl⟩
  have lo5 : o5.c.length = 29 := by rw [eo5]; exact lo3
  have f1 : ({ m with c := m.c.set 17 (S / 4 * 4 + S % 2 + 2) } : Mc) = o1 := by rw [eo1, ec1]
  have f2 : ({ o1 with c := o1.c.set 26 (tt % 4294967296) } : Mc) = o2 := by rw [eo2, eo1, ← ec2]
  have f3 : ({ o2 with c := o2.c.set 27 (tt / 4294967296) } : Mc) = o3 := by rw [eo3, eo2, ← ec3]
  have f4 : ({ o3 with c := o3.c.set 17 (s1 - 2) } : Mc) = o4 := by rw [eo4, eo3, ← ec4]
  have m3 : o3.c.getD 17 0 = s1 := by rw [eo3]; exact n3
  have CA := Lib.hid fun (w : World) (ow : m.Ok w) (t : Env2 w) => stRunS o3 c3 m.xs m.ys false tt (by rw [eo3]) (by rw [eo3]) (by rw [eo3]) (by rw [eo3]; exact hh) (by rw [eo3]; exact htt) _ 6 0 rfl rfl (by omega) (by omega) w (by rw [eo3]; exact ⟨k3, ow.mem, ow.out, ow.t0, ow.t1⟩) t (M.stS_due d3)
  have CB := Lib.hid fun (w : World) (ow : m.Ok w) (hb : Bs w Ao ko os) (t : Env2 w) => stRunS o5 c3 os m.ys false tt (by rw [eo5, eo3]) (by rw [eo5]) (by rw [eo5, eo3]) (by rw [eo5, eo3]; exact hh) (by rw [eo5, eo3]; exact htt) _ 6 0 rfl rfl (by omega) (by omega) w (by rw [eo5, eo3]; exact ⟨k3, hb, ow.out, ow.t0, ow.t1⟩) t (M.stS_due d3)
  obtain ⟨r, hr⟩ : ∃ r, M.stn c4 m.xs m.ys false tt = r := ⟨_, rfl⟩
  have r6 := stn_six c4 m.xs m.ys tt
  have rl := M.stn_len c4 m.xs m.ys false tt
  rw [hr] at r6 rl
  obtain ⟨k, hk⟩ : ∃ k, r.k = k := ⟨_, rfl⟩
  obtain ⟨v, hv⟩ : ∃ v, r.v = v := ⟨_, rfl⟩
  rw [hk] at r6
  have CC := Lib.hid fun (w : World) (ow : m.Ok w) (t : Env2 w) => stRunS o4 c4 m.xs m.ys false tt (by rw [eo4]) (by rw [eo4]) (by rw [eo4]) (by rw [eo4]; exact hh) (by rw [eo4]; exact htt) r k v hk hv (by omega) (by omega) w (by rw [eo4]; exact ⟨k4, ow.mem, ow.out, ow.t0, ow.t1⟩) t ((M.stS_not d4).trans hr)
  have CN := Lib.hid fun (w : World) (ow : m.Ok w) (t : Env2 w) => stRunN o4 c4 m.xs m.ys false tt (by rw [eo4]) (by rw [eo4]) (by rw [eo4]) (by rw [eo4]; exact hh) (by rw [eo4]; exact htt) r k v hk hv (by omega) (by omega) w (by rw [eo4]; exact ⟨k4, ow.mem, ow.out, ow.t0, ow.t1⟩) t hr
  have CM := Lib.hid fun (w : World) (m1 : Mc) (o1 : m1.Ok w) (ow : m.Ok w) (f1 : m1.xs = m.xs) => (by have h := same_yes m1.A m.A m1.k m.k m1.xs.length m.xs.length m1.xs m.xs w o1.mem ow.mem rfl rfl f1 (by rw [f1]; omega); rw [eo3]; exact h : Calls Tryz.prog 19 #[.slice m1.A m1.xs.length m1.k, .slice o3.A o3.xs.length o3.k] w fun e W' => e = .returned (.bool true) ∧ Dn w W')
  have CS := Lib.hid fun (w : World) (m1 m2 : Mc) (o1 : m1.Ok w) (o2 : m2.Ok w) (f1 : Sd r m1) (f2 : Sd r m2) => rsame_s w o1 o2 f1 f2 rfl rfl rfl rfl rfl (by omega) (by omega)
  have q6 := eqTrap_same 6 0
  have qT := eqTrap_same k v
  have h6 : (k != 6) = true := by simpa using r6
  have hbo := Lib.hid hos
  have Ho3 : o3.t = tt ∧ o3.h = false := by rw [eo3]; exact ⟨htt, hh⟩
  replace f1 := Lib.hid f1
  replace f2 := Lib.hid f2
  replace f3 := Lib.hid f3
  replace f4 := Lib.hid f4
  replace eo5 := Lib.hid eo5
  replace k3 := Lib.hid k3
  clear ec1 ec2 ec3 ec4 eo1 eo2 eo3 eo4 es1 hr hk hv d3 d4 k4 n3 r6 rl Ho3 hos
  have HD := Lib.hid (Dn.refl W)
  go_enter Tryz.func7, Tryz.ntmps7
  go_wp2_with (first | ((with_reducible refine wpList_box (vs := (mach m)) ?_ ?_ ?_); rfl; rfl; intro b_v2 w' nn; refine Hid.out ?_))
  refine Lib.hid ?_
  have HL_v2 : Hid (W.heap.size ≤ b_v2) := Lib.hid (Blk.hi nn HD.out.size)
  have d' := nn.dn
  replace hbo := Lib.hid (hbo.out.dn d')
  replace HD := Lib.hid (HD.out.trans d')
  have v2 := nn.blk
  clear d' nn
  go_wp2_with (first | (go_at_call 9; (with_reducible refine (C0.out _ (T.dn HD.out)).mono ?_); rintro e w' ⟨rfl, d'⟩; refine Hid.out ?_))
  refine Lib.hid ?_
  replace v2 := v2.dn d'
  replace hbo := Lib.hid (hbo.out.dn d')
  replace HD := Lib.hid (HD.out.trans d')
  clear d'
  go_wp2_with (first | ((with_reducible refine load33 v2 hl ?_ ?_ ?_); rfl; rfl) | (go_at_call 10; (with_reducible refine (CF.out _ (hm.dn HD.out)).mono ?_); rintro e w' ⟨rfl, d'⟩; refine Hid.out ?_))
  refine Lib.hid ?_
  replace v2 := v2.dn d'
  replace hbo := Lib.hid (hbo.out.dn d')
  replace HD := Lib.hid (HD.out.trans d')
  clear d'
  have ck0 := v2.halted hl
  rw [hh] at ck0
  go_wp2_with (first | ((with_reducible refine load33 v2 hl ?_ ?_ ?_); rfl; rfl) | ((with_reducible refine wpList_alloc zeroMach ?_ ?_); rfl; intro b_v5 w' nn; refine Hid.out ?_))
  refine Lib.hid ?_
  clear ck0
  have n_v2_v5 := Lib.hid (nn.ne _ v2.lt)
  have HL_v5 : Hid (W.heap.size ≤ b_v5) := Lib.hid (Blk.hi nn HD.out.size)
  have d' := nn.dn
  replace v2 := v2.dn d'
  replace hbo := Lib.hid (hbo.out.dn d')
  replace HD := Lib.hid (HD.out.trans d')
  have v5 := nn.blk
  clear d' nn
  go_wp2_with (first | ((with_reducible refine store33 m hl v5 zlen ?_ ?_ ?_ ?_); rfl; rfl; rfl; intro w' r' t'; refine Hid.out ?_))
  refine Lib.hid ?_
  replace hbo := Lib.hid (hbo.out.trn v5 (NoU8.mach _) t')
  replace v2 := v2.trn t' n_v2_v5.out
  replace HD := Lib.hid (HD.out.trn HL_v5.out t')
  clear t' v5
  have v5 := r'
  clear r'
  have ck0 := v2.word hl 17 rfl
  rw [nm17] at ck0
  go_wp2_with (first | ((with_reducible refine storeWord (i := 17) (u := S / 4 * 4 + S % 2 + 2) v5 hl ?_ ?_ ?_ ?_ ?_); rfl; rfl; rfl; rfl; intro w' r' t'; refine Hid.out ?_))
  refine Lib.hid ?_
  clear ck0
  replace hbo := Lib.hid (hbo.out.trn v5 (NoU8.mach _) t')
  replace v2 := v2.trn t' n_v2_v5.out
  rw [f1.out] at r'
  replace HD := Lib.hid (HD.out.trn HL_v5.out t')
  clear t' v5
  have v5 := r'
  clear r'
  have ck0 := v2.time hl
  rw [htt] at ck0
  go_wp2_with (first | ((with_reducible refine storeWord (i := 26) (u := tt % 4294967296) v5 lo1 ?_ ?_ ?_ ?_ ?_); rfl; rfl; rfl; rfl; intro w' r' t'; refine Hid.out ?_))
  refine Lib.hid ?_
  clear ck0
  replace hbo := Lib.hid (hbo.out.trn v5 (NoU8.mach _) t')
  replace v2 := v2.trn t' n_v2_v5.out
  rw [f2.out] at r'
  replace HD := Lib.hid (HD.out.trn HL_v5.out t')
  clear t' v5
  have v5 := r'
  clear r'
  have ck0 := v2.time hl
  rw [htt] at ck0
  go_wp2_with (first | ((with_reducible refine storeWord (i := 27) (u := tt / 4294967296) v5 lo2 ?_ ?_ ?_ ?_ ?_); rfl; rfl; rfl; rfl; intro w' r' t'; refine Hid.out ?_))
  refine Lib.hid ?_
  clear ck0
  replace hbo := Lib.hid (hbo.out.trn v5 (NoU8.mach _) t')
  replace v2 := v2.trn t' n_v2_v5.out
  rw [f3.out] at r'
  replace HD := Lib.hid (HD.out.trn HL_v5.out t')
  clear t' v5
  have v5 := r'
  clear r'
  go_wp2_with (first | ((with_reducible refine load33 v5 lo3 ?_ ?_ ?_); rfl; rfl) | ((with_reducible refine wpList_alloc zeroMach ?_ ?_); rfl; intro b_v6 w' nn; refine Hid.out ?_))
  refine Lib.hid ?_
  have n_v2_v6 := Lib.hid (nn.ne _ v2.lt)
  have n_v5_v6 := Lib.hid (nn.ne _ v5.lt)
  have HL_v6 : Hid (W.heap.size ≤ b_v6) := Lib.hid (Blk.hi nn HD.out.size)
  have d' := nn.dn
  replace v2 := v2.dn d'
  replace v5 := v5.dn d'
  replace hbo := Lib.hid (hbo.out.dn d')
  replace HD := Lib.hid (HD.out.trans d')
  have v6 := nn.blk
  clear d' nn
  go_wp2_with (first | ((with_reducible refine store33 o3 lo3 v6 zlen ?_ ?_ ?_ ?_); rfl; rfl; rfl; intro w' r' t'; refine Hid.out ?_))
  refine Lib.hid ?_
  replace hbo := Lib.hid (hbo.out.trn v6 (NoU8.mach _) t')
  replace v2 := v2.trn t' n_v2_v6.out
  replace v5 := v5.trn t' n_v5_v6.out
  replace HD := Lib.hid (HD.out.trn HL_v6.out t')
  clear t' v6
  have v6 := r'
  clear r'
  go_wp2_with (first | ((with_reducible refine storeMem (A' := Ao) (k' := ko) (n' := os.length) (zs := os) v6 lo3 rfl ?_ ?_ ?_ ?_); rfl; rfl; rfl; intro w' r' t'; refine Hid.out ?_))
  refine Lib.hid ?_
  replace hbo := Lib.hid (hbo.out.trn v6 (NoU8.mach _) t')
  replace v2 := v2.trn t' n_v2_v6.out
  replace v5 := v5.trn t' n_v5_v6.out
  rw [← eo5.out] at r'
  replace HD := Lib.hid (HD.out.trn HL_v6.out t')
  clear t' v6
  have v6 := r'
  clear r'
  go_wp2_with (first | ((with_reducible refine load33 v5 lo3 ?_ ?_ ?_); rfl; rfl) | (go_at_call 11; (with_reducible refine (CA.out _ (hm.dn HD.out) (T.dn HD.out)).mono ?_); rintro e w' ⟨m1, rfl, o_m1, e_m1, d'⟩; refine Hid.out ?_))
  refine Lib.hid ?_
  replace v2 := v2.dn d'
  replace v5 := v5.dn d'
  replace v6 := v6.dn d'
  replace hbo := Lib.hid (hbo.out.dn d')
  replace HD := Lib.hid (HD.out.trans d')
  clear d'
  have l_m1 := o_m1.out.len
  have o_m1 := Lib.hid o_m1.out
  go_wp2_with (first | ((with_reducible refine wpList_alloc zeroMach ?_ ?_); rfl; intro b_v7 w' nn; refine Hid.out ?_))
  refine Lib.hid ?_
  have n_v2_v7 := Lib.hid (nn.ne _ v2.lt)
  have n_v5_v7 := Lib.hid (nn.ne _ v5.lt)
  have n_v6_v7 := Lib.hid (nn.ne _ v6.lt)
  have HL_v7 : Hid (W.heap.size ≤ b_v7) := Lib.hid (Blk.hi nn HD.out.size)
  have d' := nn.dn
  replace v2 := v2.dn d'
  replace v5 := v5.dn d'
  replace v6 := v6.dn d'
  replace o_m1 := Lib.hid (o_m1.out.dn d')
  replace hbo := Lib.hid (hbo.out.dn d')
  replace HD := Lib.hid (HD.out.trans d')
  have v7 := nn.blk
  clear d' nn
  go_wp2_with (first | ((with_reducible refine wpList_alloc zeroTrap ?_ ?_); rfl; intro b_v8 w' nn; refine Hid.out ?_))
  refine Lib.hid ?_
  have n_v2_v8 := Lib.hid (nn.ne _ v2.lt)
  have n_v5_v8 := Lib.hid (nn.ne _ v5.lt)
  have n_v6_v8 := Lib.hid (nn.ne _ v6.lt)
  have n_v7_v8 := Lib.hid (nn.ne _ v7.lt)
  have HL_v8 : Hid (W.heap.size ≤ b_v8) := Lib.hid (Blk.hi nn HD.out.size)
  have d' := nn.dn
  replace v2 := v2.dn d'
  replace v5 := v5.dn d'
  replace v6 := v6.dn d'
  replace v7 := v7.dn d'
  replace o_m1 := Lib.hid (o_m1.out.dn d')
  replace hbo := Lib.hid (hbo.out.dn d')
  replace HD := Lib.hid (HD.out.trans d')
  have v8 := nn.blk
  clear d' nn
  go_wp2_with (first | ((with_reducible refine store33 m1 l_m1 v7 zlen ?_ ?_ ?_ ?_); rfl; rfl; rfl; intro w' r' t'; refine Hid.out ?_))
  refine Lib.hid ?_
  replace o_m1 := Lib.hid (o_m1.out.trn v7 (NoU8.mach _) t')
  replace hbo := Lib.hid (hbo.out.trn v7 (NoU8.mach _) t')
  replace v2 := v2.trn t' n_v2_v7.out
  replace v5 := v5.trn t' n_v5_v7.out
  replace v6 := v6.trn t' n_v6_v7.out
  replace v8 := v8.trn t' n_v7_v8.out.symm
  replace HD := Lib.hid (HD.out.trn HL_v7.out t')
  clear t' v7
  have v7 := r'
  clear r'
  go_wp2_with (first | ((with_reducible refine storeTrap (k := 6) (v := 0) v8 ?_ ?_ ?_ ?_); rfl; rfl; rfl; intro w' r' t'; refine Hid.out ?_))
  refine Lib.hid ?_
  replace o_m1 := Lib.hid (o_m1.out.trn v8 (NoU8.trap _ _) t')
  replace hbo := Lib.hid (hbo.out.trn v8 (NoU8.trap _ _) t')
  replace v2 := v2.trn t' n_v2_v8.out
  replace v5 := v5.trn t' n_v5_v8.out
  replace v6 := v6.trn t' n_v6_v8.out
  replace v7 := v7.trn t' n_v7_v8.out
  replace HD := Lib.hid (HD.out.trn HL_v8.out t')
  clear t' v8
  have v8 := r'
  clear r'
  go_wp2_with (first | ((with_reducible refine load33 v6 lo5 ?_ ?_ ?_); rfl; rfl) | (go_at_call 11; (with_reducible refine (CB.out _ (hm.dn HD.out) hbo.out (T.dn HD.out)).mono ?_); rintro e w' ⟨m2, rfl, o_m2, e_m2, d'⟩; refine Hid.out ?_))
  refine Lib.hid ?_
  replace v2 := v2.dn d'
  replace v5 := v5.dn d'
  replace v6 := v6.dn d'
  replace v7 := v7.dn d'
  replace v8 := v8.dn d'
  replace o_m1 := Lib.hid (o_m1.out.dn d')
  replace hbo := Lib.hid (hbo.out.dn d')
  replace HD := Lib.hid (HD.out.trans d')
  clear d'
  have l_m2 := o_m2.out.len
  have q29 : ∀ w, (Op.equalIn 10000 26 (.agg (ints .u32 m1.c)) (.agg (ints .u32 m2.c))).run Tryz.prog w = .ok true w := fun w => by rw [eq29 l_m1 l_m2, e_m1.out.c, e_m2.out.c, beq_self_eq_true]
  have o_m2 := Lib.hid o_m2.out
  go_wp2_with (first | ((with_reducible refine wpList_alloc zeroMach ?_ ?_); rfl; intro b_v9 w' nn; refine Hid.out ?_))
  refine Lib.hid ?_
  have n_v2_v9 := Lib.hid (nn.ne _ v2.lt)
  have n_v5_v9 := Lib.hid (nn.ne _ v5.lt)
  have n_v6_v9 := Lib.hid (nn.ne _ v6.lt)
  have n_v7_v9 := Lib.hid (nn.ne _ v7.lt)
  have n_v8_v9 := Lib.hid (nn.ne _ v8.lt)
  have HL_v9 : Hid (W.heap.size ≤ b_v9) := Lib.hid (Blk.hi nn HD.out.size)
  have d' := nn.dn
  replace v2 := v2.dn d'
  replace v5 := v5.dn d'
  replace v6 := v6.dn d'
  replace v7 := v7.dn d'
  replace v8 := v8.dn d'
  replace o_m1 := Lib.hid (o_m1.out.dn d')
  replace o_m2 := Lib.hid (o_m2.out.dn d')
  replace hbo := Lib.hid (hbo.out.dn d')
  replace HD := Lib.hid (HD.out.trans d')
  have v9 := nn.blk
  clear d' nn
  go_wp2_with (first | ((with_reducible refine wpList_alloc zeroTrap ?_ ?_); rfl; intro b_v10 w' nn; refine Hid.out ?_))
  refine Lib.hid ?_
  have n_v2_v10 := Lib.hid (nn.ne _ v2.lt)
  have n_v5_v10 := Lib.hid (nn.ne _ v5.lt)
  have n_v6_v10 := Lib.hid (nn.ne _ v6.lt)
  have n_v7_v10 := Lib.hid (nn.ne _ v7.lt)
  have n_v8_v10 := Lib.hid (nn.ne _ v8.lt)
  have n_v9_v10 := Lib.hid (nn.ne _ v9.lt)
  have HL_v10 : Hid (W.heap.size ≤ b_v10) := Lib.hid (Blk.hi nn HD.out.size)
  have d' := nn.dn
  replace v2 := v2.dn d'
  replace v5 := v5.dn d'
  replace v6 := v6.dn d'
  replace v7 := v7.dn d'
  replace v8 := v8.dn d'
  replace v9 := v9.dn d'
  replace o_m1 := Lib.hid (o_m1.out.dn d')
  replace o_m2 := Lib.hid (o_m2.out.dn d')
  replace hbo := Lib.hid (hbo.out.dn d')
  replace HD := Lib.hid (HD.out.trans d')
  have v10 := nn.blk
  clear d' nn
  go_wp2_with (first | ((with_reducible refine store33 m2 l_m2 v9 zlen ?_ ?_ ?_ ?_); rfl; rfl; rfl; intro w' r' t'; refine Hid.out ?_))
  refine Lib.hid ?_
  replace o_m1 := Lib.hid (o_m1.out.trn v9 (NoU8.mach _) t')
  replace o_m2 := Lib.hid (o_m2.out.trn v9 (NoU8.mach _) t')
  replace hbo := Lib.hid (hbo.out.trn v9 (NoU8.mach _) t')
  replace v2 := v2.trn t' n_v2_v9.out
  replace v5 := v5.trn t' n_v5_v9.out
  replace v6 := v6.trn t' n_v6_v9.out
  replace v7 := v7.trn t' n_v7_v9.out
  replace v8 := v8.trn t' n_v8_v9.out
  replace v10 := v10.trn t' n_v9_v10.out.symm
  replace HD := Lib.hid (HD.out.trn HL_v9.out t')
  clear t' v9
  have v9 := r'
  clear r'
  go_wp2_with (first | ((with_reducible refine storeTrap (k := 6) (v := 0) v10 ?_ ?_ ?_ ?_); rfl; rfl; rfl; intro w' r' t'; refine Hid.out ?_))
  refine Lib.hid ?_
  replace o_m1 := Lib.hid (o_m1.out.trn v10 (NoU8.trap _ _) t')
  replace o_m2 := Lib.hid (o_m2.out.trn v10 (NoU8.trap _ _) t')
  replace hbo := Lib.hid (hbo.out.trn v10 (NoU8.trap _ _) t')
  replace v2 := v2.trn t' n_v2_v10.out
  replace v5 := v5.trn t' n_v5_v10.out
  replace v6 := v6.trn t' n_v6_v10.out
  replace v7 := v7.trn t' n_v7_v10.out
  replace v8 := v8.trn t' n_v8_v10.out
  replace v9 := v9.trn t' n_v9_v10.out
  replace HD := Lib.hid (HD.out.trn HL_v10.out t')
  clear t' v10
  have v10 := r'
  clear r'
  go_wp2_with (first | ((with_reducible refine load33 v5 lo3 ?_ ?_ ?_); rfl; rfl) | ((with_reducible refine wpList_alloc zeroMach ?_ ?_); rfl; intro b_v11 w' nn; refine Hid.out ?_))
  refine Lib.hid ?_
  have n_v2_v11 := Lib.hid (nn.ne _ v2.lt)
  have n_v5_v11 := Lib.hid (nn.ne _ v5.lt)
  have n_v6_v11 := Lib.hid (nn.ne _ v6.lt)
  have n_v7_v11 := Lib.hid (nn.ne _ v7.lt)
  have n_v8_v11 := Lib.hid (nn.ne _ v8.lt)
  have n_v9_v11 := Lib.hid (nn.ne _ v9.lt)
  have n_v10_v11 := Lib.hid (nn.ne _ v10.lt)
  have HL_v11 : Hid (W.heap.size ≤ b_v11) := Lib.hid (Blk.hi nn HD.out.size)
  have d' := nn.dn
  replace v2 := v2.dn d'
  replace v5 := v5.dn d'
  replace v6 := v6.dn d'
  replace v7 := v7.dn d'
  replace v8 := v8.dn d'
  replace v9 := v9.dn d'
  replace v10 := v10.dn d'
  replace o_m1 := Lib.hid (o_m1.out.dn d')
  replace o_m2 := Lib.hid (o_m2.out.dn d')
  replace hbo := Lib.hid (hbo.out.dn d')
  replace HD := Lib.hid (HD.out.trans d')
  have v11 := nn.blk
  clear d' nn
  go_wp2_with (first | ((with_reducible refine store33 o3 lo3 v11 zlen ?_ ?_ ?_ ?_); rfl; rfl; rfl; intro w' r' t'; refine Hid.out ?_))
  refine Lib.hid ?_
  replace o_m1 := Lib.hid (o_m1.out.trn v11 (NoU8.mach _) t')
  replace o_m2 := Lib.hid (o_m2.out.trn v11 (NoU8.mach _) t')
  replace hbo := Lib.hid (hbo.out.trn v11 (NoU8.mach _) t')
  replace v2 := v2.trn t' n_v2_v11.out
  replace v5 := v5.trn t' n_v5_v11.out
  replace v6 := v6.trn t' n_v6_v11.out
  replace v7 := v7.trn t' n_v7_v11.out
  replace v8 := v8.trn t' n_v8_v11.out
  replace v9 := v9.trn t' n_v9_v11.out
  replace v10 := v10.trn t' n_v10_v11.out
  replace HD := Lib.hid (HD.out.trn HL_v11.out t')
  clear t' v11
  have v11 := r'
  clear r'
  have ck0 := v5.word lo3 17 rfl
  rw [m3] at ck0
  go_wp2_with (first | ((with_reducible refine storeWord (i := 17) (u := s1 - 2) v11 lo3 ?_ ?_ ?_ ?_ ?_); rfl; rfl; rfl; rfl; intro w' r' t'; refine Hid.out ?_))
  refine Lib.hid ?_
  clear ck0
  replace o_m1 := Lib.hid (o_m1.out.trn v11 (NoU8.mach _) t')
  replace o_m2 := Lib.hid (o_m2.out.trn v11 (NoU8.mach _) t')
  replace hbo := Lib.hid (hbo.out.trn v11 (NoU8.mach _) t')
  replace v2 := v2.trn t' n_v2_v11.out
  replace v5 := v5.trn t' n_v5_v11.out
  replace v6 := v6.trn t' n_v6_v11.out
  replace v7 := v7.trn t' n_v7_v11.out
  replace v8 := v8.trn t' n_v8_v11.out
  replace v9 := v9.trn t' n_v9_v11.out
  replace v10 := v10.trn t' n_v10_v11.out
  rw [f4.out] at r'
  replace HD := Lib.hid (HD.out.trn HL_v11.out t')
  clear t' v11
  have v11 := r'
  clear r'
  go_wp2_with (first | ((with_reducible refine load33 v11 lo4 ?_ ?_ ?_); rfl; rfl) | (go_at_call 11; (with_reducible refine (CC.out _ (hm.dn HD.out) (T.dn HD.out)).mono ?_); rintro e w' ⟨m3, rfl, o_m3, e_m3, d'⟩; refine Hid.out ?_))
  refine Lib.hid ?_
  replace v2 := v2.dn d'
  replace v5 := v5.dn d'
  replace v6 := v6.dn d'
  replace v7 := v7.dn d'
  replace v8 := v8.dn d'
  replace v9 := v9.dn d'
  replace v10 := v10.dn d'
  replace v11 := v11.dn d'
  replace o_m1 := Lib.hid (o_m1.out.dn d')
  replace o_m2 := Lib.hid (o_m2.out.dn d')
  replace hbo := Lib.hid (hbo.out.dn d')
  replace HD := Lib.hid (HD.out.trans d')
  clear d'
  have l_m3 := o_m3.out.len
  have o_m3 := Lib.hid o_m3.out
  go_wp2_with (first | ((with_reducible refine wpList_alloc zeroMach ?_ ?_); rfl; intro b_v12 w' nn; refine Hid.out ?_))
  refine Lib.hid ?_
  have n_v2_v12 := Lib.hid (nn.ne _ v2.lt)
  have n_v5_v12 := Lib.hid (nn.ne _ v5.lt)
  have n_v6_v12 := Lib.hid (nn.ne _ v6.lt)
  have n_v7_v12 := Lib.hid (nn.ne _ v7.lt)
  have n_v8_v12 := Lib.hid (nn.ne _ v8.lt)
  have n_v9_v12 := Lib.hid (nn.ne _ v9.lt)
  have n_v10_v12 := Lib.hid (nn.ne _ v10.lt)
  have n_v11_v12 := Lib.hid (nn.ne _ v11.lt)
  have HL_v12 : Hid (W.heap.size ≤ b_v12) := Lib.hid (Blk.hi nn HD.out.size)
  have d' := nn.dn
  replace v2 := v2.dn d'
  replace v5 := v5.dn d'
  replace v6 := v6.dn d'
  replace v7 := v7.dn d'
  replace v8 := v8.dn d'
  replace v9 := v9.dn d'
  replace v10 := v10.dn d'
  replace v11 := v11.dn d'
  replace o_m1 := Lib.hid (o_m1.out.dn d')
  replace o_m2 := Lib.hid (o_m2.out.dn d')
  replace o_m3 := Lib.hid (o_m3.out.dn d')
  replace hbo := Lib.hid (hbo.out.dn d')
  replace HD := Lib.hid (HD.out.trans d')
  have v12 := nn.blk
  clear d' nn
  go_wp2_with (first | ((with_reducible refine wpList_alloc zeroTrap ?_ ?_); rfl; intro b_v13 w' nn; refine Hid.out ?_))
  refine Lib.hid ?_
  have n_v2_v13 := Lib.hid (nn.ne _ v2.lt)
  have n_v5_v13 := Lib.hid (nn.ne _ v5.lt)
  have n_v6_v13 := Lib.hid (nn.ne _ v6.lt)
  have n_v7_v13 := Lib.hid (nn.ne _ v7.lt)
  have n_v8_v13 := Lib.hid (nn.ne _ v8.lt)
  have n_v9_v13 := Lib.hid (nn.ne _ v9.lt)
  have n_v10_v13 := Lib.hid (nn.ne _ v10.lt)
  have n_v11_v13 := Lib.hid (nn.ne _ v11.lt)
  have n_v12_v13 := Lib.hid (nn.ne _ v12.lt)
  have HL_v13 : Hid (W.heap.size ≤ b_v13) := Lib.hid (Blk.hi nn HD.out.size)
  have d' := nn.dn
  replace v2 := v2.dn d'
  replace v5 := v5.dn d'
  replace v6 := v6.dn d'
  replace v7 := v7.dn d'
  replace v8 := v8.dn d'
  replace v9 := v9.dn d'
  replace v10 := v10.dn d'
  replace v11 := v11.dn d'
  replace v12 := v12.dn d'
  replace o_m1 := Lib.hid (o_m1.out.dn d')
  replace o_m2 := Lib.hid (o_m2.out.dn d')
  replace o_m3 := Lib.hid (o_m3.out.dn d')
  replace hbo := Lib.hid (hbo.out.dn d')
  replace HD := Lib.hid (HD.out.trans d')
  have v13 := nn.blk
  clear d' nn
  go_wp2_with (first | ((with_reducible refine store33 m3 l_m3 v12 zlen ?_ ?_ ?_ ?_); rfl; rfl; rfl; intro w' r' t'; refine Hid.out ?_))
  refine Lib.hid ?_
  replace o_m1 := Lib.hid (o_m1.out.trn v12 (NoU8.mach _) t')
  replace o_m2 := Lib.hid (o_m2.out.trn v12 (NoU8.mach _) t')
  replace o_m3 := Lib.hid (o_m3.out.trn v12 (NoU8.mach _) t')
  replace hbo := Lib.hid (hbo.out.trn v12 (NoU8.mach _) t')
  replace v2 := v2.trn t' n_v2_v12.out
  replace v5 := v5.trn t' n_v5_v12.out
  replace v6 := v6.trn t' n_v6_v12.out
  replace v7 := v7.trn t' n_v7_v12.out
  replace v8 := v8.trn t' n_v8_v12.out
  replace v9 := v9.trn t' n_v9_v12.out
  replace v10 := v10.trn t' n_v10_v12.out
  replace v11 := v11.trn t' n_v11_v12.out
  replace v13 := v13.trn t' n_v12_v13.out.symm
  replace HD := Lib.hid (HD.out.trn HL_v12.out t')
  clear t' v12
  have v12 := r'
  clear r'
  go_wp2_with (first | ((with_reducible refine storeTrap (k := k) (v := v) v13 ?_ ?_ ?_ ?_); rfl; rfl; rfl; intro w' r' t'; refine Hid.out ?_))
  refine Lib.hid ?_
  replace o_m1 := Lib.hid (o_m1.out.trn v13 (NoU8.trap _ _) t')
  replace o_m2 := Lib.hid (o_m2.out.trn v13 (NoU8.trap _ _) t')
  replace o_m3 := Lib.hid (o_m3.out.trn v13 (NoU8.trap _ _) t')
  replace hbo := Lib.hid (hbo.out.trn v13 (NoU8.trap _ _) t')
  replace v2 := v2.trn t' n_v2_v13.out
  replace v5 := v5.trn t' n_v5_v13.out
  replace v6 := v6.trn t' n_v6_v13.out
  replace v7 := v7.trn t' n_v7_v13.out
  replace v8 := v8.trn t' n_v8_v13.out
  replace v9 := v9.trn t' n_v9_v13.out
  replace v10 := v10.trn t' n_v10_v13.out
  replace v11 := v11.trn t' n_v11_v13.out
  replace v12 := v12.trn t' n_v12_v13.out
  replace HD := Lib.hid (HD.out.trn HL_v13.out t')
  clear t' v13
  have v13 := r'
  clear r'
  go_wp2_with (first | ((with_reducible refine load33 v11 lo4 ?_ ?_ ?_); rfl; rfl) | (go_at_call 13; (with_reducible refine (CN.out _ (hm.dn HD.out) (T.dn HD.out)).mono ?_); rintro e w' ⟨m4, rfl, o_m4, e_m4, d'⟩; refine Hid.out ?_))
  refine Lib.hid ?_
  replace v2 := v2.dn d'
  replace v5 := v5.dn d'
  replace v6 := v6.dn d'
  replace v7 := v7.dn d'
  replace v8 := v8.dn d'
  replace v9 := v9.dn d'
  replace v10 := v10.dn d'
  replace v11 := v11.dn d'
  replace v12 := v12.dn d'
  replace v13 := v13.dn d'
  replace o_m1 := Lib.hid (o_m1.out.dn d')
  replace o_m2 := Lib.hid (o_m2.out.dn d')
  replace o_m3 := Lib.hid (o_m3.out.dn d')
  replace hbo := Lib.hid (hbo.out.dn d')
  replace HD := Lib.hid (HD.out.trans d')
  clear d'
  have l_m4 := o_m4.out.len
  have o_m4 := Lib.hid o_m4.out
  go_wp2_with (first | ((with_reducible refine wpList_alloc zeroMach ?_ ?_); rfl; intro b_v14 w' nn; refine Hid.out ?_))
  refine Lib.hid ?_
  have n_v2_v14 := Lib.hid (nn.ne _ v2.lt)
  have n_v5_v14 := Lib.hid (nn.ne _ v5.lt)
  have n_v6_v14 := Lib.hid (nn.ne _ v6.lt)
  have n_v7_v14 := Lib.hid (nn.ne _ v7.lt)
  have n_v8_v14 := Lib.hid (nn.ne _ v8.lt)
  have n_v9_v14 := Lib.hid (nn.ne _ v9.lt)
  have n_v10_v14 := Lib.hid (nn.ne _ v10.lt)
  have n_v11_v14 := Lib.hid (nn.ne _ v11.lt)
  have n_v12_v14 := Lib.hid (nn.ne _ v12.lt)
  have n_v13_v14 := Lib.hid (nn.ne _ v13.lt)
  have HL_v14 : Hid (W.heap.size ≤ b_v14) := Lib.hid (Blk.hi nn HD.out.size)
  have d' := nn.dn
  replace v2 := v2.dn d'
  replace v5 := v5.dn d'
  replace v6 := v6.dn d'
  replace v7 := v7.dn d'
  replace v8 := v8.dn d'
  replace v9 := v9.dn d'
  replace v10 := v10.dn d'
  replace v11 := v11.dn d'
  replace v12 := v12.dn d'
  replace v13 := v13.dn d'
  replace o_m1 := Lib.hid (o_m1.out.dn d')
  replace o_m2 := Lib.hid (o_m2.out.dn d')
  replace o_m3 := Lib.hid (o_m3.out.dn d')
  replace o_m4 := Lib.hid (o_m4.out.dn d')
  replace hbo := Lib.hid (hbo.out.dn d')
  replace HD := Lib.hid (HD.out.trans d')
  have v14 := nn.blk
  clear d' nn
  go_wp2_with (first | ((with_reducible refine wpList_alloc zeroTrap ?_ ?_); rfl; intro b_v15 w' nn; refine Hid.out ?_))
  refine Lib.hid ?_
  have n_v2_v15 := Lib.hid (nn.ne _ v2.lt)
  have n_v5_v15 := Lib.hid (nn.ne _ v5.lt)
  have n_v6_v15 := Lib.hid (nn.ne _ v6.lt)
  have n_v7_v15 := Lib.hid (nn.ne _ v7.lt)
  have n_v8_v15 := Lib.hid (nn.ne _ v8.lt)
  have n_v9_v15 := Lib.hid (nn.ne _ v9.lt)
  have n_v10_v15 := Lib.hid (nn.ne _ v10.lt)
  have n_v11_v15 := Lib.hid (nn.ne _ v11.lt)
  have n_v12_v15 := Lib.hid (nn.ne _ v12.lt)
  have n_v13_v15 := Lib.hid (nn.ne _ v13.lt)
  have n_v14_v15 := Lib.hid (nn.ne _ v14.lt)
  have HL_v15 : Hid (W.heap.size ≤ b_v15) := Lib.hid (Blk.hi nn HD.out.size)
  have d' := nn.dn
  replace v2 := v2.dn d'
  replace v5 := v5.dn d'
  replace v6 := v6.dn d'
  replace v7 := v7.dn d'
  replace v8 := v8.dn d'
  replace v9 := v9.dn d'
  replace v10 := v10.dn d'
  replace v11 := v11.dn d'
  replace v12 := v12.dn d'
  replace v13 := v13.dn d'
  replace v14 := v14.dn d'
  replace o_m1 := Lib.hid (o_m1.out.dn d')
  replace o_m2 := Lib.hid (o_m2.out.dn d')
  replace o_m3 := Lib.hid (o_m3.out.dn d')
  replace o_m4 := Lib.hid (o_m4.out.dn d')
  replace hbo := Lib.hid (hbo.out.dn d')
  replace HD := Lib.hid (HD.out.trans d')
  have v15 := nn.blk
  clear d' nn
  go_wp2_with (first | ((with_reducible refine store33 m4 l_m4 v14 zlen ?_ ?_ ?_ ?_); rfl; rfl; rfl; intro w' r' t'; refine Hid.out ?_))
  refine Lib.hid ?_
  replace o_m1 := Lib.hid (o_m1.out.trn v14 (NoU8.mach _) t')
  replace o_m2 := Lib.hid (o_m2.out.trn v14 (NoU8.mach _) t')
  replace o_m3 := Lib.hid (o_m3.out.trn v14 (NoU8.mach _) t')
  replace o_m4 := Lib.hid (o_m4.out.trn v14 (NoU8.mach _) t')
  replace hbo := Lib.hid (hbo.out.trn v14 (NoU8.mach _) t')
  replace v2 := v2.trn t' n_v2_v14.out
  replace v5 := v5.trn t' n_v5_v14.out
  replace v6 := v6.trn t' n_v6_v14.out
  replace v7 := v7.trn t' n_v7_v14.out
  replace v8 := v8.trn t' n_v8_v14.out
  replace v9 := v9.trn t' n_v9_v14.out
  replace v10 := v10.trn t' n_v10_v14.out
  replace v11 := v11.trn t' n_v11_v14.out
  replace v12 := v12.trn t' n_v12_v14.out
  replace v13 := v13.trn t' n_v13_v14.out
  replace v15 := v15.trn t' n_v14_v15.out.symm
  replace HD := Lib.hid (HD.out.trn HL_v14.out t')
  clear t' v14
  have v14 := r'
  clear r'
  go_wp2_with (first | ((with_reducible refine storeTrap (k := k) (v := v) v15 ?_ ?_ ?_ ?_); rfl; rfl; rfl; intro w' r' t'; refine Hid.out ?_))
  refine Lib.hid ?_
  replace o_m1 := Lib.hid (o_m1.out.trn v15 (NoU8.trap _ _) t')
  replace o_m2 := Lib.hid (o_m2.out.trn v15 (NoU8.trap _ _) t')
  replace o_m3 := Lib.hid (o_m3.out.trn v15 (NoU8.trap _ _) t')
  replace o_m4 := Lib.hid (o_m4.out.trn v15 (NoU8.trap _ _) t')
  replace hbo := Lib.hid (hbo.out.trn v15 (NoU8.trap _ _) t')
  replace v2 := v2.trn t' n_v2_v15.out
  replace v5 := v5.trn t' n_v5_v15.out
  replace v6 := v6.trn t' n_v6_v15.out
  replace v7 := v7.trn t' n_v7_v15.out
  replace v8 := v8.trn t' n_v8_v15.out
  replace v9 := v9.trn t' n_v9_v15.out
  replace v10 := v10.trn t' n_v10_v15.out
  replace v11 := v11.trn t' n_v11_v15.out
  replace v12 := v12.trn t' n_v12_v15.out
  replace v13 := v13.trn t' n_v13_v15.out
  replace v14 := v14.trn t' n_v14_v15.out
  replace HD := Lib.hid (HD.out.trn HL_v15.out t')
  clear t' v15
  have v15 := r'
  clear r'
  have ck0 := v7.mem l_m1
  have ck1 := v5.mem lo3
  go_wp2_with (first | ((with_reducible refine loadTrap v8 ?_ ?_ ?_); rfl; rfl) | ((with_reducible refine loadTrap v10 ?_ ?_ ?_); rfl; rfl) | ((with_reducible refine loadCore v7 l_m1 ?_ ?_ ?_); rfl; rfl) | ((with_reducible refine loadCore v9 l_m2 ?_ ?_ ?_); rfl; rfl) | (go_at_call 19; (with_reducible refine (CM.out _ m1 o_m1.out (hm.dn HD.out) e_m1.out.xs).mono ?_); rintro e w' ⟨rfl, d'⟩; refine Hid.out ?_))
  refine Lib.hid ?_
  clear ck0 ck1
  replace v2 := v2.dn d'
  replace v5 := v5.dn d'
  replace v6 := v6.dn d'
  replace v7 := v7.dn d'
  replace v8 := v8.dn d'
  replace v9 := v9.dn d'
  replace v10 := v10.dn d'
  replace v11 := v11.dn d'
  replace v12 := v12.dn d'
  replace v13 := v13.dn d'
  replace v14 := v14.dn d'
  replace v15 := v15.dn d'
  replace o_m1 := Lib.hid (o_m1.out.dn d')
  replace o_m2 := Lib.hid (o_m2.out.dn d')
  replace o_m3 := Lib.hid (o_m3.out.dn d')
  replace o_m4 := Lib.hid (o_m4.out.dn d')
  replace hbo := Lib.hid (hbo.out.dn d')
  replace HD := Lib.hid (HD.out.trans d')
  clear d'
  go_wp2_with (first | ((with_reducible refine load33 v12 l_m3 ?_ ?_ ?_); rfl; rfl) | ((with_reducible refine load33 v14 l_m4 ?_ ?_ ?_); rfl; rfl) | (go_at_call 17; (with_reducible refine (CS.out _ m3 m4 o_m3.out o_m4.out e_m3.out e_m4.out).mono ?_); rintro e w' ⟨rfl, d'⟩; refine Hid.out ?_))
  refine Lib.hid ?_
  replace v2 := v2.dn d'
  replace v5 := v5.dn d'
  replace v6 := v6.dn d'
  replace v7 := v7.dn d'
  replace v8 := v8.dn d'
  replace v9 := v9.dn d'
  replace v10 := v10.dn d'
  replace v11 := v11.dn d'
  replace v12 := v12.dn d'
  replace v13 := v13.dn d'
  replace v14 := v14.dn d'
  replace v15 := v15.dn d'
  replace o_m1 := Lib.hid (o_m1.out.dn d')
  replace o_m2 := Lib.hid (o_m2.out.dn d')
  replace o_m3 := Lib.hid (o_m3.out.dn d')
  replace o_m4 := Lib.hid (o_m4.out.dn d')
  replace hbo := Lib.hid (hbo.out.dn d')
  replace HD := Lib.hid (HD.out.trans d')
  clear d'
  have ck0 := v13.cell (i := 0) (v := .int .i64 k) rfl
  go_wp2_with (first | ((with_reducible refine loadTrap v13 ?_ ?_ ?_); rfl; rfl) | ((with_reducible refine loadTrap v15 ?_ ?_ ?_); rfl; rfl) | fail)
  go_ret
  exact ⟨rfl, HD.out⟩
theorem stiWalk (m : Mc) (Ao : Option Addr) (ko : Nat) (os : List Int) (W : World) (hm : m.Ok W) (T : Env2 W) (hos : Bs W Ao ko os) (hx : m.xs.length ≤ 9223372036854775807) (hy : m.ys.length ≤ 9223372036854775807) (hol : os.length ≤ 9223372036854775807) : Calls Tryz.prog 7 #[.agg (mach m), .slice Ao os.length ko] W fun e W' => e = .returned (.bool true) ∧ Dn W W' := by
  cases hf : decide (m.xs.length ≤ 600 ∧ m.ys.length ≤ 600)
  · exact sti_few m Ao ko os W hm T hos hx hy hol hf
  · by_cases ho : 600 < os.length
    · exact sti_long m Ao ko os W hm T hos hx hy hol hf ho
    · cases hh : m.h
      · exact sti_main m Ao ko os W hm T hos hx hy hol hf ho hh
      · exact sti_h m Ao ko os W hm T hos hx hy hol hf ho hh
end Go.Proofs.YtjbnflalngjfaaaGreatDoor
namespace Go.Proofs.YtjbnflalngjfaaaGreatDoor.stepTimerHasPriority
open Go.ChangeShapes Go.WideShapes Go.ChangeAt Go.RowKit
set_option linter.unusedVariables false

set_option maxRecDepth 100000 in
/-- a slice of bytes among the arguments -/
theorem open_bytes {H : Type} {enc : TypeId × Value → H} {w : World} {base : Nat} {held : Bool} {b0 : Nat} {v : Value} {d : DataW H} {p : List MemPlace} (hv : Value.okWide Tryz.prog w .any b0 27 v) (h : DataW.Trod enc Tryz.prog w base (fun _ => true) held 27 v d p) :
    ∃ (A : Option Addr) (k : Nat) (xs : List Int), v = .slice A xs.length k ∧ Bs w A k xs ∧ xs.length ≤ 9223372036854775807 := by
  obtain ⟨a, len, cap, rfl⟩ := okWide_slice Tryz.underlying27 hv
  obtain ⟨fuel, hf⟩ := h
  obtain ⟨A, k, xs, hc, hb, hl⟩ := bytes_cell hf
  have e : Value.slice a len cap = .slice A xs.length k := by simpa [Value.cells] using hc
  exact ⟨A, k, xs, e, hb, hl⟩

theorem readable : ∀ t ∈ Tryz.f7.params.toList, Tryz.prog.readableRec t = true ∧ t < Tryz.prog.types.size := by
  rw [Tryz.params7]
  intro t ht
  have hall : ([30, 27].all fun t => Tryz.prog.readableRec t && decide (t < Tryz.prog.types.size)) = true := by kernel_rfl
  have h := List.all_eq_true.1 hall t ht
  simp only [Bool.and_eq_true, decide_eq_true_eq] at h
  exact h

theorem said (H : Type) (ds : List (DataW H)) (hl : ds.length = Tryz.f7.params.size) : (Rows.stepTimerHasPrioritySpec.fn H ds).results = [.lit (.bool true)] ∧ (Rows.stepTimerHasPrioritySpec.fn H ds).args = ds ∧ (Rows.stepTimerHasPrioritySpec.fn H ds).vars = [] := by
  rw [Tryz.params7] at hl
  match ds, hl with
  | [d0, d1], _ => exact ⟨rfl, rfl, rfl⟩

set_option maxRecDepth 100000 in
theorem walk {H : Type} {enc : TypeId × Value → H} (W : World) (base : Nat) (args : Array Value) (ds : List (DataW H)) (ps : List MemPlace) (E : Env W)
    (hval : ∀ (j : Nat) t v, Tryz.f7.params[j]? = some t → args[j]? = some v → Value.okWide Tryz.prog W .any base t v)
    (hA : DataW.TrodAll enc Tryz.prog W 0 (fun _ => true) true Tryz.f7.params.toList args.toList ds ps) :
    Calls Tryz.prog 7 args W fun e W' => e = .returned (.bool true) ∧ Dn W W' := by
  rw [Tryz.params7] at hA hval
  obtain ⟨v0, vs0, d0, ds0, p0, q0, hargs, rfl, rfl, h0, r0⟩ := trodAll_cons hA
  obtain ⟨v1, vs1, d1, ds1, p1, q1, rfl, rfl, rfl, h1, r1⟩ := trodAll_cons r0
  obtain ⟨rfl, rfl, rfl⟩ := trodAll_nil r1
  obtain rfl : args = #[v0, v1] := by cases args; simp_all
  obtain ⟨m0, rfl, o0, l0, y0⟩ := open33 (hval 0 30 v0 rfl rfl) h0
  obtain ⟨A1, c1, ls1, rfl, hb1, hl1⟩ := open_bytes (hval 1 27 v1 rfl rfl) h1
  exact stiWalk m0 A1 c1 ls1 W o0 E.two hb1 l0 y0  hl1

set_option maxRecDepth 100000 in
theorem lifted (os : Os) (started : os.Started) (H : Type) (enc : TypeId × Value → H) :
    ReturnsInHanded {} Tryz.checked os 7 .any (fun w args => (Rows.stepTimerHasPrioritySpec.pre enc Tryz.prog Tryz.f7 [] false w args ∧ laidMetH Tryz.prog laidL w) ∧ sizedMet enc Tryz.prog Tryz.f7 (OpenSpec.ofChange Rows.stepTimerHasPrioritySpec) false w args)
      (Rows.stepTimerHasPrioritySpec.post enc Tryz.prog Tryz.f7 false true false false) :=
  returns_of_walk (C := Tryz.checked) rfl own started (by kernel_rfl) Tryz.func7 rfl readable (by kernel_rfl) said
    (ChangeSpec.witness_shaped (enc := enc) (C := Tryz.checked) (os := os) (X := fun w _ => laidMetH Tryz.prog laidL w) false (World.laidAll Tryz.prog os laidL) #[.agg #[.int .u32 0, .int .u32 0, .int .u32 0, .int .u32 0, .int .u32 0, .int .u32 0, .int .u32 0, .int .u32 0, .int .u32 0, .int .u32 0, .int .u32 0, .int .u32 0, .int .u32 0, .int .u32 0, .int .u32 0, .int .u32 0, .int .u32 0, .int .u32 0, .int .u32 0, .int .u32 0, .int .u32 0, .int .u32 0, .int .u32 0, .int .u32 0, .int .u32 0, .int .u32 0, .int .u32 0, .int .u32 0, .int .u32 0, .slice none 0 0, .int .u64 0, .slice none 0 0, .bool false], .slice none 0 0] 8 (World.laidAll_os _ _ _)
      (start_shaped os _) (by kernel_rfl) (by kernel_rfl) (by kernel_rfl) (start_met os _)) walk

theorem over : Rows.StepTimerHasPrioritySaid :=
  OpenClaim.holds_of_wide 7 Tryz.f7 rfl rfl rfl rfl rfl rfl rfl ⟨rfl, rfl, rfl, rfl, rfl⟩ rfl rfl rfl rfl rfl (by kernel_rfl) Tryz.func7 (by kernel_rfl)
    (of_decide_eq_true (by kernel_rfl)) (by unfold Func.isWrapper; first | (rw [if_pos (by decide +kernel)]; kernel_rfl) | (rw [if_neg (by decide +kernel)]; exact ⟨rfl, rfl⟩))
    (fun os started H enc _ => lifted os started H enc)

/-- THE STATEMENT -/
theorem proved : Rows.StepTimerHasPriorityCardSaid :=
  Claim7.holds_tied_plain_at .later [] [.data, .data, .data] true (true, "8ffe0c46f9e92efb28c84b61b42d6714ec4442e8e8d9bdcf048d53b195bf4d9d") false
    over (fun _ h => by cases h) (by kernel_rfl) (fun _ h => by cases h) stepTimerHasPriority_row_tie rfl ⟨rfl, rfl⟩ (by kernel_rfl) rfl
    (fun f fn hf hfn => by
      obtain rfl : f = 7 := Option.some.inj ((show Tryz.prog.funcNamed "gaoler/gaolerlaw13.StepTimerHasPriority" = some 7 by kernel_rfl).symm.trans hf) |>.symm
      obtain rfl : fn = Tryz.f7 := (Option.some.inj (Tryz.func7.symm.trans hfn)).symm
      exact ⟨by kernel_rfl, fun j t ht => by
        rw [Tryz.params7] at ht
        have hm : t ∈ [30, 27] := by simpa using Array.mem_of_getElem? ht
        have hall : ([30, 27].all fun u => !Tryz.prog.wantsStandIn u) = true := by kernel_rfl
        exact (show Tryz.prog.wantsStandIn t = false by simpa using List.all_eq_true.1 hall t hm)⟩)
    (by kernel_rfl)
#print axioms proved
end Go.Proofs.YtjbnflalngjfaaaGreatDoor.stepTimerHasPriority
