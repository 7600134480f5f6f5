/-
  'gaolerlaw07.RegsClearZeroIsInvisible' returns true when called, and writes nothing that was there: contract over the translated program. No conditions beyond what the kinds of its parameters say.
-/
import Derived.Test.YtphfhehahgeabaaRegAwake
namespace Go.Proofs.Ytphfhehahgeabaa
open Go.ChangeShapes Go.WideShapes Go.ChangeAt Go.RowKit Go.Sort
set_option linter.unusedVariables false

/-- the first k registers read the same -/
def alikeB (c d : List Int) (k : Nat) : Bool := (List.range k).all fun j => M.reg c j == M.reg d j
theorem alikeB_more (c d : List Int) (k : Nat) : alikeB c d (k + 1) = (alikeB c d k && (M.reg c k == M.reg d k)) := by simp [alikeB, List.range_succ, List.all_append]
theorem alikeB_all {c d : List Int} (hc : c.length = 16) (hd : d.length = 16) : (M.clr0 c == M.clr0 d) = alikeB c d 16 := by
  rw [Bool.eq_iff_iff, beq_iff_eq, M.clr0_same hc hd]
  simp [alikeB, List.all_eq_true]
def CzRel (w0 : World) (c d : List Int) (al x : Value) (w : World) : Prop := ∃ k : Nat, k ≤ 16 ∧ x = .int .i64 k ∧ al = .bool (alikeB c d k) ∧ Dn w0 w

set_option maxRecDepth 100000 in
set_option maxHeartbeats 1000000 in
theorem regCzWalk (c : List Int) (hc : M.Regs c) (d : List Int) (hd : M.Regs d) (i : Int) (i0 : 0 ≤ i) (i1 : i < 256) (v : Int) (v0 : 0 ≤ v) (v1 : v < 4294967296) (W : World) :
    Calls Try.prog 5 #[.agg (ints .u32 c), .agg (ints .u32 d), .int .u8 i, .int .u32 v] W fun e W' => e = .returned (.bool true) ∧ Dn W W' := by
  have hl := hc.len
  have hs := hd.len
  have lz : (M.clr0 c).length = 16 := (M.clr0_len c).trans hl
  have ly : (M.clr0 d).length = 16 := (M.clr0_len d).trans hs
  have C1 := Lib.hid fun w => regClear c w hl
  have C2 := Lib.hid fun w => regClear d w hs
  have D := Lib.hid (((Dn.refl W).alloc (.cells (ints .u32 c) 23)).alloc (.cells (ints .u32 d) 23))
  have r := (Row.new W 23 .u32 c).dn ((Dn.refl _).alloc (.cells (ints .u32 d) 23))
  have s := Row.second W (.cells (ints .u32 c) 23) 23 .u32 d
  go_enter Try.func5, Try.ntmps5
  go_wp2_with fail
  refine (awake _).mono ?_
  rintro e w1 ⟨rfl, d1⟩
  replace r := r.dn d1
  replace s := s.dn d1
  replace D := Lib.hid (D.out.trans d1)
  clear d1
  generalize W.heap.size + 1 = b1 at s ⊢
  generalize W.heap.size = b0 at r ⊢
  go_wp2_with (first | ((with_reducible refine load16 r hl ?_ ?_ ?_); rfl; rfl))
  refine (C1.out _).mono ?_
  rintro e w2 ⟨rfl, d1⟩
  have k1 := d1.alloc (.cells (ints .u32 (M.clr0 c)) 23)
  replace r := r.dn k1
  replace s := s.dn k1
  replace D := Lib.hid (D.out.trans k1)
  have z := Row.new w2 23 .u32 (M.clr0 c)
  clear d1 k1
  go_wp2_with (first | ((with_reducible refine alloc16 (b := w2.heap.size) rfl ?_ ?_); rfl) | ((with_reducible refine store16 (b := w2.heap.size) (M.clr0 c) lz zsize16 ?_ ?_ ?_ rfl ?_); rfl; rfl; rfl) | ((with_reducible refine load16 s hs ?_ ?_ ?_); rfl; rfl))
  refine (C2.out _).mono ?_
  rintro e w3 ⟨rfl, d1⟩
  have k1 := d1.alloc (.cells (ints .u32 (M.clr0 d)) 23)
  replace r := r.dn k1
  replace s := s.dn k1
  replace z := z.dn k1
  replace D := Lib.hid (D.out.trans k1)
  have y := Row.new w3 23 .u32 (M.clr0 d)
  clear d1 k1
  go_wp2_with (first | ((with_reducible refine alloc16 (b := w3.heap.size) rfl ?_ ?_); rfl) | ((with_reducible refine store16 (b := w3.heap.size) (M.clr0 d) ly zsize16 ?_ ?_ ?_ rfl ?_); rfl; rfl; rfl))
  generalize w3.alloc (.cells (ints .u32 (M.clr0 d)) 23) = w4 at r s z y D ⊢
  generalize w3.heap.size = b3 at y ⊢
  generalize w2.heap.size = b2 at z ⊢
  clear C1 C2 w1 w2 w3
  go_loopw [11, 12] (fun al x w => CzRel w4 c d al x w) (fun _ x _ => 16 - (intOf x).toNat)
  case atStart => exact ⟨0, by decide, rfl, rfl, Dn.refl _⟩
  case round =>
    obtain ⟨k, hk, rfl, rfl, dn⟩ := hrel
    replace r := r.dn dn
    replace s := s.dn dn
    replace z := z.dn dn
    replace y := y.dn dn
    replace D := Lib.hid (D.out.trans dn)
    have DN := Lib.hid dn
    clear dn
    by_cases hlt : k < 16
    · have hlt2 : (k : Int) < 16 := by omega
      have C1 := Lib.hid fun w => regGet (M.clr0 c) k w lz
      rw [M.reg_clr0 hl] at C1
      have C2 := Lib.hid fun w => regGet c k w hl
      have C3 := Lib.hid fun w => regGet d k w hs
      have HA := Lib.hid (alikeB_more c d k)
      generalize M.reg c k = x at C1 C2 HA
      generalize M.reg d k = x2 at C3 HA
      generalize alikeB c d k = al at HA ⊢
      generalize hq : (x == x2) = q at HA
      cases al
      · go_wp2_with fail
        have QC1 := Lib.hid (later_of wr C1.out)
        have QC2 := Lib.hid (later_of wr C2.out)
        refine wp_region_quiet_below (by kernel_rfl) (by kernel_rfl) ?_
        repeat (first | go_big_quiet_skip | (go_big_quiet_want; first | ((with_reducible refine qop16 r hl ?_ ?_); rfl; simp only [Act.put, List.setIfInBounds_toArray, List.set_cons_succ, List.set_cons_zero]; go_big_quiet_on) | ((with_reducible refine qop16 z lz ?_ ?_); rfl; simp only [Act.put, List.setIfInBounds_toArray, List.set_cons_succ, List.set_cons_zero]; go_big_quiet_on) | (go_big_quiet_op; first | go_big_quiet_on | go_big_quiet_call (first | (with_reducible exact QC1.out _ _) | (with_reducible exact QC2.out _ _)))))
        refine wpQuiet_nil ?_
        intro _ hw'
        obtain ⟨⟨dq, osq⟩, hw''⟩ := hw'
        subst hw''
        have dd := below_regrown wr dq osq
        clear QC1
        clear QC2
        replace r := r.dn dd
        replace s := s.dn dd
        replace DN := Lib.hid (DN.out.trans dd)
        clear dd z y
        generalize grow (redrawn wr dq) osq = w5 at r s DN ⊢
        go_wp2_with fail
        have QC2 := Lib.hid (later_of w5 C2.out)
        have QC3 := Lib.hid (later_of w5 C3.out)
        refine wp_region_quiet_below (by kernel_rfl) (by kernel_rfl) ?_
        repeat (first | go_big_quiet_skip | (go_big_quiet_want; first | ((with_reducible refine qop16 r hl ?_ ?_); rfl; simp only [Act.put, List.setIfInBounds_toArray, List.set_cons_succ, List.set_cons_zero]; go_big_quiet_on) | ((with_reducible refine qop16 s hs ?_ ?_); rfl; simp only [Act.put, List.setIfInBounds_toArray, List.set_cons_succ, List.set_cons_zero]; go_big_quiet_on) | (go_big_quiet_op; first | go_big_quiet_on | go_big_quiet_call (first | (with_reducible exact QC2.out _ _) | (with_reducible exact QC3.out _ _)))))
        refine wpQuiet_nil ?_
        intro _ hw'
        obtain ⟨⟨dq, osq⟩, hw''⟩ := hw'
        subst hw''
        have dd := below_regrown w5 dq osq
        clear QC2
        clear QC3
        replace DN := Lib.hid (DN.out.trans dd)
        clear dd r s
        generalize grow (redrawn w5 dq) osq = w6 at DN ⊢
        go_wp2
        go_roundw
        case rel => exact ⟨k + 1, by omega, by go_num, by rw [HA.out]; rfl, DN.out⟩
        case measure => simp [intOf]; omega
      · go_wp2_with fail
        have QC1 := Lib.hid (later_of wr C1.out)
        have QC2 := Lib.hid (later_of wr C2.out)
        refine wp_region_quiet_below (by kernel_rfl) (by kernel_rfl) ?_
        repeat (first | go_big_quiet_skip | (go_big_quiet_want; first | ((with_reducible refine qop16 r hl ?_ ?_); rfl; simp only [Act.put, List.setIfInBounds_toArray, List.set_cons_succ, List.set_cons_zero]; go_big_quiet_on) | ((with_reducible refine qop16 z lz ?_ ?_); rfl; simp only [Act.put, List.setIfInBounds_toArray, List.set_cons_succ, List.set_cons_zero]; go_big_quiet_on) | (go_big_quiet_op; first | go_big_quiet_on | go_big_quiet_call (first | (with_reducible exact QC1.out _ _) | (with_reducible exact QC2.out _ _)))))
        refine wpQuiet_nil ?_
        intro _ hw'
        obtain ⟨⟨dq, osq⟩, hw''⟩ := hw'
        subst hw''
        have dd := below_regrown wr dq osq
        clear QC1
        clear QC2
        replace r := r.dn dd
        replace s := s.dn dd
        replace DN := Lib.hid (DN.out.trans dd)
        clear dd z y
        generalize grow (redrawn wr dq) osq = w5 at r s DN ⊢
        go_wp2_with fail
        have QC2 := Lib.hid (later_of w5 C2.out)
        have QC3 := Lib.hid (later_of w5 C3.out)
        refine wp_region_quiet_below (by kernel_rfl) (by kernel_rfl) ?_
        repeat (first | go_big_quiet_skip | (go_big_quiet_want; first | ((with_reducible refine qop16 r hl ?_ ?_); rfl; simp only [Act.put, List.setIfInBounds_toArray, List.set_cons_succ, List.set_cons_zero]; go_big_quiet_on) | ((with_reducible refine qop16 s hs ?_ ?_); rfl; simp only [Act.put, List.setIfInBounds_toArray, List.set_cons_succ, List.set_cons_zero]; go_big_quiet_on) | (go_big_quiet_op; first | go_big_quiet_on | go_big_quiet_call (first | (with_reducible exact QC2.out _ _) | (with_reducible exact QC3.out _ _)))))
        refine wpQuiet_nil ?_
        intro _ hw'
        obtain ⟨⟨dq, osq⟩, hw''⟩ := hw'
        subst hw''
        have dd := below_regrown w5 dq osq
        clear QC2
        clear QC3
        replace DN := Lib.hid (DN.out.trans dd)
        clear dd r s
        generalize grow (redrawn w5 dq) osq = w6 at DN ⊢
        go_wp2
        go_roundw
        case rel => exact ⟨k + 1, by omega, by go_num, by rw [HA.out]; rfl, DN.out⟩
        case measure => simp [intOf]; omega
    · obtain rfl : k = 16 := by omega
      have HQ := Lib.hid (alikeB_all hl hs)
      have q1 := fun w => eq16 (c := M.clr0 c) (d := M.clr0 d) lz ly w
      rw [HQ.out] at q1
      clear HQ
      have q2 := fun w => eq16 (c := M.clr0 c) (d := M.clr0 c) lz lz w
      obtain ⟨n, hn⟩ : ∃ n, i % 16 = n := ⟨_, rfl⟩
      have le : (M.setreg c n v).length = 16 := (M.setreg_len c n v).trans hl
      have lf : (M.setreg (M.clr0 c) n v).length = 16 := (M.setreg_len _ n v).trans lz
      have q3 := fun w => eq16 (c := M.setreg (M.clr0 c) n v) (d := M.setreg (M.clr0 c) n v) lf lf w
      simp only [beq_self_eq_true] at q2 q3
      have C1 := Lib.hid fun w => regClear (M.clr0 c) w lz
      rw [M.clr0_twice] at C1
      have C2 := Lib.hid fun w => regSet c n v w hl
      have C3 := Lib.hid fun w => regClear (M.setreg c n v) w le
      rw [M.clr0_setreg hl] at C3
      have C4 := Lib.hid fun w => regSet (M.clr0 c) n v w lz
      generalize M.setreg (M.clr0 c) n v = f at C3 C4 q3 lf
      generalize M.setreg c n v = e1 at C2 C3 le
      generalize M.clr0 c = cz at C1 C4 z lz q1 q2
      generalize M.clr0 d = dz at y ly q1
      generalize alikeB c d 16 = al at q1 ⊢
      cases al
      · go_wp2_with fail
        have QC1 := Lib.hid (later_of wr C1.out)
        have QC2 := Lib.hid (later_of wr C2.out)
        have QC3 := Lib.hid (later_of wr C3.out)
        have QC4 := Lib.hid (later_of wr C4.out)
        refine wp_region_quiet_below (by kernel_rfl) (by kernel_rfl) ?_
        repeat (first | go_big_quiet_skip | (go_big_quiet_want; first | ((with_reducible refine qop16 r hl ?_ ?_); rfl; simp only [Act.put, List.setIfInBounds_toArray, List.set_cons_succ, List.set_cons_zero]; go_big_quiet_on) | ((with_reducible refine qop16 s hs ?_ ?_); rfl; simp only [Act.put, List.setIfInBounds_toArray, List.set_cons_succ, List.set_cons_zero]; go_big_quiet_on) | ((with_reducible refine qop16 z lz ?_ ?_); rfl; simp only [Act.put, List.setIfInBounds_toArray, List.set_cons_succ, List.set_cons_zero]; go_big_quiet_on) | ((with_reducible refine qop16 y ly ?_ ?_); rfl; simp only [Act.put, List.setIfInBounds_toArray, List.set_cons_succ, List.set_cons_zero]; go_big_quiet_on) | (go_big_quiet_op; first | go_big_quiet_on | go_big_quiet_call (first | (with_reducible exact QC1.out _ _) | (with_reducible exact QC2.out _ _) | (with_reducible exact QC3.out _ _) | (with_reducible exact QC4.out _ _)))))
        refine wpQuiet_nil ?_
        intro _ hw'
        obtain ⟨⟨dq, osq⟩, hw''⟩ := hw'
        subst hw''
        have dd := below_regrown wr dq osq
        clear QC1
        clear QC2
        clear QC3
        clear QC4
        go_wp2
        go_ret
        exact ⟨rfl, D.out.trans dd⟩
      · go_wp2_with fail
        have QC1 := Lib.hid (later_of wr C1.out)
        have QC2 := Lib.hid (later_of wr C2.out)
        have QC3 := Lib.hid (later_of wr C3.out)
        have QC4 := Lib.hid (later_of wr C4.out)
        refine wp_region_quiet_below (by kernel_rfl) (by kernel_rfl) ?_
        repeat (first | go_big_quiet_skip | (go_big_quiet_want; first | ((with_reducible refine qop16 r hl ?_ ?_); rfl; simp only [Act.put, List.setIfInBounds_toArray, List.set_cons_succ, List.set_cons_zero]; go_big_quiet_on) | ((with_reducible refine qop16 s hs ?_ ?_); rfl; simp only [Act.put, List.setIfInBounds_toArray, List.set_cons_succ, List.set_cons_zero]; go_big_quiet_on) | ((with_reducible refine qop16 z lz ?_ ?_); rfl; simp only [Act.put, List.setIfInBounds_toArray, List.set_cons_succ, List.set_cons_zero]; go_big_quiet_on) | ((with_reducible refine qop16 y ly ?_ ?_); rfl; simp only [Act.put, List.setIfInBounds_toArray, List.set_cons_succ, List.set_cons_zero]; go_big_quiet_on) | (go_big_quiet_op; first | go_big_quiet_on | go_big_quiet_call (first | (with_reducible exact QC1.out _ _) | (with_reducible exact QC2.out _ _) | (with_reducible exact QC3.out _ _) | (with_reducible exact QC4.out _ _)))))
        refine wpQuiet_nil ?_
        intro _ hw'
        obtain ⟨⟨dq, osq⟩, hw''⟩ := hw'
        subst hw''
        have dd := below_regrown wr dq osq
        clear QC1
        clear QC2
        clear QC3
        clear QC4
        go_wp2
        go_ret
        exact ⟨rfl, D.out.trans dd⟩
end Go.Proofs.Ytphfhehahgeabaa
