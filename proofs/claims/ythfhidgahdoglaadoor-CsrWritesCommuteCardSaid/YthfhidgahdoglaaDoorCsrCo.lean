/-
  The law CsrWritesCommute walked. Condition: the two tables of package csr.
-/
import Derived.Test.YthfhidgahdoglaaDoorCsrQuiet
namespace Go.Proofs.YthfhidgahdoglaaDoor
open Go.ChangeShapes Go.WideShapes Go.ChangeAt Go.RowKit Go.Sort
set_option linter.unusedVariables false

theorem and_nat (v m : Int) (v0 : 0 ≤ v) (v1 : v < 4294967296) (m0 : 0 ≤ m) (m1 : m < 4294967296) : bits .and .u32 v m = ((v.toNat &&& m.toNat : Nat) : Int) := by
  obtain ⟨v, rfl⟩ := Int.eq_ofNat_of_zero_le v0
  obtain ⟨m, rfl⟩ := Int.eq_ofNat_of_zero_le m0
  rw [u32_and_nat _ _ (by omega) (by omega)]
  rfl

set_option maxHeartbeats 1000000 in
theorem co_same (c : List Int) (hc : M.Ok c) (n : Int) (n0 : 0 ≤ n) (n1 : n < 256) (m : Int) (m0 : 0 ≤ m) (m1 : m < 256) (v : Int) (v0 : 0 ≤ v) (v1 : v < 4294967296) (u : Int) (u0 : 0 ≤ u) (u1 : u < 4294967296) (i : Int) (hi : n % 12 = i) (hk : m % 12 = i) (W : World) (E : CsrTabs W) :
    Calls Tryd.prog 6 #[.agg (ints .u32 c), .int .u8 n, .int .u8 m, .int .u32 v, .int .u32 u] W fun e W' => e = .returned (.bool true) ∧ Dn W W' := by
  have hl := hc.len
  have i0 : 0 ≤ i := by omega
  have i1 : i < 12 := by omega
  have he : M.ex i = true := (M.ex_iff _).2 (by omega)
  have mi := M.mask_rng i
  have oz := M.wr_ok hc i 0
  have lz := oz.len
  have ov := M.wr_ok hc i v
  have lv := ov.len
  have hnz : (M.name i == []) = false := by have := M.name_nil he; simpa using this
  have he12 : M.ex (12 + i) = false := (M.ex_no _).2 (by omega)
  have hn12 : M.name (12 + i) = [] := by unfold M.name; rw [he12]; rfl
  have hm12 : M.mask (12 + i) = 0 := by unfold M.mask; rw [he12]; rfl
  have HW12 : Hid (M.wr c (12 + i) v = c) := Lib.hid (M.wr_no c (12 + i) v he12)
  have ha := and_nat v (M.mask i) v0 v1 mi.1 mi.2
  obtain ⟨A, hA⟩ : ∃ A, bits .and .u32 v (M.mask i) = A := ⟨_, rfl⟩
  have hAr : 0 ≤ A ∧ A < 4294967296 := by
    rw [← hA, ha]
    have : v.toNat &&& (M.mask i).toNat ≤ v.toNat := Nat.and_le_left
    omega
  have HMS : Hid (M.wr (M.wr c i 0) i A = M.wr c i v) := Lib.hid (by rw [← hA, ha]; exact M.wr_masked hc i v he)
  have hz0 : bits .and .u32 (M.at_ (M.wr c i 0) i) (M.mask i) = 0 := by
    have r := oz.rng i
    rw [and_nat _ _ r.1 r.2 mi.1 mi.2, M.at_wr hc i i 0 he he, if_pos rfl, M.masked_zero _ _ mi.1 mi.2]
    rfl
  clear ha
  obtain ⟨z, hz⟩ : ∃ z, M.wr c i 0 = z := ⟨_, rfl⟩
  rw [hz] at oz lz HMS hz0
  have HZ := Lib.hid hz
  clear hz
  go_enter Tryd.func6, Tryd.ntmps6
  go_wp2_with fail
  have k0 := (Dn.refl W).alloc (.cells (ints .u32 c) 23)
  have r := Row.new W 23 .u32 c
  refine (awake _ (E.dn k0)).mono ?_
  rintro e w1 ⟨rfl, d1⟩
  have k1 := k0.trans d1
  have r := r.dn d1
  have E1 := E.dn k1
  obtain ⟨b0, hb0⟩ : ∃ b, b = W.heap.size := ⟨_, rfl⟩
  rw [← hb0] at r ⊢
  clear hb0
  go_wp2_with fail
  refine wp_region_quiet_below (by kernel_rfl) (by kernel_rfl) ?_
  repeat (first | go_big_quiet_skip | (go_big_quiet_want; (go_big_quiet_op; go_big_quiet_on)))
  refine wpQuiet_nil ?_
  intro _ hw'
  obtain ⟨⟨dq, osq⟩, hw''⟩ := hw'
  subst hw''
  have dd := below_regrown w1 dq osq
  have k2 := k1.trans dd
  have E2 := E1.dn dd
  have r2 := r.dn dd
  generalize grow (redrawn w1 dq) osq = w2 at *
  clear r dd E1
  go_wp2_with fail
  refine (name i _ E2).mono ?_
  rintro e w ⟨rfl, rfl⟩
  go_wp2_with fail
  refine (name (12 + i) _ E2).mono ?_
  rintro e w ⟨rfl, rfl⟩
  go_wp2_with (first | ((with_reducible refine load12 r2 hl ?_ ?_ ?_); rfl; rfl))
  refine (write c i 0 _ E2 hc (by decide) (by decide)).mono ?_
  rintro e w3 ⟨rfl, d3⟩
  rw [HZ.out]
  have k4 := (k2.trans d3).alloc (.cells (ints .u32 z) 23)
  have r := r2.dn (d3.alloc (.cells (ints .u32 z) 23))
  have E4 := E.dn k4
  have rz := Row.new w3 23 .u32 z
  go_wp2_with (first | ((with_reducible refine store12 (b := w3.heap.size) z lz ?_ ?_ ?_ rfl ?_); rfl; rfl; rfl))
  refine (writeMask i _ E4).mono ?_
  rintro e w ⟨rfl, rfl⟩
  obtain ⟨b, hb⟩ : ∃ b, b = w3.heap.size := ⟨_, rfl⟩
  rw [← hb] at rz ⊢
  generalize w3.alloc (.cells (ints .u32 z) 23) = w4 at *
  clear hb
  have cz : w4.cell? ⟨b, i.toNat, none⟩ = some (.int .u32 (M.at_ z i)) := rz.cell i.toNat (by omega)
  have lzc := fun d os => cell_regrown cz d os
  have c1 : ∀ p q, Calls Tryd.prog 12 #[.int .i64 (12 + i)] (grow (redrawn w4 p) q) fun e w'' => e = .returned (.int .u32 0) ∧ ∃ p : Regrown, w'' = grow (redrawn w4 p.d) p.os := fun p q => by
    have h := Calls.regrown_of ((writeMask (12 + i) (grow (redrawn w4 p) q) (E4.dn (below_regrown w4 p q))).mono fun _ _ h => ⟨h.1, h.2 ▸ Dn.refl _⟩)
    rw [hm12] at h
    exact h
  have C1 := Lib.hid c1
  clear c1
  have c2 : ∀ p q, Calls Tryd.prog 16 #[.agg (ints .u32 c), .int .i64 (12 + i), .int .u32 v] (grow (redrawn w4 p) q) fun e w'' => e = .returned (.agg (ints .u32 c)) ∧ ∃ p : Regrown, w'' = grow (redrawn w4 p.d) p.os := fun p q => by
    have h := Calls.regrown_of (write c (12 + i) v (grow (redrawn w4 p) q) (E4.dn (below_regrown w4 p q)) hc v0 v1)
    rw [HW12.out] at h
    exact h
  have C2 := Lib.hid c2
  clear c2
  have c3 : ∀ p q, Calls Tryd.prog 16 #[.agg (ints .u32 z), .int .i64 i, .int .u32 A] (grow (redrawn w4 p) q) fun e w'' => e = .returned (.agg (ints .u32 (M.wr c i v))) ∧ ∃ p : Regrown, w'' = grow (redrawn w4 p.d) p.os := fun p q => by
    have h := Calls.regrown_of (write z i A (grow (redrawn w4 p) q) (E4.dn (below_regrown w4 p q)) oz hAr.1 hAr.2)
    rw [HMS.out] at h
    exact h
  have C3 := Lib.hid c3
  clear c3
  have c4 : ∀ p q, Calls Tryd.prog 16 #[.agg (ints .u32 c), .int .i64 i, .int .u32 v] (grow (redrawn w4 p) q) fun e w'' => e = .returned (.agg (ints .u32 (M.wr c i v))) ∧ ∃ p : Regrown, w'' = grow (redrawn w4 p.d) p.os := fun p q => Calls.regrown_of (write c i v (grow (redrawn w4 p) q) (E4.dn (below_regrown w4 p q)) hc v0 v1)
  have C4 := Lib.hid c4
  clear c4
  have q1 := fun w => eq12 (c := c) (d := c) hl hl w
  have q2 := fun w => eq12 (c := M.wr c i v) (d := M.wr c i v) lv lv w
  simp only [beq_self_eq_true] at q1 q2
  go_wp2_with fail
  refine wp_region_quiet_below (by kernel_rfl) (by kernel_rfl) ?_
  repeat (first | go_big_quiet_skip | (go_big_quiet_want; first | ((with_reducible refine qop12 r hl ?_ ?_); rfl; simp only [Act.put, List.setIfInBounds_toArray, List.set_cons_succ, List.set_cons_zero]; go_big_quiet_on) | ((with_reducible refine qop12 rz lz ?_ ?_); rfl; simp only [Act.put, List.setIfInBounds_toArray, List.set_cons_succ, List.set_cons_zero]; go_big_quiet_on) | (go_big_quiet_op; first | go_big_quiet_on | go_big_quiet_call (first | (with_reducible exact C1.out _ _) | (with_reducible exact C2.out _ _) | (with_reducible exact C3.out _ _) | (with_reducible exact C4.out _ _)))))
  refine wpQuiet_nil ?_
  intro _ hw'
  obtain ⟨⟨dq, osq⟩, hw''⟩ := hw'
  subst hw''
  have dd := below_regrown w4 dq osq
  have k5 := k4.trans dd
  go_wp2
  go_ret
  exact ⟨rfl, k5⟩

set_option maxHeartbeats 1000000 in
theorem co_other (c : List Int) (hc : M.Ok c) (n : Int) (n0 : 0 ≤ n) (n1 : n < 256) (m : Int) (m0 : 0 ≤ m) (m1 : m < 256) (v : Int) (v0 : 0 ≤ v) (v1 : v < 4294967296) (u : Int) (u0 : 0 ≤ u) (u1 : u < 4294967296) (i k : Int) (hi : n % 12 = i) (hk : m % 12 = k) (hik : i ≠ k) (W : World) (E : CsrTabs W) :
    Calls Tryd.prog 6 #[.agg (ints .u32 c), .int .u8 n, .int .u8 m, .int .u32 v, .int .u32 u] W fun e W' => e = .returned (.bool true) ∧ Dn W W' := by
  have hl := hc.len
  have i0 : 0 ≤ i := by omega
  have i1 : i < 12 := by omega
  have he : M.ex i = true := (M.ex_iff _).2 (by omega)
  have mi := M.mask_rng i
  have oz := M.wr_ok hc i 0
  have lz := oz.len
  have ov := M.wr_ok hc i v
  have lv := ov.len
  have hik2 : (i != k) = true := by simpa using hik
  have hek : M.ex k = true := (M.ex_iff _).2 (by omega)
  have ou := M.wr_ok hc k u
  have ovu := M.wr_ok ov k u
  have lvu := ovu.len
  have HSW : Hid (M.wr (M.wr c k u) i v = M.wr (M.wr c i v) k u) := Lib.hid (M.wr_swap hc i k v u hik).symm
  have hnn : (M.name i == M.name k) = false := by have := M.name_ne he hek hik; simpa using this
  have hnz : (M.name i == []) = false := by have := M.name_nil he; simpa using this
  have he12 : M.ex (12 + i) = false := (M.ex_no _).2 (by omega)
  have hn12 : M.name (12 + i) = [] := by unfold M.name; rw [he12]; rfl
  have hm12 : M.mask (12 + i) = 0 := by unfold M.mask; rw [he12]; rfl
  have HW12 : Hid (M.wr c (12 + i) v = c) := Lib.hid (M.wr_no c (12 + i) v he12)
  have ha := and_nat v (M.mask i) v0 v1 mi.1 mi.2
  obtain ⟨A, hA⟩ : ∃ A, bits .and .u32 v (M.mask i) = A := ⟨_, rfl⟩
  have hAr : 0 ≤ A ∧ A < 4294967296 := by
    rw [← hA, ha]
    have : v.toNat &&& (M.mask i).toNat ≤ v.toNat := Nat.and_le_left
    omega
  have HMS : Hid (M.wr (M.wr c i 0) i A = M.wr c i v) := Lib.hid (by rw [← hA, ha]; exact M.wr_masked hc i v he)
  have hz0 : bits .and .u32 (M.at_ (M.wr c i 0) i) (M.mask i) = 0 := by
    have r := oz.rng i
    rw [and_nat _ _ r.1 r.2 mi.1 mi.2, M.at_wr hc i i 0 he he, if_pos rfl, M.masked_zero _ _ mi.1 mi.2]
    rfl
  clear ha
  obtain ⟨z, hz⟩ : ∃ z, M.wr c i 0 = z := ⟨_, rfl⟩
  rw [hz] at oz lz HMS hz0
  have HZ := Lib.hid hz
  clear hz
  go_enter Tryd.func6, Tryd.ntmps6
  go_wp2_with fail
  have k0 := (Dn.refl W).alloc (.cells (ints .u32 c) 23)
  have r := Row.new W 23 .u32 c
  refine (awake _ (E.dn k0)).mono ?_
  rintro e w1 ⟨rfl, d1⟩
  have k1 := k0.trans d1
  have r := r.dn d1
  have E1 := E.dn k1
  obtain ⟨b0, hb0⟩ : ∃ b, b = W.heap.size := ⟨_, rfl⟩
  rw [← hb0] at r ⊢
  clear hb0
  go_wp2_with fail
  have c1 : ∀ p q, Calls Tryd.prog 16 #[.agg (ints .u32 c), .int .i64 i, .int .u32 v] (grow (redrawn w1 p) q) fun e w'' => e = .returned (.agg (ints .u32 (M.wr c i v))) ∧ ∃ p : Regrown, w'' = grow (redrawn w1 p.d) p.os := fun p q => Calls.regrown_of (write c i v (grow (redrawn w1 p) q) (E1.dn (below_regrown w1 p q)) hc v0 v1)
  have C1 := Lib.hid c1
  clear c1
  have c2 : ∀ p q, Calls Tryd.prog 16 #[.agg (ints .u32 (M.wr c i v)), .int .i64 k, .int .u32 u] (grow (redrawn w1 p) q) fun e w'' => e = .returned (.agg (ints .u32 (M.wr (M.wr c i v) k u))) ∧ ∃ p : Regrown, w'' = grow (redrawn w1 p.d) p.os := fun p q => Calls.regrown_of (write (M.wr c i v) k u (grow (redrawn w1 p) q) (E1.dn (below_regrown w1 p q)) ov u0 u1)
  have C2 := Lib.hid c2
  clear c2
  have c3 : ∀ p q, Calls Tryd.prog 16 #[.agg (ints .u32 c), .int .i64 k, .int .u32 u] (grow (redrawn w1 p) q) fun e w'' => e = .returned (.agg (ints .u32 (M.wr c k u))) ∧ ∃ p : Regrown, w'' = grow (redrawn w1 p.d) p.os := fun p q => Calls.regrown_of (write c k u (grow (redrawn w1 p) q) (E1.dn (below_regrown w1 p q)) hc u0 u1)
  have C3 := Lib.hid c3
  clear c3
  have c4 : ∀ p q, Calls Tryd.prog 16 #[.agg (ints .u32 (M.wr c k u)), .int .i64 i, .int .u32 v] (grow (redrawn w1 p) q) fun e w'' => e = .returned (.agg (ints .u32 (M.wr (M.wr c i v) k u))) ∧ ∃ p : Regrown, w'' = grow (redrawn w1 p.d) p.os := fun p q => by
    have h := Calls.regrown_of (write (M.wr c k u) i v (grow (redrawn w1 p) q) (E1.dn (below_regrown w1 p q)) ou v0 v1)
    rw [HSW.out] at h
    exact h
  have C4 := Lib.hid c4
  clear c4
  have q1 := fun w => eq12 (c := M.wr (M.wr c i v) k u) (d := M.wr (M.wr c i v) k u) lvu lvu w
  simp only [beq_self_eq_true] at q1
  refine wp_region_quiet_below (by kernel_rfl) (by kernel_rfl) ?_
  repeat (first | go_big_quiet_skip | (go_big_quiet_want; first | ((with_reducible refine qop12 r hl ?_ ?_); rfl; simp only [Act.put, List.setIfInBounds_toArray, List.set_cons_succ, List.set_cons_zero]; go_big_quiet_on) | (go_big_quiet_op; first | go_big_quiet_on | go_big_quiet_call (first | (with_reducible exact C1.out _ _) | (with_reducible exact C2.out _ _) | (with_reducible exact C3.out _ _) | (with_reducible exact C4.out _ _)))))
  refine wpQuiet_nil ?_
  intro _ hw'
  obtain ⟨⟨dq, osq⟩, hw''⟩ := hw'
  subst hw''
  have dd := below_regrown w1 dq osq
  have k2 := k1.trans dd
  have E2 := E1.dn dd
  have r2 := r.dn dd
  generalize grow (redrawn w1 dq) osq = w2 at *
  clear r dd E1
  clear C1 C2 C3 C4 q1
  go_wp2_with fail
  refine (name i _ E2).mono ?_
  rintro e w ⟨rfl, rfl⟩
  go_wp2_with fail
  refine (name k _ E2).mono ?_
  rintro e w ⟨rfl, rfl⟩
  go_wp2_with fail
  refine (name i _ E2).mono ?_
  rintro e w ⟨rfl, rfl⟩
  go_wp2_with fail
  refine (name (12 + i) _ E2).mono ?_
  rintro e w ⟨rfl, rfl⟩
  go_wp2_with (first | ((with_reducible refine load12 r2 hl ?_ ?_ ?_); rfl; rfl))
  refine (write c i 0 _ E2 hc (by decide) (by decide)).mono ?_
  rintro e w3 ⟨rfl, d3⟩
  rw [HZ.out]
  have k4 := (k2.trans d3).alloc (.cells (ints .u32 z) 23)
  have r := r2.dn (d3.alloc (.cells (ints .u32 z) 23))
  have E4 := E.dn k4
  have rz := Row.new w3 23 .u32 z
  go_wp2_with (first | ((with_reducible refine store12 (b := w3.heap.size) z lz ?_ ?_ ?_ rfl ?_); rfl; rfl; rfl))
  refine (writeMask i _ E4).mono ?_
  rintro e w ⟨rfl, rfl⟩
  obtain ⟨b, hb⟩ : ∃ b, b = w3.heap.size := ⟨_, rfl⟩
  rw [← hb] at rz ⊢
  generalize w3.alloc (.cells (ints .u32 z) 23) = w4 at *
  clear hb
  have cz : w4.cell? ⟨b, i.toNat, none⟩ = some (.int .u32 (M.at_ z i)) := rz.cell i.toNat (by omega)
  have lzc := fun d os => cell_regrown cz d os
  have c1 : ∀ p q, Calls Tryd.prog 12 #[.int .i64 (12 + i)] (grow (redrawn w4 p) q) fun e w'' => e = .returned (.int .u32 0) ∧ ∃ p : Regrown, w'' = grow (redrawn w4 p.d) p.os := fun p q => by
    have h := Calls.regrown_of ((writeMask (12 + i) (grow (redrawn w4 p) q) (E4.dn (below_regrown w4 p q))).mono fun _ _ h => ⟨h.1, h.2 ▸ Dn.refl _⟩)
    rw [hm12] at h
    exact h
  have C1 := Lib.hid c1
  clear c1
  have c2 : ∀ p q, Calls Tryd.prog 16 #[.agg (ints .u32 c), .int .i64 (12 + i), .int .u32 v] (grow (redrawn w4 p) q) fun e w'' => e = .returned (.agg (ints .u32 c)) ∧ ∃ p : Regrown, w'' = grow (redrawn w4 p.d) p.os := fun p q => by
    have h := Calls.regrown_of (write c (12 + i) v (grow (redrawn w4 p) q) (E4.dn (below_regrown w4 p q)) hc v0 v1)
    rw [HW12.out] at h
    exact h
  have C2 := Lib.hid c2
  clear c2
  have c3 : ∀ p q, Calls Tryd.prog 16 #[.agg (ints .u32 z), .int .i64 i, .int .u32 A] (grow (redrawn w4 p) q) fun e w'' => e = .returned (.agg (ints .u32 (M.wr c i v))) ∧ ∃ p : Regrown, w'' = grow (redrawn w4 p.d) p.os := fun p q => by
    have h := Calls.regrown_of (write z i A (grow (redrawn w4 p) q) (E4.dn (below_regrown w4 p q)) oz hAr.1 hAr.2)
    rw [HMS.out] at h
    exact h
  have C3 := Lib.hid c3
  clear c3
  have c4 : ∀ p q, Calls Tryd.prog 16 #[.agg (ints .u32 c), .int .i64 i, .int .u32 v] (grow (redrawn w4 p) q) fun e w'' => e = .returned (.agg (ints .u32 (M.wr c i v))) ∧ ∃ p : Regrown, w'' = grow (redrawn w4 p.d) p.os := fun p q => Calls.regrown_of (write c i v (grow (redrawn w4 p) q) (E4.dn (below_regrown w4 p q)) hc v0 v1)
  have C4 := Lib.hid c4
  clear c4
  have q1 := fun w => eq12 (c := c) (d := c) hl hl w
  have q2 := fun w => eq12 (c := M.wr c i v) (d := M.wr c i v) lv lv w
  simp only [beq_self_eq_true] at q1 q2
  go_wp2_with fail
  refine wp_region_quiet_below (by kernel_rfl) (by kernel_rfl) ?_
  repeat (first | go_big_quiet_skip | (go_big_quiet_want; first | ((with_reducible refine qop12 r hl ?_ ?_); rfl; simp only [Act.put, List.setIfInBounds_toArray, List.set_cons_succ, List.set_cons_zero]; go_big_quiet_on) | ((with_reducible refine qop12 rz lz ?_ ?_); rfl; simp only [Act.put, List.setIfInBounds_toArray, List.set_cons_succ, List.set_cons_zero]; go_big_quiet_on) | (go_big_quiet_op; first | go_big_quiet_on | go_big_quiet_call (first | (with_reducible exact C1.out _ _) | (with_reducible exact C2.out _ _) | (with_reducible exact C3.out _ _) | (with_reducible exact C4.out _ _)))))
  refine wpQuiet_nil ?_
  intro _ hw'
  obtain ⟨⟨dq, osq⟩, hw''⟩ := hw'
  subst hw''
  have dd := below_regrown w4 dq osq
  have k5 := k4.trans dd
  go_wp2
  go_ret
  exact ⟨rfl, k5⟩

theorem coWalk (c : List Int) (hc : M.Ok c) (n : Int) (n0 : 0 ≤ n) (n1 : n < 256) (m : Int) (m0 : 0 ≤ m) (m1 : m < 256) (v : Int) (v0 : 0 ≤ v) (v1 : v < 4294967296) (u : Int) (u0 : 0 ≤ u) (u1 : u < 4294967296) (W : World) (E : CsrTabs W) :
    Calls Tryd.prog 6 #[.agg (ints .u32 c), .int .u8 n, .int .u8 m, .int .u32 v, .int .u32 u] W fun e W' => e = .returned (.bool true) ∧ Dn W W' := by
  by_cases h : n % 12 = m % 12
  · exact co_same c hc n n0 n1 m m0 m1 v v0 v1 u u0 u1 _ rfl h.symm W E
  · exact co_other c hc n n0 n1 m m0 m1 v v0 v1 u u0 u1 _ _ rfl rfl h W E
end Go.Proofs.YthfhidgahdoglaaDoor
