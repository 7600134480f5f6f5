/-
  The law CsrWritesAreMasked walked. Condition: the two tables of package csr.
-/
import Derived.Test.YthfhidgahdoglaaDoorCsrQuiet
namespace Go.Proofs.YthfhidgahdoglaaDoor
open Go.ChangeShapes Go.WideShapes Go.ChangeAt Go.RowKit Go.Sort
set_option linter.unusedVariables false

theorem rd_of (c : List Int) (hc : M.Ok c) (i v : Int) (he : M.ex i = true) : M.wr (M.wr c i v) i (M.rd c 0 i) = c := by
  by_cases h : i = 7 ∨ i = 8
  · rw [M.wr_time hc i v h, M.wr_time hc i _ h]
  · rw [M.rd_at c 0 i (by omega) (by omega) he]
    exact M.wr_back hc i v he

/-- the written bits and the old ones, added -/
theorem rd_sum (c : List Int) (hc : M.Ok c) (i v time : Int) (he : M.ex i = true) (h7 : i ≠ 7) (h8 : i ≠ 8) (v0 : 0 ≤ v) (v1 : v < 4294967296) :
    M.rd (M.wr c i v) time i = bits .and .u32 v (M.mask i) + bits .and .u32 (M.rd c time i) (4294967295 - M.mask i) ∧ 0 ≤ bits .and .u32 v (M.mask i) + bits .and .u32 (M.rd c time i) (4294967295 - M.mask i) ∧ bits .and .u32 v (M.mask i) + bits .and .u32 (M.rd c time i) (4294967295 - M.mask i) < 4294967296 := by
  have m := M.mask_rng i
  have r := hc.rng i
  rw [M.rd_at _ time i h7 h8 he, M.rd_at _ time i h7 h8 he, M.at_wr hc i i v he he, if_pos rfl]
  have x := M.mix_rng (M.at_ c i) (M.mask i) v m.1 m.2
  have e := M.mix_sum (M.at_ c i) (M.mask i) v m.1 m.2
  generalize M.at_ c i = o at *
  generalize M.mask i = k at *
  obtain ⟨v, rfl⟩ := Int.eq_ofNat_of_zero_le v0
  obtain ⟨o, rfl⟩ := Int.eq_ofNat_of_zero_le r.1
  obtain ⟨k, rfl⟩ := Int.eq_ofNat_of_zero_le m.1
  have e2 : (4294967295 : Int) - (k : Int) = ((4294967295 - k : Nat) : Int) := by omega
  rw [e2, u32_and_nat _ _ (by omega) (by omega), u32_and_nat _ _ (by omega) (by omega)]
  simp only [Int.toNat_natCast] at e
  rw [← e]
  exact ⟨rfl, x.1, x.2⟩

set_option maxHeartbeats 600000 in
theorem ma_same (c : List Int) (hc : M.Ok c) (time : Int) (t0 : 0 ≤ time) (t1 : time < 18446744073709551616) (n : Int) (n0 : 0 ≤ n) (n1 : n < 256) (m : Int) (m0 : 0 ≤ m) (m1 : m < 256) (v : Int) (v0 : 0 ≤ v) (v1 : v < 4294967296) (u : Int) (u0 : 0 ≤ u) (u1 : u < 4294967296) (i : Int) (hi : n % 12 = i) (hk : m % 12 = i) (W : World) (E : CsrTabs W) :
    Calls Tryd.prog 4 #[.agg (ints .u32 c), .int .u64 time, .int .u8 n, .int .u8 m, .int .u32 v, .int .u32 u] W fun e W' => e = .returned (.bool true) ∧ Dn W W' := by
  have hl := hc.len
  have i0 : 0 ≤ i := by omega
  have i1 : i < 12 := by omega
  have he : M.ex i = true := (M.ex_iff _).2 (by omega)
  have od := M.wr_ok hc i v
  have ld := od.len
  have ou := M.wr_ok hc i u
  have lu := ou.len
  have hx := M.rd_rng hc 0 i (by decide) (by decide)
  have HT7 : Hid (i = 7 ∨ i = 8 → M.wr c i v = c) := Lib.hid (M.wr_time hc i v)
  have HSUM : Hid (i ≠ 7 → i ≠ 8 → _) := Lib.hid (fun a b => rd_sum c hc i v time he a b v0 v1)
  have HRD : Hid (M.wr (M.wr c i v) i (M.rd c 0 i) = c) := Lib.hid (rd_of c hc i v he)
  have HWW : Hid (M.wr (M.wr c i v) i u = M.wr c i u) := Lib.hid (M.wr_wr hc i v u)
  obtain ⟨d, hd⟩ : ∃ d, M.wr c i v = d := ⟨_, rfl⟩
  rw [hd] at od ld HT7 HSUM HRD HWW
  have HD := Lib.hid hd
  clear hd
  go_enter Tryd.func4, Tryd.ntmps4
  go_wp2_with fail
  have k0 := (Dn.refl W).alloc (.cells (ints .u32 c) 23)
  have r := Row.new W 23 .u32 c
  refine (awake _ (E.dn k0)).mono ?_
  rintro e w1 ⟨rfl, d1⟩
  have k1 := k0.trans d1
  have r := r.dn d1
  go_wp2_with (first | ((with_reducible refine load12 r hl ?_ ?_ ?_); rfl; rfl))
  refine (write c i v _ (E.dn k1) hc v0 v1).mono ?_
  rintro e w2 ⟨rfl, d2⟩
  rw [HD.out]
  have k2 := (k1.trans d2).alloc (.cells (ints .u32 d) 23)
  have r := r.dn (d2.alloc (.cells (ints .u32 d) 23))
  have rd := Row.new w2 23 .u32 d
  go_wp2_with (first | ((with_reducible refine store12 (b := w2.heap.size) d ld ?_ ?_ ?_ rfl ?_); rfl; rfl; rfl))
  have E2 := E.dn k2
  obtain ⟨b, hb⟩ : ∃ b, b = w2.heap.size := ⟨_, rfl⟩
  obtain ⟨b0, hb0⟩ : ∃ b, b = W.heap.size := ⟨_, rfl⟩
  rw [← hb] at rd ⊢
  rw [← hb0] at r ⊢
  generalize w2.alloc (.cells (ints .u32 d) 23) = w3 at *
  clear hb hb0
  have c1 : ∀ p q, Calls Tryd.prog 16 #[.agg (ints .u32 d), .int .i64 i, .int .u32 u] (grow (redrawn w3 p) q) fun e w'' => e = .returned (.agg (ints .u32 (M.wr c i u))) ∧ ∃ p : Regrown, w'' = grow (redrawn w3 p.d) p.os := fun p q => by
    have h := Calls.regrown_of (write d i u (grow (redrawn w3 p) q) (E2.dn (below_regrown w3 p q)) od u0 u1)
    rw [HWW.out] at h
    exact h
  have c2 : ∀ p q, Calls Tryd.prog 16 #[.agg (ints .u32 c), .int .i64 i, .int .u32 u] (grow (redrawn w3 p) q) fun e w'' => e = .returned (.agg (ints .u32 (M.wr c i u))) ∧ ∃ p : Regrown, w'' = grow (redrawn w3 p.d) p.os := fun p q => Calls.regrown_of (write c i u (grow (redrawn w3 p) q) (E2.dn (below_regrown w3 p q)) hc u0 u1)
  have c5 : ∀ p q, Calls Tryd.prog 14 #[.agg (ints .u32 c), .int .u64 0, .int .i64 i] (grow (redrawn w3 p) q) fun e w'' => e = .returned (.int .u32 (M.rd c 0 i)) ∧ ∃ p : Regrown, w'' = grow (redrawn w3 p.d) p.os := fun p q => Calls.regrown_of (read c 0 i (grow (redrawn w3 p) q) hl (by decide) (by decide))
  have c6 : ∀ p q, Calls Tryd.prog 16 #[.agg (ints .u32 d), .int .i64 i, .int .u32 (M.rd c 0 i)] (grow (redrawn w3 p) q) fun e w'' => e = .returned (.agg (ints .u32 c)) ∧ ∃ p : Regrown, w'' = grow (redrawn w3 p.d) p.os := fun p q => by
    have h := Calls.regrown_of (write d i (M.rd c 0 i) (grow (redrawn w3 p) q) (E2.dn (below_regrown w3 p q)) od hx.1 hx.2)
    rw [HRD.out] at h
    exact h
  have C1 := Lib.hid c1
  have C2 := Lib.hid c2
  
  have C5 := Lib.hid c5
  have C6 := Lib.hid c6
  clear c1 c2 c5 c6
  have q1 := fun w => eq12 (c := M.wr c i u) (d := M.wr c i u) lu lu w
  have q2 := fun w => eq12 (c := c) (d := c) hl hl w
  simp only [beq_self_eq_true] at q1 q2
  go_wp2_with fail
  refine wp_region_quiet_below (by kernel_rfl) (by kernel_rfl) ?_
  repeat (first | go_big_quiet_skip | (go_big_quiet_want; first | ((with_reducible refine qop12 r hl ?_ ?_); rfl; simp only [Act.put, List.setIfInBounds_toArray, List.set_cons_succ, List.set_cons_zero]; go_big_quiet_on) | ((with_reducible refine qop12 rd ld ?_ ?_); rfl; simp only [Act.put, List.setIfInBounds_toArray, List.set_cons_succ, List.set_cons_zero]; go_big_quiet_on) | (go_big_quiet_op; first | go_big_quiet_on | go_big_quiet_call (first | (with_reducible exact C1.out _ _) | (with_reducible exact C2.out _ _) | (with_reducible exact C5.out _ _) | (with_reducible exact C6.out _ _)))))
  refine wpQuiet_nil ?_
  intro _ hw'
  obtain ⟨⟨dq, osq⟩, hw''⟩ := hw'
  subst hw''
  have dd := below_regrown w3 dq osq
  have k4 := k2.trans dd
  have E4 := E2.dn dd
  have r4 := r.dn dd
  have rd4 := rd.dn dd
  generalize grow (redrawn w3 dq) osq = w4 at *
  clear C1 C2 C5 C6 q1 r rd dd E2
  by_cases h78 : i = 7 ∨ i = 8
  · have hdc := HT7.out h78
    subst hdc
    rcases h78 with h7 | h8
    · go_wp2_with (first | ((with_reducible refine load12 r4 hl ?_ ?_ ?_); rfl; rfl) | ((with_reducible refine load12 rd4 hl ?_ ?_ ?_); rfl; rfl))
      go_ret
      exact ⟨rfl, k4⟩
    · have h7 : (i == 7) = false := by simp; omega
      go_wp2_with (first | ((with_reducible refine load12 r4 hl ?_ ?_ ?_); rfl; rfl) | ((with_reducible refine load12 rd4 hl ?_ ?_ ?_); rfl; rfl))
      go_ret
      exact ⟨rfl, k4⟩
  · have a7 : i ≠ 7 := by omega
    have a8 : i ≠ 8 := by omega
    have h7 : (i == 7) = false := by simpa using a7
    have h8 : (i == 8) = false := by simpa using a8
    have hs := HSUM.out a7 a8
    have m := M.mask_rng i
    clear h78
    go_wp2_with fail
    refine (writeMask i _ E4).mono ?_
    rintro e w ⟨rfl, rfl⟩
    obtain ⟨s1, s2, s3⟩ := hs
    have hm : IntKind.u32.wrap (4294967295 - M.mask i) = 4294967295 - M.mask i := by rw [IntKind.wrap_u32]; omega
    obtain ⟨A, hA⟩ : ∃ A, bits .and .u32 v (M.mask i) = A := ⟨_, rfl⟩
    obtain ⟨B, hB⟩ : ∃ B, bits .and .u32 (M.rd c time i) (4294967295 - M.mask i) = B := ⟨_, rfl⟩
    rw [hA, hB] at s1 s2 s3
    have c1 : ∀ p q, Calls Tryd.prog 14 #[.agg (ints .u32 d), .int .u64 time, .int .i64 i] (grow (redrawn w4 p) q) fun e w'' => e = .returned (.int .u32 (A + B)) ∧ ∃ p : Regrown, w'' = grow (redrawn w4 p.d) p.os := fun p q => by
      have h := Calls.regrown_of (read d time i (grow (redrawn w4 p) q) ld t0 t1)
      rw [s1] at h
      exact h
    have c2 : ∀ p q, Calls Tryd.prog 14 #[.agg (ints .u32 c), .int .u64 time, .int .i64 i] (grow (redrawn w4 p) q) fun e w'' => e = .returned (.int .u32 (M.rd c time i)) ∧ ∃ p : Regrown, w'' = grow (redrawn w4 p.d) p.os := fun p q => Calls.regrown_of (read c time i (grow (redrawn w4 p) q) hl t0 t1)
    have C1 := Lib.hid c1
    have C2 := Lib.hid c2
    have hsum : IntKind.u32.wrap (A + B) = A + B := by rw [IntKind.wrap_u32]; exact Int.emod_eq_of_lt s2 s3
    clear c1 c2 s1
    go_wp2_with fail
    refine wp_region_quiet_below (by kernel_rfl) (by kernel_rfl) ?_
    repeat (first | go_big_quiet_skip | (go_big_quiet_want; first | ((with_reducible refine qop12 r4 hl ?_ ?_); rfl; simp only [Act.put, List.setIfInBounds_toArray, List.set_cons_succ, List.set_cons_zero]; go_big_quiet_on) | ((with_reducible refine qop12 rd4 ld ?_ ?_); rfl; simp only [Act.put, List.setIfInBounds_toArray, List.set_cons_succ, List.set_cons_zero]; go_big_quiet_on) | (go_big_quiet_op; first | go_big_quiet_on | go_big_quiet_call (first | (with_reducible exact C1.out _ _) | (with_reducible exact C2.out _ _)))))
    refine wpQuiet_nil ?_
    intro _ hw'
    obtain ⟨⟨dq, osq⟩, hw''⟩ := hw'
    subst hw''
    have k5 := k4.trans (below_regrown w4 dq osq)
    go_wp2
    go_ret
    exact ⟨rfl, k5⟩

set_option maxHeartbeats 600000 in
theorem ma_other (c : List Int) (hc : M.Ok c) (time : Int) (t0 : 0 ≤ time) (t1 : time < 18446744073709551616) (n : Int) (n0 : 0 ≤ n) (n1 : n < 256) (m : Int) (m0 : 0 ≤ m) (m1 : m < 256) (v : Int) (v0 : 0 ≤ v) (v1 : v < 4294967296) (u : Int) (u0 : 0 ≤ u) (u1 : u < 4294967296) (i k : Int) (hi : n % 12 = i) (hk : m % 12 = k) (hik : i ≠ k) (W : World) (E : CsrTabs W) :
    Calls Tryd.prog 4 #[.agg (ints .u32 c), .int .u64 time, .int .u8 n, .int .u8 m, .int .u32 v, .int .u32 u] W fun e W' => e = .returned (.bool true) ∧ Dn W W' := by
  have hl := hc.len
  have i0 : 0 ≤ i := by omega
  have i1 : i < 12 := by omega
  have he : M.ex i = true := (M.ex_iff _).2 (by omega)
  have od := M.wr_ok hc i v
  have ld := od.len
  have ou := M.wr_ok hc i u
  have lu := ou.len
  have hik2 : (i != k) = true := by simpa using hik
  have hx := M.rd_rng hc 0 i (by decide) (by decide)
  have HT7 : Hid (i = 7 ∨ i = 8 → M.wr c i v = c) := Lib.hid (M.wr_time hc i v)
  have HSUM : Hid (i ≠ 7 → i ≠ 8 → _) := Lib.hid (fun a b => rd_sum c hc i v time he a b v0 v1)
  have HRD : Hid (M.wr (M.wr c i v) i (M.rd c 0 i) = c) := Lib.hid (rd_of c hc i v he)
  have HWW : Hid (M.wr (M.wr c i v) i u = M.wr c i u) := Lib.hid (M.wr_wr hc i v u)
  have HRW : Hid (i ≠ k → M.rd (M.wr c i v) time k = M.rd c time k) := Lib.hid (fun a => M.rd_wr hc i k v time a)
  obtain ⟨d, hd⟩ : ∃ d, M.wr c i v = d := ⟨_, rfl⟩
  rw [hd] at od ld HT7 HSUM HRD HWW HRW
  have HD := Lib.hid hd
  clear hd
  go_enter Tryd.func4, Tryd.ntmps4
  go_wp2_with fail
  have k0 := (Dn.refl W).alloc (.cells (ints .u32 c) 23)
  have r := Row.new W 23 .u32 c
  refine (awake _ (E.dn k0)).mono ?_
  rintro e w1 ⟨rfl, d1⟩
  have k1 := k0.trans d1
  have r := r.dn d1
  go_wp2_with (first | ((with_reducible refine load12 r hl ?_ ?_ ?_); rfl; rfl))
  refine (write c i v _ (E.dn k1) hc v0 v1).mono ?_
  rintro e w2 ⟨rfl, d2⟩
  rw [HD.out]
  have k2 := (k1.trans d2).alloc (.cells (ints .u32 d) 23)
  have r := r.dn (d2.alloc (.cells (ints .u32 d) 23))
  have rd := Row.new w2 23 .u32 d
  go_wp2_with (first | ((with_reducible refine store12 (b := w2.heap.size) d ld ?_ ?_ ?_ rfl ?_); rfl; rfl; rfl))
  have E2 := E.dn k2
  obtain ⟨b, hb⟩ : ∃ b, b = w2.heap.size := ⟨_, rfl⟩
  obtain ⟨b0, hb0⟩ : ∃ b, b = W.heap.size := ⟨_, rfl⟩
  rw [← hb] at rd ⊢
  rw [← hb0] at r ⊢
  generalize w2.alloc (.cells (ints .u32 d) 23) = w3 at *
  clear hb hb0
  have c1 : ∀ p q, Calls Tryd.prog 16 #[.agg (ints .u32 d), .int .i64 i, .int .u32 u] (grow (redrawn w3 p) q) fun e w'' => e = .returned (.agg (ints .u32 (M.wr c i u))) ∧ ∃ p : Regrown, w'' = grow (redrawn w3 p.d) p.os := fun p q => by
    have h := Calls.regrown_of (write d i u (grow (redrawn w3 p) q) (E2.dn (below_regrown w3 p q)) od u0 u1)
    rw [HWW.out] at h
    exact h
  have c2 : ∀ p q, Calls Tryd.prog 16 #[.agg (ints .u32 c), .int .i64 i, .int .u32 u] (grow (redrawn w3 p) q) fun e w'' => e = .returned (.agg (ints .u32 (M.wr c i u))) ∧ ∃ p : Regrown, w'' = grow (redrawn w3 p.d) p.os := fun p q => Calls.regrown_of (write c i u (grow (redrawn w3 p) q) (E2.dn (below_regrown w3 p q)) hc u0 u1)
  have c3 : i ≠ k → ∀ p q, Calls Tryd.prog 14 #[.agg (ints .u32 d), .int .u64 time, .int .i64 k] (grow (redrawn w3 p) q) fun e w'' => e = .returned (.int .u32 (M.rd c time k)) ∧ ∃ p : Regrown, w'' = grow (redrawn w3 p.d) p.os := fun hne p q => by
    have h := Calls.regrown_of (read d time k (grow (redrawn w3 p) q) ld t0 t1)
    rw [HRW.out hne] at h
    exact h
  have c4 : ∀ p q, Calls Tryd.prog 14 #[.agg (ints .u32 c), .int .u64 time, .int .i64 k] (grow (redrawn w3 p) q) fun e w'' => e = .returned (.int .u32 (M.rd c time k)) ∧ ∃ p : Regrown, w'' = grow (redrawn w3 p.d) p.os := fun p q => Calls.regrown_of (read c time k (grow (redrawn w3 p) q) hl t0 t1)
  have c5 : ∀ p q, Calls Tryd.prog 14 #[.agg (ints .u32 c), .int .u64 0, .int .i64 i] (grow (redrawn w3 p) q) fun e w'' => e = .returned (.int .u32 (M.rd c 0 i)) ∧ ∃ p : Regrown, w'' = grow (redrawn w3 p.d) p.os := fun p q => Calls.regrown_of (read c 0 i (grow (redrawn w3 p) q) hl (by decide) (by decide))
  have c6 : ∀ p q, Calls Tryd.prog 16 #[.agg (ints .u32 d), .int .i64 i, .int .u32 (M.rd c 0 i)] (grow (redrawn w3 p) q) fun e w'' => e = .returned (.agg (ints .u32 c)) ∧ ∃ p : Regrown, w'' = grow (redrawn w3 p.d) p.os := fun p q => by
    have h := Calls.regrown_of (write d i (M.rd c 0 i) (grow (redrawn w3 p) q) (E2.dn (below_regrown w3 p q)) od hx.1 hx.2)
    rw [HRD.out] at h
    exact h
  have C1 := Lib.hid c1
  have C2 := Lib.hid c2
  have C3 := Lib.hid (c3 hik)
  have C4 := Lib.hid c4
  have C5 := Lib.hid c5
  have C6 := Lib.hid c6
  clear c1 c2 c3 c4 c5 c6
  have q1 := fun w => eq12 (c := M.wr c i u) (d := M.wr c i u) lu lu w
  have q2 := fun w => eq12 (c := c) (d := c) hl hl w
  simp only [beq_self_eq_true] at q1 q2
  go_wp2_with fail
  refine wp_region_quiet_below (by kernel_rfl) (by kernel_rfl) ?_
  repeat (first | go_big_quiet_skip | (go_big_quiet_want; first | ((with_reducible refine qop12 r hl ?_ ?_); rfl; simp only [Act.put, List.setIfInBounds_toArray, List.set_cons_succ, List.set_cons_zero]; go_big_quiet_on) | ((with_reducible refine qop12 rd ld ?_ ?_); rfl; simp only [Act.put, List.setIfInBounds_toArray, List.set_cons_succ, List.set_cons_zero]; go_big_quiet_on) | (go_big_quiet_op; first | go_big_quiet_on | go_big_quiet_call (first | (with_reducible exact C1.out _ _) | (with_reducible exact C2.out _ _) | (with_reducible exact C3.out _ _) | (with_reducible exact C4.out _ _) | (with_reducible exact C5.out _ _) | (with_reducible exact C6.out _ _)))))
  refine wpQuiet_nil ?_
  intro _ hw'
  obtain ⟨⟨dq, osq⟩, hw''⟩ := hw'
  subst hw''
  have dd := below_regrown w3 dq osq
  have k4 := k2.trans dd
  have E4 := E2.dn dd
  have r4 := r.dn dd
  have rd4 := rd.dn dd
  generalize grow (redrawn w3 dq) osq = w4 at *
  clear C1 C2 C3 C4 C5 C6 q1 r rd dd E2
  by_cases h78 : i = 7 ∨ i = 8
  · have hdc := HT7.out h78
    subst hdc
    rcases h78 with h7 | h8
    · go_wp2_with (first | ((with_reducible refine load12 r4 hl ?_ ?_ ?_); rfl; rfl) | ((with_reducible refine load12 rd4 hl ?_ ?_ ?_); rfl; rfl))
      go_ret
      exact ⟨rfl, k4⟩
    · have h7 : (i == 7) = false := by simp; omega
      go_wp2_with (first | ((with_reducible refine load12 r4 hl ?_ ?_ ?_); rfl; rfl) | ((with_reducible refine load12 rd4 hl ?_ ?_ ?_); rfl; rfl))
      go_ret
      exact ⟨rfl, k4⟩
  · have a7 : i ≠ 7 := by omega
    have a8 : i ≠ 8 := by omega
    have h7 : (i == 7) = false := by simpa using a7
    have h8 : (i == 8) = false := by simpa using a8
    have hs := HSUM.out a7 a8
    have m := M.mask_rng i
    clear h78
    go_wp2_with fail
    refine (writeMask i _ E4).mono ?_
    rintro e w ⟨rfl, rfl⟩
    obtain ⟨s1, s2, s3⟩ := hs
    have hm : IntKind.u32.wrap (4294967295 - M.mask i) = 4294967295 - M.mask i := by rw [IntKind.wrap_u32]; omega
    obtain ⟨A, hA⟩ : ∃ A, bits .and .u32 v (M.mask i) = A := ⟨_, rfl⟩
    obtain ⟨B, hB⟩ : ∃ B, bits .and .u32 (M.rd c time i) (4294967295 - M.mask i) = B := ⟨_, rfl⟩
    rw [hA, hB] at s1 s2 s3
    have c1 : ∀ p q, Calls Tryd.prog 14 #[.agg (ints .u32 d), .int .u64 time, .int .i64 i] (grow (redrawn w4 p) q) fun e w'' => e = .returned (.int .u32 (A + B)) ∧ ∃ p : Regrown, w'' = grow (redrawn w4 p.d) p.os := fun p q => by
      have h := Calls.regrown_of (read d time i (grow (redrawn w4 p) q) ld t0 t1)
      rw [s1] at h
      exact h
    have c2 : ∀ p q, Calls Tryd.prog 14 #[.agg (ints .u32 c), .int .u64 time, .int .i64 i] (grow (redrawn w4 p) q) fun e w'' => e = .returned (.int .u32 (M.rd c time i)) ∧ ∃ p : Regrown, w'' = grow (redrawn w4 p.d) p.os := fun p q => Calls.regrown_of (read c time i (grow (redrawn w4 p) q) hl t0 t1)
    have C1 := Lib.hid c1
    have C2 := Lib.hid c2
    have hsum : IntKind.u32.wrap (A + B) = A + B := by rw [IntKind.wrap_u32]; exact Int.emod_eq_of_lt s2 s3
    clear c1 c2 s1
    go_wp2_with fail
    refine wp_region_quiet_below (by kernel_rfl) (by kernel_rfl) ?_
    repeat (first | go_big_quiet_skip | (go_big_quiet_want; first | ((with_reducible refine qop12 r4 hl ?_ ?_); rfl; simp only [Act.put, List.setIfInBounds_toArray, List.set_cons_succ, List.set_cons_zero]; go_big_quiet_on) | ((with_reducible refine qop12 rd4 ld ?_ ?_); rfl; simp only [Act.put, List.setIfInBounds_toArray, List.set_cons_succ, List.set_cons_zero]; go_big_quiet_on) | (go_big_quiet_op; first | go_big_quiet_on | go_big_quiet_call (first | (with_reducible exact C1.out _ _) | (with_reducible exact C2.out _ _)))))
    refine wpQuiet_nil ?_
    intro _ hw'
    obtain ⟨⟨dq, osq⟩, hw''⟩ := hw'
    subst hw''
    have k5 := k4.trans (below_regrown w4 dq osq)
    go_wp2
    go_ret
    exact ⟨rfl, k5⟩

theorem maWalk (c : List Int) (hc : M.Ok c) (time : Int) (t0 : 0 ≤ time) (t1 : time < 18446744073709551616) (n : Int) (n0 : 0 ≤ n) (n1 : n < 256) (m : Int) (m0 : 0 ≤ m) (m1 : m < 256) (v : Int) (v0 : 0 ≤ v) (v1 : v < 4294967296) (u : Int) (u0 : 0 ≤ u) (u1 : u < 4294967296) (W : World) (E : CsrTabs W) :
    Calls Tryd.prog 4 #[.agg (ints .u32 c), .int .u64 time, .int .u8 n, .int .u8 m, .int .u32 v, .int .u32 u] W fun e W' => e = .returned (.bool true) ∧ Dn W W' := by
  by_cases h : n % 12 = m % 12
  · exact ma_same c hc time t0 t1 n n0 n1 m m0 m1 v v0 v1 u u0 u1 _ rfl h.symm W E
  · exact ma_other c hc time t0 t1 n n0 n1 m m0 m1 v v0 v1 u u0 u1 _ _ rfl rfl h W E
end Go.Proofs.YthfhidgahdoglaaDoor
