/-
  The law CsrMatchesReference walked. Condition: the two tables of package csr.
-/
import Derived.Test.YthfhidgahdoglaaDoorCsrQuiet
import Derived.Test.YthfhidgahdoglaaDoorCsrRefs
namespace Go.Proofs.YthfhidgahdoglaaDoor
open Go.ChangeShapes Go.WideShapes Go.ChangeAt Go.RowKit Go.Sort
set_option linter.unusedVariables false

/-- what the loop over the names has found among the first k -/
def Found (s : List UInt8) (k : Nat) (x : Int) : Prop := ((∀ j, j < k → M.nameL.getD j [] ≠ s) ∧ x = -1) ∨ (∃ j : Nat, j < k ∧ M.nameL.getD j [] = s ∧ x = j)
theorem Found.hit {s : List UInt8} {k : Nat} (hz : M.nameL.getD k [] = s) : Found s (k + 1) k := .inr ⟨k, by omega, hz, rfl⟩
theorem Found.miss {s : List UInt8} {k : Nat} {x : Int} (h : Found s k x) (hz : M.nameL.getD k [] ≠ s) : Found s (k + 1) x := by
  rcases h with ⟨h, e⟩ | ⟨j, hj, h, e⟩
  · refine .inl ⟨fun j hj => ?_, e⟩
    by_cases hk : j = k
    · subst hk; exact hz
    · exact h j (by omega)
  · exact .inr ⟨j, by omega, h, e⟩
/-- .. and what that is at the end -/
theorem Found.last {s : List UInt8} {x : Int} (h : Found s 12 x) : (x = -1 ∧ M.num s = 0 ∧ M.has s = false) ∨ (0 ≤ x ∧ M.num s = x ∧ M.has s = true) := by
  rcases h with ⟨h, rfl⟩ | ⟨j, hj, h, rfl⟩
  · obtain ⟨a, b⟩ := M.num_none s h
    exact .inl ⟨rfl, a, b⟩
  · have e := M.num_at j hj s h.symm (fun i hi he => by have := M.names_apart i (by omega) j hj (he.trans h.symm); omega)
    exact .inr ⟨by omega, e.1, e.2⟩

def MrRel (W : World) (s : List UInt8) (x i : Value) (w : World) : Prop := ∃ (k : Nat) (z : Int), k ≤ 12 ∧ i = .int .i64 k ∧ x = .int .i64 z ∧ Found s k z ∧ -1 ≤ z ∧ z < 12 ∧ Dn W w

theorem name_nat (k : Nat) (hk : k < 12) : M.name k = M.nameL.getD k [] := by
  unfold M.name
  rw [if_pos ((M.ex_iff _).2 (by omega))]
  rfl

set_option maxHeartbeats 2000000 in
theorem mrWalk (c : List Int) (hc : M.Ok c) (time : Int) (t0 : 0 ≤ time) (t1 : time < 18446744073709551616) (n : Int) (n0 : -9223372036854775808 ≤ n) (n1 : n < 9223372036854775808) (s : List UInt8) (hs : s.length ≤ 9223372036854775807) (v : Int) (v0 : 0 ≤ v) (v1 : v < 4294967296) (W : World) (E : CsrTabs W) :
    Calls Tryd.prog 3 #[.agg (ints .u32 c), .int .u64 time, .int .i64 n, .string ⟨s.toArray⟩, .int .u32 v] W fun e W' => e = .returned (.bool true) ∧ Dn W W' := by
  have hl := hc.len
  have k0 := (Dn.refl W).alloc (.cells (ints .u32 c) 23)
  have r := Row.new W 23 .u32 c
  by_cases h100 : s.length ≤ 100
  · have h1 : ¬ (100 : Int) < s.length := by omega
    go_enter Tryd.func3, Tryd.ntmps3
    go_wp2_with fail
    refine (awake _ (E.dn k0)).mono ?_
    rintro e w1 ⟨rfl, d1⟩
    have k1 := k0.trans d1
    have r1 := r.dn d1
    have E1 := E.dn k1
    obtain ⟨b0, hb0⟩ : ∃ b, b = W.heap.size := ⟨_, rfl⟩
    rw [← hb0] at r1 ⊢
    clear hb0 r
    go_wp2_with fail
    refine (number s _ E1).mono ?_
    rintro e w ⟨rfl, rfl⟩
    go_wp2_with fail
    go_loopw [13, 14] (fun x i w => MrRel w1 s x i w) (fun _ i _ => 12 - (intOf i).toNat)
    case atStart => exact ⟨0, -1, by decide, rfl, rfl, .inl ⟨fun j hj => absurd hj (by omega), rfl⟩, by decide, by decide, Dn.refl _⟩
    case round =>
      obtain ⟨k, z, hk, rfl, rfl, hf, z0, z1, dn⟩ := hrel
      have HF := Lib.hid hf
      clear hf
      by_cases hlt : k < 12
      · have hlt2 : (k : Int) < 12 := by omega
        have HN := Lib.hid (name_nat k hlt)
        by_cases heq : M.nameL.getD k [] = s
        · have hx : M.name k = s := HN.out.trans heq
          have HQ := Lib.hid heq
          clear heq
          go_wp2_with fail
          refine (refName k _).mono ?_
          rintro e w2 ⟨rfl, d2⟩
          go_wp2
          go_roundw
          case rel => exact ⟨k + 1, k, by omega, by go_num, rfl, Found.hit HQ.out, by omega, by omega, dn.trans d2⟩
          case measure => simp [intOf]; omega
        · have hx : (M.name k == s) = false := by rw [HN.out]; simpa using heq
          have HQ := Lib.hid heq
          clear heq
          go_wp2_with fail
          refine (refName k _).mono ?_
          rintro e w2 ⟨rfl, d2⟩
          go_wp2
          go_roundw
          case rel => exact ⟨k + 1, z, by omega, by go_num, rfl, Found.miss HF.out HQ.out, z0, z1, dn.trans d2⟩
          case measure => simp [intOf]; omega
      · obtain rfl : k = 12 := by omega
        have k3 := k1.trans dn
        have E3 := E1.dn dn
        have r3 := r1.dn dn
        have HFL := Lib.hid (Found.last HF.out)
        clear HF
        have lw := (M.wr_ok hc n v).len
        have q1 := fun w => eq12 (c := M.wr c n v) (d := M.wr c n v) lw lw w
        have q2 := fun w => eq12 (c := M.reset) (d := M.reset) rfl rfl w
        simp only [beq_self_eq_true] at q1 q2
        have c1 : ∀ p q, Calls Tryd.prog 11 #[.int .i64 n] (grow (redrawn wr p) q) fun e w'' => e = .returned (.string ⟨(M.name n).toArray⟩) ∧ ∃ p : Regrown, w'' = grow (redrawn wr p.d) p.os := fun p q => Calls.regrown_of ((name n (grow (redrawn wr p) q) (E3.dn (below_regrown wr p q))).mono fun _ _ h => ⟨h.1, h.2 ▸ Dn.refl _⟩)
        have C1 := Lib.hid c1
        clear c1
        have c2 : ∀ p q, Calls Tryd.prog 10 #[.int .i64 n] (grow (redrawn wr p) q) fun e w'' => e = .returned (.string ⟨(M.name n).toArray⟩) ∧ ∃ p : Regrown, w'' = grow (redrawn wr p.d) p.os := fun p q => Calls.regrown_of (refName n (grow (redrawn wr p) q))
        have C2 := Lib.hid c2
        clear c2
        have c3 : ∀ p q, Calls Tryd.prog 12 #[.int .i64 n] (grow (redrawn wr p) q) fun e w'' => e = .returned (.int .u32 (M.mask n)) ∧ ∃ p : Regrown, w'' = grow (redrawn wr p.d) p.os := fun p q => Calls.regrown_of ((writeMask n (grow (redrawn wr p) q) (E3.dn (below_regrown wr p q))).mono fun _ _ h => ⟨h.1, h.2 ▸ Dn.refl _⟩)
        have C3 := Lib.hid c3
        clear c3
        have c4 : ∀ p q, Calls Tryd.prog 13 #[.int .i64 n] (grow (redrawn wr p) q) fun e w'' => e = .returned (.int .u32 (M.mask n)) ∧ ∃ p : Regrown, w'' = grow (redrawn wr p.d) p.os := fun p q => Calls.regrown_of ((refMask n (grow (redrawn wr p) q)).mono fun _ _ h => ⟨h.1, h.2 ▸ Dn.refl _⟩)
        have C4 := Lib.hid c4
        clear c4
        have c5 : ∀ p q, Calls Tryd.prog 14 #[.agg (ints .u32 c), .int .u64 time, .int .i64 n] (grow (redrawn wr p) q) fun e w'' => e = .returned (.int .u32 (M.rd c time n)) ∧ ∃ p : Regrown, w'' = grow (redrawn wr p.d) p.os := fun p q => Calls.regrown_of (read c time n (grow (redrawn wr p) q) hl t0 t1)
        have C5 := Lib.hid c5
        clear c5
        have c6 : ∀ p q, Calls Tryd.prog 15 #[.agg (ints .u32 c), .int .u64 time, .int .i64 n] (grow (redrawn wr p) q) fun e w'' => e = .returned (.int .u32 (M.rd c time n)) ∧ ∃ p : Regrown, w'' = grow (redrawn wr p.d) p.os := fun p q => Calls.regrown_of (refRead c time n (grow (redrawn wr p) q) hl t0 t1)
        have C6 := Lib.hid c6
        clear c6
        have c7 : ∀ p q, Calls Tryd.prog 16 #[.agg (ints .u32 c), .int .i64 n, .int .u32 v] (grow (redrawn wr p) q) fun e w'' => e = .returned (.agg (ints .u32 (M.wr c n v))) ∧ ∃ p : Regrown, w'' = grow (redrawn wr p.d) p.os := fun p q => Calls.regrown_of (write c n v (grow (redrawn wr p) q) (E3.dn (below_regrown wr p q)) hc v0 v1)
        have C7 := Lib.hid c7
        clear c7
        have c8 : ∀ p q, Calls Tryd.prog 17 #[.agg (ints .u32 c), .int .i64 n, .int .u32 v] (grow (redrawn wr p) q) fun e w'' => e = .returned (.agg (ints .u32 (M.wr c n v))) ∧ ∃ p : Regrown, w'' = grow (redrawn wr p.d) p.os := fun p q => Calls.regrown_of (refWrite c n v (grow (redrawn wr p) q) hc v0 v1)
        have C8 := Lib.hid c8
        clear c8
        have c9 : ∀ p q, Calls Tryd.prog 18 #[.agg (ints .u32 c)] (grow (redrawn wr p) q) fun e w'' => e = .returned (.int .u64 (M.cmp c)) ∧ ∃ p : Regrown, w'' = grow (redrawn wr p.d) p.os := fun p q => Calls.regrown_of (compare c (grow (redrawn wr p) q) hc)
        have C9 := Lib.hid c9
        clear c9
        have c10 : ∀ p q, Calls Tryd.prog 19 #[.agg (ints .u32 c)] (grow (redrawn wr p) q) fun e w'' => e = .returned (.int .u64 (M.cmp c)) ∧ ∃ p : Regrown, w'' = grow (redrawn wr p.d) p.os := fun p q => Calls.regrown_of (refCompare c (grow (redrawn wr p) q) hc)
        have C10 := Lib.hid c10
        clear c10
        have c11 : ∀ p q, Calls Tryd.prog 20 #[] (grow (redrawn wr p) q) fun e w'' => e = .returned (.agg (ints .u32 M.reset)) ∧ ∃ p : Regrown, w'' = grow (redrawn wr p.d) p.os := fun p q => Calls.regrown_of (reset (grow (redrawn wr p) q))
        have C11 := Lib.hid c11
        clear c11
        have c12 : ∀ p q, Calls Tryd.prog 21 #[] (grow (redrawn wr p) q) fun e w'' => e = .returned (.agg (ints .u32 M.reset)) ∧ ∃ p : Regrown, w'' = grow (redrawn wr p.d) p.os := fun p q => Calls.regrown_of (refReset (grow (redrawn wr p) q))
        have C12 := Lib.hid c12
        clear c12
        rcases HFL.out with ⟨rfl, f1, f2⟩ | ⟨hz, f1, f2⟩
        all_goals
          go_wp2_with fail
          refine wp_region_quiet_below (by kernel_rfl) (by kernel_rfl) ?_
          repeat (first | go_big_quiet_skip | (go_big_quiet_want; first | ((with_reducible refine qop12 r3 hl ?_ ?_); rfl; simp only [Act.put, List.setIfInBounds_toArray, List.set_cons_succ, List.set_cons_zero]; go_big_quiet_on) | (go_big_quiet_op; first | go_big_quiet_on | go_big_quiet_call (first | (with_reducible exact C1.out _ _) | (with_reducible exact C2.out _ _) | (with_reducible exact C3.out _ _) | (with_reducible exact C4.out _ _) | (with_reducible exact C5.out _ _) | (with_reducible exact C6.out _ _) | (with_reducible exact C7.out _ _) | (with_reducible exact C8.out _ _) | (with_reducible exact C9.out _ _) | (with_reducible exact C10.out _ _) | (with_reducible exact C11.out _ _) | (with_reducible exact C12.out _ _)))))
          refine wpQuiet_nil ?_
          intro _ hw'
          obtain ⟨⟨dq, osq⟩, hw''⟩ := hw'
          subst hw''
          have dd := below_regrown wr dq osq
          have k5 := k3.trans dd
          go_wp2
          go_ret
          exact ⟨rfl, k5⟩
  · have h1 : (100 : Int) < s.length := by omega
    go_enter Tryd.func3, Tryd.ntmps3
    go_wp2_with fail
    refine (awake _ (E.dn k0)).mono ?_
    rintro e w1 ⟨rfl, d1⟩
    have k1 := k0.trans d1
    go_wp2_with fail
    refine (awake _ (E.dn k1)).mono ?_
    rintro e w2 ⟨rfl, d2⟩
    go_wp2
    go_ret
    exact ⟨rfl, k1.trans d2⟩
end Go.Proofs.YthfhidgahdoglaaDoor
