/-
  The law CsrResetState walked. Condition: the two tables of package csr.
-/
import Derived.Test.YthfhidgahdoglaaDoorCsrQuiet
namespace Go.Proofs.YthfhidgahdoglaaDoor
open Go.ChangeShapes Go.WideShapes Go.ChangeAt Go.RowKit Go.Sort
set_option linter.unusedVariables false

/-- how many of the first k registers are not 0 after a reset -/
def nz (k : Nat) : Nat := (M.reset.take k).countP (fun x => x != 0)
theorem nz_step : ∀ k, k < 12 → nz (k + 1) = if M.reset.getD k 0 = 0 then nz k else nz k + 1 := by decide
theorem nz_le : ∀ k, k ≤ 12 → nz k ≤ 12 := by decide
theorem rd_reset (i : Int) (he : M.ex i = true) : M.rd M.reset 0 i = M.at_ M.reset i := by
  unfold M.rd
  split
  · rename_i h; subst h; rfl
  · split
    · rename_i h; subst h; rfl
    · rfl
def RsRel (W : World) (o k : Value) (w : World) : Prop := ∃ j : Nat, j ≤ 12 ∧ k = .int .i64 j ∧ o = .int .i64 (nz j : Nat) ∧ w = W

set_option maxHeartbeats 1000000 in
theorem rsWalk (time : Int) (t0 : 0 ≤ time) (t1 : time < 18446744073709551616) (n : Int) (n0 : 0 ≤ n) (n1 : n < 256) (W : World) (E : CsrTabs W) :
    Calls Tryd.prog 7 #[.int .u64 time, .int .u8 n] W fun e W' => e = .returned (.bool true) ∧ Dn W W' := by
  have o0 := M.reset_ok
  have i0 : 0 ≤ n % 12 := by omega
  have i1 : n % 12 < 12 := by omega
  have he : M.ex (n % 12) = true := (M.ex_iff _).2 (by omega)
  obtain ⟨i, hi⟩ : ∃ i, n % 12 = i := ⟨_, rfl⟩
  rw [hi] at he i0 i1
  go_enter Tryd.func7, Tryd.ntmps7
  go_wp2_with fail
  refine (awake _ E).mono ?_
  rintro e w1 ⟨rfl, d1⟩
  go_wp2_with fail
  refine (reset _).mono ?_
  rintro e w2 ⟨rfl, d2⟩
  have k2 := (d1.trans d2).alloc (.cells (ints .u32 M.reset) 23)
  have r := Row.new w2 23 .u32 M.reset
  obtain ⟨b, hb⟩ : ∃ b, b = w2.heap.size := ⟨_, rfl⟩
  go_wp2_with (first | ((with_reducible refine store12 (b := w2.heap.size) M.reset rfl ?_ ?_ ?_ rfl ?_); rfl; rfl; rfl))
  rw [← hb] at r ⊢
  generalize w2.alloc (.cells (ints .u32 M.reset) 23) = w3 at *
  clear hb
  go_loopw [7, 8] (fun o k w => RsRel w3 o k w) (fun _ k _ => 12 - (intOf k).toNat)
  case atStart => exact ⟨0, by decide, rfl, rfl, rfl⟩
  case round =>
    obtain ⟨j, hj, rfl, rfl, rfl⟩ := hrel
    by_cases hlt : j < 12
    · have hlt2 : (j : Int) < 12 := by omega
      have hc : wr.cell? ⟨b, j, none⟩ = some (.int .u32 (M.reset.getD j 0)) := r.cell j hlt
      have HS := Lib.hid (nz_step j hlt)
      have HL := nz_le j (by omega)
      obtain ⟨z, hz⟩ : ∃ z, z = M.reset.getD j 0 := ⟨_, rfl⟩
      rw [← hz] at hc
      have HZ := Lib.hid hz
      clear hz
      by_cases h0 : z = 0
      · have h1 : (z != 0) = false := by simpa using h0
        go_wp2
        refine ⟨⟨j + 1, by omega, by go_num, ?_, rfl⟩, by simp [intOf]; omega⟩
        rw [HS.out, ← HZ.out, if_pos h0]
      · have h1 : (z != 0) = true := by simpa using h0
        go_wp2
        refine ⟨⟨j + 1, by omega, by go_num, ?_, rfl⟩, by simp [intOf]; omega⟩
        rw [HS.out, ← HZ.out, if_neg h0]
        go_num
    · obtain rfl : j = 12 := by omega
      have hz : nz 12 = 3 := by decide
      have hat := o0.rng i
      have c0 : wr.cell? ⟨b, 0, none⟩ = some (.int .u32 1) := r.cell 0 (by decide)
      have ci : wr.cell? ⟨b, i.toNat, none⟩ = some (.int .u32 (M.at_ M.reset i)) := r.cell i.toNat (by show i.toNat < 12; omega)
      have l0 := fun d os => cell_regrown c0 d os
      have li := fun d os => cell_regrown ci d os
      have hE := E.dn k2
      have hsame : M.wr M.reset i (M.at_ M.reset i) = M.reset := M.wr_same o0 i he
      have c1 : ∀ d os, Calls Tryd.prog 18 #[.agg (ints .u32 M.reset)] (grow (redrawn wr d) os) fun e w'' => e = .returned (.int .u64 18446744073709551615) ∧ ∃ p : Regrown, w'' = grow (redrawn wr p.d) p.os := fun d os => Calls.regrown_of (compare M.reset _ o0)
      have c2 : ∀ d os, Calls Tryd.prog 16 #[.agg (ints .u32 M.reset), .int .i64 i, .int .u32 (M.at_ M.reset i)] (grow (redrawn wr d) os) fun e w'' => e = .returned (.agg (ints .u32 M.reset)) ∧ ∃ p : Regrown, w'' = grow (redrawn wr p.d) p.os := fun d os => by
        have := Calls.regrown_of (write M.reset i (M.at_ M.reset i) (grow (redrawn wr d) os) (hE.dn (below_regrown wr d os)) o0 hat.1 hat.2)
        rw [hsame] at this
        exact this
      have c3 : ∀ d os, Calls Tryd.prog 14 #[.agg (ints .u32 M.reset), .int .u64 0, .int .i64 i] (grow (redrawn wr d) os) fun e w'' => e = .returned (.int .u32 (M.at_ M.reset i)) ∧ ∃ p : Regrown, w'' = grow (redrawn wr p.d) p.os := fun d os => by
        have := Calls.regrown_of (read M.reset 0 i (grow (redrawn wr d) os) rfl (by decide) (by decide))
        rw [rd_reset i he] at this
        exact this
      have C1 := Lib.hid c1
      have C2 := Lib.hid c2
      have C3 := Lib.hid c3
      have htest : (decide (18446744073709551615 ≤ time) == (time == 18446744073709551615)) = true := by
        by_cases h : time = 18446744073709551615
        · simp [h]
        · have : ¬ 18446744073709551615 ≤ time := by omega
          simp [h, this]
      have heq := fun w => eq12 (c := M.reset) (d := M.reset) rfl rfl w
      clear c1 c2 c3
      go_wp2_with fail
      refine wp_region_quiet_below (by kernel_rfl) (by kernel_rfl) ?_
      repeat (first | ((with_reducible refine quiet12 r rfl ?_ ?_ ?_); rfl; rfl) | quiet_step (first | exact C1.out _ _ | exact C2.out _ _ | exact C3.out _ _))
      refine wpQuiet_nil ?_
      intro _ hw'
      obtain ⟨⟨dq, osq⟩, hw''⟩ := hw'
      subst hw''
      have k5 := k2.trans (below_regrown wr dq osq)
      go_wp2
      go_ret
      exact ⟨rfl, k5⟩
end Go.Proofs.YthfhidgahdoglaaDoor
