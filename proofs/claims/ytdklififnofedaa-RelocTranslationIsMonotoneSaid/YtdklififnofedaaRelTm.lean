/-
  'gaolerlaw06.RelocTranslationIsMonotone' returns true when called, and writes nothing that was there: contract over the translated program. No conditions beyond what the kinds of its parameters say.
-/
import Derived.Test.YtdklififnofedaaRelMr
namespace Go.Proofs.Ytdklififnofedaa
open Go.ChangeShapes Go.WideShapes Go.ChangeAt Go.RowKit Go.Sort
set_option linter.unusedVariables false

theorem translate_at (base bound size a n : Int) (x : Int) (o : Bool) (ho : M.hit base bound size a n = o) (hx : M.phys base bound size a n = x) (W : World) (b0 : 0 ≤ base) (b1 : base < 4294967296) (k0 : 0 ≤ bound) (k1 : bound < 4294967296) (s0 : 0 ≤ size) (s1 : size < 4294967296) (a0 : 0 ≤ a) (a1 : a < 4294967296) (n0 : 1 ≤ n) (n1 : n ≤ 4) :
    Calls Try.prog 10 #[.int .u32 base, .int .u32 bound, .int .u32 size, .int .u32 a, .int .i64 n] W fun e W' => e = .returned (.tuple #[.int .u32 x, .bool o]) ∧ W = W' := by
  subst ho hx
  exact translate base bound size a n W b0 b1 k0 k1 s0 s1 a0 a1 n0 n1
theorem hit_no {base bound size a n : Int} (h : ¬ (a + n ≤ bound ∧ base + a + n ≤ size)) : M.hit base bound size a n = false := by rw [Bool.eq_false_iff, ne_eq, M.hit_iff]; exact h

set_option maxRecDepth 100000 in
set_option maxHeartbeats 1000000 in
theorem tm_no (base : Int) (b0 : 0 ≤ base) (b1 : base < 4294967296) (bound : Int) (k0 : 0 ≤ bound) (k1 : bound < 4294967296) (many : Int) (m0 : 0 ≤ many) (m1 : many < 4294967296) (a : Int) (a0 : 0 ≤ a) (a1 : a < 4294967296) (more : Int) (r0 : 0 ≤ more) (r1 : more < 4294967296) (hn : M.hit base bound many a 4 = false) (W : World) :
    Calls Try.prog 5 #[.int .u32 base, .int .u32 bound, .int .u32 many, .int .u32 a, .int .u32 more] W fun e W' => e = .returned (.bool true) ∧ Dn W W' := by
  have T1 := Lib.hid fun w => translate_at base bound many a 4 0 false hn (M.phys_miss hn) w b0 b1 k0 k1 m0 m1 a0 a1 (by decide) (by decide)
  have hz : M.hit base 0 many a 1 = false := hit_no (by omega)
  have T2 := Lib.hid fun w => translate_at base 0 many a 1 0 false hz (M.phys_miss hz) w b0 b1 (by decide) (by decide) m0 m1 a0 a1 (by decide) (by decide)
  have hq : ¬ (a + 4 ≤ bound ∧ base + a + 4 ≤ many) := by rw [← M.hit_iff, hn]; decide
  obtain ⟨z, hz1, hz2, hz3, hz4⟩ : ∃ z, IntKind.u32.wrap (a + 3) = z ∧ 0 ≤ z ∧ z < 4294967296 ∧ (M.hit base bound many z 1 = false ∨ z < a) := by
    rw [IntKind.wrap_u32]
    refine ⟨_, rfl, by omega, by omega, ?_⟩
    by_cases h : a + 3 < 4294967296
    · exact .inl (hit_no (by omega))
    · exact .inr (by omega)
  have T3 := Lib.hid fun w => translate base bound many z 1 w b0 b1 k0 k1 m0 m1 hz2 hz3 (by decide) (by decide)
  generalize M.hit base bound many z 1 = o at *
  generalize M.phys base bound many z 1 = y at *
  clear hn hz hq
  go_enter Try.func5, Try.ntmps5
  go_wp2_with fail
  refine (awake _).mono ?_
  rintro e w1 ⟨rfl, d1⟩
  have D := Lib.hid d1
  clear d1
  go_wp2_with fail
  refine (T1.out _).mono ?_
  rintro e w ⟨rfl, rfl⟩
  go_wp2_with fail
  refine (T2.out _).mono ?_
  rintro e w ⟨rfl, rfl⟩
  go_wp2_with fail
  refine (T3.out _).mono ?_
  rintro e w ⟨rfl, rfl⟩
  rcases hz4 with rfl | hz4
  · go_wp2
    go_ret
    exact ⟨rfl, D.out⟩
  · cases o
    · go_wp2
      go_ret
      exact ⟨rfl, D.out⟩
    · go_wp2
      go_ret
      exact ⟨rfl, D.out⟩

def TmRel (W : World) (i : Value) (w : World) : Prop := ∃ k : Nat, k ≤ 4 ∧ i = .int .u32 k ∧ w = W

set_option maxRecDepth 100000 in
set_option maxHeartbeats 1000000 in
theorem tm_yes (base : Int) (b0 : 0 ≤ base) (b1 : base < 4294967296) (bound : Int) (k0 : 0 ≤ bound) (k1 : bound < 4294967296) (many : Int) (m0 : 0 ≤ many) (m1 : many < 4294967296) (a : Int) (a0 : 0 ≤ a) (a1 : a < 4294967296) (more : Int) (r0 : 0 ≤ more) (r1 : more < 4294967296) (hn : M.hit base bound many a 4 = true) (W : World) :
    Calls Try.prog 5 #[.int .u32 base, .int .u32 bound, .int .u32 many, .int .u32 a, .int .u32 more] W fun e W' => e = .returned (.bool true) ∧ Dn W W' := by
  have T1 := Lib.hid fun w => translate_at base bound many a 4 (base + a) true hn (M.phys_hit hn) w b0 b1 k0 k1 m0 m1 a0 a1 (by decide) (by decide)
  have hz : M.hit base 0 many a 1 = false := hit_no (by omega)
  have T2 := Lib.hid fun w => translate_at base 0 many a 1 0 false hz (M.phys_miss hz) w b0 b1 (by decide) (by decide) m0 m1 a0 a1 (by decide) (by decide)
  obtain ⟨hq1, hq2⟩ := (M.hit_iff _ _ _ _ _).1 hn
  have U1 := Lib.hid fun w => up_ bound more w k0 k1 r0 r1
  have U2 := Lib.hid fun w => up_ many more w m0 m1 r0 r1
  obtain ⟨u, hu1, hu2, hu3, hu4⟩ : ∃ u, min (bound + more) 4294967295 = u ∧ 0 ≤ u ∧ u < 4294967296 ∧ bound ≤ u := ⟨_, rfl, by omega, by omega, by omega⟩
  obtain ⟨v, hv1, hv2, hv3, hv4⟩ : ∃ v, min (many + more) 4294967295 = v ∧ 0 ≤ v ∧ v < 4294967296 ∧ many ≤ v := ⟨_, rfl, by omega, by omega, by omega⟩
  rw [hu1] at U1
  rw [hv1] at U2
  have h3 : M.hit base u many a 4 = true := (M.hit_iff _ _ _ _ _).2 (by omega)
  have h4 : M.hit base bound v a 4 = true := (M.hit_iff _ _ _ _ _).2 (by omega)
  have T3 := Lib.hid fun w => translate_at base u many a 4 (base + a) true h3 (M.phys_hit h3) w b0 b1 hu2 hu3 m0 m1 a0 a1 (by decide) (by decide)
  have T4 := Lib.hid fun w => translate_at base bound v a 4 (base + a) true h4 (M.phys_hit h4) w b0 b1 k0 k1 hv2 hv3 a0 a1 (by decide) (by decide)
  have hw : IntKind.u32.wrap (base + a) = base + a := by rw [IntKind.wrap_u32]; omega
  clear hn hz hu1 hv1 h3 h4
  go_enter Try.func5, Try.ntmps5
  go_wp2_with fail
  refine (awake _).mono ?_
  rintro e w1 ⟨rfl, d1⟩
  have D := Lib.hid d1
  clear d1
  go_wp2_with fail
  refine (T1.out _).mono ?_
  rintro e w ⟨rfl, rfl⟩
  go_wp2_with fail
  refine (T2.out _).mono ?_
  rintro e w ⟨rfl, rfl⟩
  go_wp2_with fail
  refine (U1.out _).mono ?_
  rintro e w ⟨rfl, rfl⟩
  go_wp2_with fail
  refine (T3.out _).mono ?_
  rintro e w ⟨rfl, rfl⟩
  go_wp2_with fail
  refine (U2.out _).mono ?_
  rintro e w ⟨rfl, rfl⟩
  go_wp2_with fail
  refine (T4.out _).mono ?_
  rintro e w ⟨rfl, rfl⟩
  clear T1 T2 T3 T4 U1 U2 hu2 hu3 hu4 hv2 hv3 hv4
  go_wp2_with fail
  go_loopw [21] (fun i w => TmRel w1 i w) (fun i _ => 4 - (intOf i).toNat)
  case atStart => exact ⟨0, by decide, rfl, rfl⟩
  case round =>
    obtain ⟨k, hk, rfl, rfl⟩ := hrel
    by_cases hlt : k < 4
    · have hlt2 : (k : Int) < 4 := by omega
      have h5 : M.hit base bound many (a + k) 1 = true := (M.hit_iff _ _ _ _ _).2 (by omega)
      have T5 := Lib.hid fun w => translate_at base bound many (a + k) 1 (base + a + k) true h5 (by rw [M.phys_hit h5]; omega) w b0 b1 k0 k1 m0 m1 (by omega) (by omega) (by decide) (by decide)
      have w1 : IntKind.u32.wrap (a + k) = a + k := by rw [IntKind.wrap_u32]; omega
      have w2 : IntKind.u32.wrap (base + a + k) = base + a + k := by rw [IntKind.wrap_u32]; omega
      clear h5
      go_wp2_with fail
      refine (T5.out _).mono ?_
      rintro e w ⟨rfl, rfl⟩
      go_wp2
      exact ⟨⟨k + 1, by omega, by go_num, rfl⟩, by simp [intOf]; omega⟩
    · obtain rfl : k = 4 := by omega
      go_wp2
      go_ret
      exact ⟨rfl, D.out⟩
theorem tmWalk (base : Int) (b0 : 0 ≤ base) (b1 : base < 4294967296) (bound : Int) (k0 : 0 ≤ bound) (k1 : bound < 4294967296) (many : Int) (m0 : 0 ≤ many) (m1 : many < 4294967296) (a : Int) (a0 : 0 ≤ a) (a1 : a < 4294967296) (more : Int) (r0 : 0 ≤ more) (r1 : more < 4294967296) (W : World) :
    Calls Try.prog 5 #[.int .u32 base, .int .u32 bound, .int .u32 many, .int .u32 a, .int .u32 more] W fun e W' => e = .returned (.bool true) ∧ Dn W W' := by
  cases hn : M.hit base bound many a 4
  · exact tm_no base b0 b1 bound k0 k1 many m0 m1 a a0 a1 more r0 r1 hn W
  · exact tm_yes base b0 b1 bound k0 k1 many m0 m1 a a0 a1 more r0 r1 hn W
end Go.Proofs.Ytdklififnofedaa
