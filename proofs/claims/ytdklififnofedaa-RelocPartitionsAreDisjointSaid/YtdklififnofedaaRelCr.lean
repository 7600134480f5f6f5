/-
  'gaolerlaw06.RelocComposedRelocation' returns true when called, and writes nothing that was there: contract over the translated program. No conditions beyond what the kinds of its parameters say.
-/
import Derived.Test.YtdklififnofedaaRelMr
namespace Go.Proofs.Ytdklififnofedaa
open Go.ChangeShapes Go.WideShapes Go.ChangeAt Go.RowKit Go.Sort
set_option linter.unusedVariables false

/-- a partition and, in the block behind it, a processor -/
theorem box2r (W : World) (c : List Int) (pb ps : Int) :
    Row ((W.alloc (.cells #[.int .u32 pb, .int .u32 ps] 28)).alloc (.cells (ints .u32 c) 26)) (W.heap.size + 1) 26 .u32 c ∧
    Row ((W.alloc (.cells #[.int .u32 pb, .int .u32 ps] 28)).alloc (.cells (ints .u32 c) 26)) W.heap.size 28 .u32 [pb, ps] ∧
    Dn W ((W.alloc (.cells #[.int .u32 pb, .int .u32 ps] 28)).alloc (.cells (ints .u32 c) 26)) := by
  refine ⟨?_, (Row.new W 28 .u32 [pb, ps]).dn ((Dn.refl _).alloc _), ((Dn.refl W).alloc _).alloc _⟩
  have := Row.new (W.alloc (.cells #[.int .u32 pb, .int .u32 ps] 28)) 26 .u32 c
  rwa [size_alloc] at this

set_option maxRecDepth 100000 in
set_option maxHeartbeats 1000000 in
theorem crWalk (pb : Int) (p0 : 0 ≤ pb) (p1 : pb < 4294967296) (ps : Int) (s0 : 0 ≤ ps) (s1 : ps < 4294967296) (c : List Int) (hc : M.Core c) (many : Int) (m0 : 0 ≤ many) (m1 : many < 4294967296) (a : Int) (a0 : 0 ≤ a) (a1 : a < 4294967296) (wide : Bool) (W : World) :
    Calls Try.prog 4 #[.agg #[.int .u32 pb, .int .u32 ps], .agg (ints .u32 c), .int .u32 many, .int .u32 a, .bool wide] W fun e W' => e = .returned (.bool true) ∧ Dn W W' := by
  have T5 := Lib.hid fun w => fits pb ps w p0 p1 s0 s1
  obtain ⟨r_c, q, d⟩ := box2r W c pb ps
  have Q_q := Lib.hid q
  have D := Lib.hid d
  clear q d
  by_cases hf : pb + ps ≤ 2147483648
  · have hw : IntKind.u32.wrap (pb + ps) = pb + ps := by rw [IntKind.wrap_u32]; omega
    have T5 : Hid (∀ w : World, Calls Try.prog 14 #[.agg #[.int .u32 pb, .int .u32 ps]] w fun e W' => e = .returned (.bool true) ∧ Dn w W') := Lib.hid (by
      have := T5.out
      rwa [decide_eq_true hf] at this)
    by_cases hm : many < pb + ps
    · go_enter Try.func4, Try.ntmps4
      go_wp2_with (first | ((with_reducible refine load29 r_c hc.len ?_ ?_ ?_); rfl; rfl))
      refine (awake _).mono ?_
      rintro e w1 ⟨rfl, d1⟩
      have r_c := r_c.dn d1
      have Q_q := Lib.hid (Q_q.out.dn d1)
      have q0 := Q_q.out.p0
      have q1 := Q_q.out.p1
      have D := Lib.hid (D.out.trans d1)
      clear d1
      go_wp2_with (first | ((with_reducible refine load29 r_c hc.len ?_ ?_ ?_); rfl; rfl))
      refine (T5.out _).mono ?_
      rintro e w2 ⟨rfl, d1⟩
      have r_c := r_c.dn d1
      have Q_q := Lib.hid (Q_q.out.dn d1)
      have q0 := Q_q.out.p0
      have q1 := Q_q.out.p1
      have D := Lib.hid (D.out.trans d1)
      clear d1
      go_wp2_with (first | ((with_reducible refine load29 r_c hc.len ?_ ?_ ?_); rfl; rfl))
      refine (awake _).mono ?_
      rintro e w3 ⟨rfl, d1⟩
      have r_c := r_c.dn d1
      have Q_q := Lib.hid (Q_q.out.dn d1)
      have q0 := Q_q.out.p0
      have q1 := Q_q.out.p1
      have D := Lib.hid (D.out.trans d1)
      clear d1
      go_wp2
      go_ret
      exact ⟨rfl, D.out⟩
    · have C0 := Lib.hid (size_ wide)
      obtain ⟨n, n0, n1, hne⟩ : ∃ n : Int, 1 ≤ n ∧ n ≤ 4 ∧ (if wide then 4 else 1 : Int) = n := ⟨_, by split <;> decide, by split <;> decide, rfl⟩
      rw [hne] at C0
      clear hne
      have cr := M.cb_rng (ps := ps) hc p0 p1
      have nr := M.cn_rng hc s0 s1
      have ur := M.ub_rng hc
      have T6 := Lib.hid fun w => compose pb ps c w hc p0 p1 s0 s1
      have T1 := Lib.hid fun w => translate (M.cb pb ps c) (M.cn ps c) many a n w cr.1 cr.2 nr.1 nr.2 m0 m1 a0 a1 n0 n1
      have T3 := Lib.hid fun w => translateCore c ps a n w hc s0 s1 a0 a1 n0 n1
      obtain ⟨k1, k2⟩ := M.composed (size := many) (a := a) (n := n) hc p0 s0 hf (by omega) a0 n0
      have X1 : Hid (M.hit (M.ub c) (M.un c ps) ps a n = false → M.phys (M.cb pb ps c) (M.cn ps c) many a n = 0 ∧ M.phys (M.ub c) (M.un c ps) ps a n = 0) := Lib.hid fun h => ⟨M.phys_miss (by rw [k1, h]), M.phys_miss h⟩
      have X2 : Hid (M.hit (M.ub c) (M.un c ps) ps a n = true → ∃ y, 0 ≤ y ∧ y + n ≤ ps ∧ M.phys (M.cb pb ps c) (M.cn ps c) many a n = pb + y ∧ M.phys (M.ub c) (M.un c ps) ps a n = y) := Lib.hid fun h => by
        obtain ⟨e1, e2⟩ := k2 h
        refine ⟨M.ub c + a, by omega, by omega, ?_, M.phys_hit h⟩
        rw [M.phys_hit (by rw [k1, h]), e1]; omega
      rw [k1] at T1
      generalize M.cb pb ps c = f at *
      generalize M.cn ps c = g at *
      generalize M.phys f g many a n = x at *
      generalize M.phys (M.ub c) (M.un c ps) ps a n = y at *
      generalize M.hit (M.ub c) (M.un c ps) ps a n = o at *
      clear k1 k2 ur
      have hm : ¬ many < pb + ps := hm
      go_enter Try.func4, Try.ntmps4
      go_wp2_with (first | ((with_reducible refine load29 r_c hc.len ?_ ?_ ?_); rfl; rfl))
      refine (awake _).mono ?_
      rintro e w1 ⟨rfl, d1⟩
      have r_c := r_c.dn d1
      have Q_q := Lib.hid (Q_q.out.dn d1)
      have q0 := Q_q.out.p0
      have q1 := Q_q.out.p1
      have D := Lib.hid (D.out.trans d1)
      clear d1
      go_wp2_with (first | ((with_reducible refine load29 r_c hc.len ?_ ?_ ?_); rfl; rfl))
      refine (T5.out _).mono ?_
      rintro e w2 ⟨rfl, d1⟩
      have r_c := r_c.dn d1
      have Q_q := Lib.hid (Q_q.out.dn d1)
      have q0 := Q_q.out.p0
      have q1 := Q_q.out.p1
      have D := Lib.hid (D.out.trans d1)
      clear d1
      go_wp2_with (first | ((with_reducible refine load29 r_c hc.len ?_ ?_ ?_); rfl; rfl))
      refine (C0.out _).mono ?_
      rintro e w ⟨rfl, rfl⟩
      go_wp2_with (first | ((with_reducible refine load29 r_c hc.len ?_ ?_ ?_); rfl; rfl))
      refine (T6.out _).mono ?_
      rintro e w3 ⟨rfl, d1⟩
      have r_c := r_c.dn d1
      have Q_q := Lib.hid (Q_q.out.dn d1)
      have q0 := Q_q.out.p0
      have q1 := Q_q.out.p1
      have D := Lib.hid (D.out.trans d1)
      clear d1
      go_wp2_with (first | ((with_reducible refine load29 r_c hc.len ?_ ?_ ?_); rfl; rfl))
      refine (T1.out _).mono ?_
      rintro e w ⟨rfl, rfl⟩
      go_wp2_with (first | ((with_reducible refine load29 r_c hc.len ?_ ?_ ?_); rfl; rfl))
      refine (T3.out _).mono ?_
      rintro e w4 ⟨rfl, d1⟩
      have r_c := r_c.dn d1
      have Q_q := Lib.hid (Q_q.out.dn d1)
      have q0 := Q_q.out.p0
      have q1 := Q_q.out.p1
      have D := Lib.hid (D.out.trans d1)
      clear d1
      cases o
      · obtain ⟨rfl, rfl⟩ := X1.out rfl
        clear X1 X2
        go_wp2
        go_ret
        exact ⟨rfl, D.out⟩
      · obtain ⟨z, z0, z1, rfl, rfl⟩ := X2.out rfl
        clear X1 X2
        have hw2 : IntKind.u32.wrap (pb + y) = pb + y := by rw [IntKind.wrap_u32]; omega
        have i1 : pb ≤ pb + y := by omega
        have i2 : pb + y + n ≤ pb + ps := by omega
        go_wp2
        go_ret
        exact ⟨rfl, D.out⟩
  · have T5 : Hid (∀ w : World, Calls Try.prog 14 #[.agg #[.int .u32 pb, .int .u32 ps]] w fun e W' => e = .returned (.bool false) ∧ Dn w W') := Lib.hid (by
      have := T5.out
      rwa [decide_eq_false hf] at this)
    go_enter Try.func4, Try.ntmps4
    go_wp2_with (first | ((with_reducible refine load29 r_c hc.len ?_ ?_ ?_); rfl; rfl))
    refine (awake _).mono ?_
    rintro e w1 ⟨rfl, d1⟩
    have r_c := r_c.dn d1
    have Q_q := Lib.hid (Q_q.out.dn d1)
    have q0 := Q_q.out.p0
    have q1 := Q_q.out.p1
    have D := Lib.hid (D.out.trans d1)
    clear d1
    go_wp2_with (first | ((with_reducible refine load29 r_c hc.len ?_ ?_ ?_); rfl; rfl))
    refine (T5.out _).mono ?_
    rintro e w2 ⟨rfl, d1⟩
    have r_c := r_c.dn d1
    have Q_q := Lib.hid (Q_q.out.dn d1)
    have q0 := Q_q.out.p0
    have q1 := Q_q.out.p1
    have D := Lib.hid (D.out.trans d1)
    clear d1
    go_wp2_with (first | ((with_reducible refine load29 r_c hc.len ?_ ?_ ?_); rfl; rfl))
    refine (awake _).mono ?_
    rintro e w3 ⟨rfl, d1⟩
    have r_c := r_c.dn d1
    have Q_q := Lib.hid (Q_q.out.dn d1)
    have q0 := Q_q.out.p0
    have q1 := Q_q.out.p1
    have D := Lib.hid (D.out.trans d1)
    clear d1
    go_wp2
    go_ret
    exact ⟨rfl, D.out⟩
end Go.Proofs.Ytdklififnofedaa
