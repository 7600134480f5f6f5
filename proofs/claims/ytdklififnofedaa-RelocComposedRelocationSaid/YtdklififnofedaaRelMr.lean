/-
  'gaolerlaw06.RelocMatchesReference' returns true when called, and writes nothing that was there: contract over the translated program. No conditions beyond what the kinds of its parameters say.
-/
import Derived.Test.YtdklififnofedaaRelAwake
namespace Go.Proofs.Ytdklififnofedaa
open Go.ChangeShapes Go.WideShapes Go.ChangeAt Go.RowKit Go.Sort
set_option linter.unusedVariables false

/-- a processor and, in the block behind it, a partition -/
theorem box2 (W : World) (c : List Int) (pb ps : Int) :
    Row ((W.alloc (.cells (ints .u32 c) 26)).alloc (.cells #[.int .u32 pb, .int .u32 ps] 28)) W.heap.size 26 .u32 c ∧
    Row ((W.alloc (.cells (ints .u32 c) 26)).alloc (.cells #[.int .u32 pb, .int .u32 ps] 28)) (W.heap.size + 1) 28 .u32 [pb, ps] ∧
    Dn W ((W.alloc (.cells (ints .u32 c) 26)).alloc (.cells #[.int .u32 pb, .int .u32 ps] 28)) := by
  refine ⟨(Row.new W 26 .u32 c).dn ((Dn.refl _).alloc _), ?_, ((Dn.refl W).alloc _).alloc _⟩
  have := Row.new (W.alloc (.cells (ints .u32 c) 26)) 28 .u32 [pb, ps]
  rwa [size_alloc] at this
theorem Row.p0 {w : World} {b : Nat} {t : TypeId} {x y : Int} (r : Row w b t .u32 [x, y]) : w.cell? ⟨b, 0, none⟩ = some (.int .u32 x) := r.cell 0 (by simp)
theorem Row.p1 {w : World} {b : Nat} {t : TypeId} {x y : Int} (r : Row w b t .u32 [x, y]) : w.cell? ⟨b, 1, none⟩ = some (.int .u32 y) := r.cell 1 (by simp)

set_option maxRecDepth 100000 in
set_option maxHeartbeats 1000000 in
theorem mrWalk (base : Int) (b0 : 0 ≤ base) (b1 : base < 4294967296) (bound : Int) (k0 : 0 ≤ bound) (k1 : bound < 4294967296) (many : Int) (m0 : 0 ≤ many) (m1 : many < 4294967296) (a : Int) (a0 : 0 ≤ a) (a1 : a < 4294967296) (wide : Bool) (c : List Int) (hc : M.Core c) (pb : Int) (p0 : 0 ≤ pb) (p1 : pb < 4294967296) (ps : Int) (s0 : 0 ≤ ps) (s1 : ps < 4294967296) (W : World) :
    Calls Try.prog 3 #[.int .u32 base, .int .u32 bound, .int .u32 many, .int .u32 a, .bool wide, .agg (ints .u32 c), .agg #[.int .u32 pb, .int .u32 ps]] W fun e W' => e = .returned (.bool true) ∧ Dn W W' := by
  have hl := hc.len
  have C0 := Lib.hid (size_ wide)
  obtain ⟨n, n0, n1, hne⟩ : ∃ n : Int, 1 ≤ n ∧ n ≤ 4 ∧ (if wide then 4 else 1 : Int) = n := ⟨_, by split <;> decide, by split <;> decide, rfl⟩
  rw [hne] at C0
  clear hne
  have T1 := Lib.hid fun w => translate base bound many a n w b0 b1 k0 k1 m0 m1 a0 a1 n0 n1
  have T2 := Lib.hid fun w => by_ base bound many a n w b0 b1 k0 k1 m0 m1 a0 a1 n0 n1
  have T3 := Lib.hid fun w => translateCore c many a n w hc m0 m1 a0 a1 n0 n1
  have T4 := Lib.hid fun w => at_ c many a n w hc m0 m1 a0 a1 n0 n1
  have T5 := Lib.hid fun w => fits pb ps w p0 p1 s0 s1
  have T6 := Lib.hid fun w => compose pb ps c w hc p0 p1 s0 s1
  have T7 := Lib.hid fun w => compose_ pb ps c w hc p0 p1 s0 s1
  generalize M.phys base bound many a n = x at T1 T2
  generalize M.hit base bound many a n = o at T1 T2
  generalize M.phys (M.ub c) (M.un c many) many a n = u at T3 T4
  generalize M.hit (M.ub c) (M.un c many) many a n = v at T3 T4
  generalize M.cb pb ps c = f at T6 T7
  generalize M.cn ps c = g at T6 T7
  generalize decide (pb + ps ≤ 2147483648) = t at T5
  obtain ⟨r, q, d⟩ := box2 W c pb ps
  have R := Lib.hid r
  have Qh := Lib.hid q
  have D := Lib.hid d
  clear r q d
  go_enter Try.func3, Try.ntmps3
  go_wp2_with fail
  refine (awake _).mono ?_
  rintro e w1 ⟨rfl, d1⟩
  have r := R.out.dn d1
  have Q1 := Lib.hid (Qh.out.dn d1)
  have D1 := Lib.hid (D.out.trans d1)
  clear R Qh D d1
  go_wp2_with fail
  refine (C0.out _).mono ?_
  rintro e w ⟨rfl, rfl⟩
  go_wp2_with fail
  refine (T1.out _).mono ?_
  rintro e w ⟨rfl, rfl⟩
  go_wp2_with fail
  refine (T2.out _).mono ?_
  rintro e w ⟨rfl, rfl⟩
  go_wp2_with (first | ((with_reducible refine load29 r hl ?_ ?_ ?_); rfl; rfl))
  refine (T3.out _).mono ?_
  rintro e w2 ⟨rfl, d1⟩
  have r := r.dn d1
  have Q1 := Lib.hid (Q1.out.dn d1)
  have D1 := Lib.hid (D1.out.trans d1)
  clear d1
  go_wp2_with (first | ((with_reducible refine load29 r hl ?_ ?_ ?_); rfl; rfl))
  refine (T4.out _).mono ?_
  rintro e w3 ⟨rfl, d1⟩
  have R := Lib.hid (r.dn d1)
  have Q1 := Lib.hid (Q1.out.dn d1)
  have D1 := Lib.hid (D1.out.trans d1)
  have q0 := Q1.out.p0
  have q1 := Q1.out.p1
  clear d1 r
  go_wp2_with fail
  refine (T5.out _).mono ?_
  rintro e w4 ⟨rfl, d1⟩
  have r := R.out.dn d1
  have Q1 := Lib.hid (Q1.out.dn d1)
  have D1 := Lib.hid (D1.out.trans d1)
  have q0 := Q1.out.p0
  have q1 := Q1.out.p1
  clear d1 R
  cases t
  · go_wp2
    go_ret
    exact ⟨rfl, D1.out⟩
  · go_wp2_with (first | ((with_reducible refine load29 r hl ?_ ?_ ?_); rfl; rfl))
    refine (T6.out _).mono ?_
    rintro e w5 ⟨rfl, d1⟩
    have r := r.dn d1
    have Q1 := Lib.hid (Q1.out.dn d1)
    have D1 := Lib.hid (D1.out.trans d1)
    have q0 := Q1.out.p0
    have q1 := Q1.out.p1
    clear d1
    go_wp2_with (first | ((with_reducible refine load29 r hl ?_ ?_ ?_); rfl; rfl))
    refine (T7.out _).mono ?_
    rintro e w6 ⟨rfl, d1⟩
    have D1 := Lib.hid (D1.out.trans d1)
    clear d1 r q0 q1
    go_wp2
    go_ret
    exact ⟨rfl, D1.out⟩
end Go.Proofs.Ytdklififnofedaa
