/-
  'gaolerlaw06.RelocPartitionsAreDisjoint' returns true when called, and writes nothing that was there: contract over the translated program. No conditions beyond what the kinds of its parameters say.
-/
import Derived.Test.YtdklififnofedaaRelCr
namespace Go.Proofs.Ytdklififnofedaa
open Go.ChangeShapes Go.WideShapes Go.ChangeAt Go.RowKit Go.Sort
set_option linter.unusedVariables false

/-- two partitions and two processors -/
theorem box4 (W : World) (c d : List Int) (pb ps qb qs : Int) :
    Row ((((W.alloc (.cells #[.int .u32 pb, .int .u32 ps] 28)).alloc (.cells #[.int .u32 qb, .int .u32 qs] 28)).alloc (.cells (ints .u32 c) 26)).alloc (.cells (ints .u32 d) 26)) W.heap.size 28 .u32 [pb, ps] ∧
    Row ((((W.alloc (.cells #[.int .u32 pb, .int .u32 ps] 28)).alloc (.cells #[.int .u32 qb, .int .u32 qs] 28)).alloc (.cells (ints .u32 c) 26)).alloc (.cells (ints .u32 d) 26)) (W.heap.size + 1) 28 .u32 [qb, qs] ∧
    Row ((((W.alloc (.cells #[.int .u32 pb, .int .u32 ps] 28)).alloc (.cells #[.int .u32 qb, .int .u32 qs] 28)).alloc (.cells (ints .u32 c) 26)).alloc (.cells (ints .u32 d) 26)) (W.heap.size + 1 + 1) 26 .u32 c ∧
    Row ((((W.alloc (.cells #[.int .u32 pb, .int .u32 ps] 28)).alloc (.cells #[.int .u32 qb, .int .u32 qs] 28)).alloc (.cells (ints .u32 c) 26)).alloc (.cells (ints .u32 d) 26)) (W.heap.size + 1 + 1 + 1) 26 .u32 d ∧
    Dn W ((((W.alloc (.cells #[.int .u32 pb, .int .u32 ps] 28)).alloc (.cells #[.int .u32 qb, .int .u32 qs] 28)).alloc (.cells (ints .u32 c) 26)).alloc (.cells (ints .u32 d) 26)) := by
  have h2 := Row.new (W.alloc (.cells #[.int .u32 pb, .int .u32 ps] 28)) 28 .u32 [qb, qs]
  have h3 := Row.new ((W.alloc (.cells #[.int .u32 pb, .int .u32 ps] 28)).alloc (.cells #[.int .u32 qb, .int .u32 qs] 28)) 26 .u32 c
  have h4 := Row.new (((W.alloc (.cells #[.int .u32 pb, .int .u32 ps] 28)).alloc (.cells #[.int .u32 qb, .int .u32 qs] 28)).alloc (.cells (ints .u32 c) 26)) 26 .u32 d
  simp only [size_alloc] at h2 h3 h4
  exact ⟨(((Row.new W 28 .u32 [pb, ps]).dn ((Dn.refl _).alloc _)).dn ((Dn.refl _).alloc _)).dn ((Dn.refl _).alloc _), (h2.dn ((Dn.refl _).alloc _)).dn ((Dn.refl _).alloc _), h3.dn ((Dn.refl _).alloc _), h4, ((((Dn.refl W).alloc _).alloc _).alloc _).alloc _⟩

theorem fits_is (pb ps : Int) (p0 : 0 ≤ pb) (p1 : pb < 4294967296) (s0 : 0 ≤ ps) (s1 : ps < 4294967296) (t : Bool) (h : decide (pb + ps ≤ 2147483648) = t) (w : World) :
    Calls Try.prog 14 #[.agg #[.int .u32 pb, .int .u32 ps]] w fun e W' => e = .returned (.bool t) ∧ Dn w W' := by
  subst h
  exact fits pb ps w p0 p1 s0 s1

set_option maxRecDepth 100000 in
set_option maxHeartbeats 2000000 in
theorem pdWalk (pb : Int) (p0 : 0 ≤ pb) (p1 : pb < 4294967296) (ps : Int) (s0 : 0 ≤ ps) (s1 : ps < 4294967296) (qb : Int) (q0 : 0 ≤ qb) (q1 : qb < 4294967296) (qs : Int) (t0 : 0 ≤ qs) (t1 : qs < 4294967296) (c : List Int) (hc : M.Core c) (d : List Int) (hd : M.Core d) (a : Int) (a0 : 0 ≤ a) (a1 : a < 4294967296) (b : Int) (b0 : 0 ≤ b) (b1 : b < 4294967296) (many : Int) (m0 : 0 ≤ many) (m1 : many < 4294967296) (W : World) :
    Calls Try.prog 6 #[.agg #[.int .u32 pb, .int .u32 ps], .agg #[.int .u32 qb, .int .u32 qs], .agg (ints .u32 c), .agg (ints .u32 d), .int .u32 a, .int .u32 b, .int .u32 many] W fun e W' => e = .returned (.bool true) ∧ Dn W W' := by
  obtain ⟨q, q2, r_c, r_d, dd⟩ := box4 W c d pb ps qb qs
  have Q_pp := Lib.hid q
  have Q_qq := Lib.hid q2
  have D := Lib.hid dd
  clear q q2 dd
  by_cases f1 : pb + ps ≤ 2147483648
  case neg =>
    have F1 := Lib.hid (fits_is pb ps p0 p1 s0 s1 false (decide_eq_false f1))
    go_enter Try.func6, Try.ntmps6
    go_wp2_with (first | ((with_reducible refine load29 r_c hc.len ?_ ?_ ?_); rfl; rfl) | ((with_reducible refine load29 r_d hd.len ?_ ?_ ?_); rfl; rfl))
    refine (awake _).mono ?_
    rintro e w1 ⟨rfl, d1⟩
    have r_c := r_c.dn d1
    have r_d := r_d.dn d1
    have Q_pp := Lib.hid (Q_pp.out.dn d1)
    have pp0 := Q_pp.out.p0
    have pp1 := Q_pp.out.p1
    have Q_qq := Lib.hid (Q_qq.out.dn d1)
    have qq0 := Q_qq.out.p0
    have qq1 := Q_qq.out.p1
    have D := Lib.hid (D.out.trans d1)
    clear d1
    go_wp2_with (first | ((with_reducible refine load29 r_c hc.len ?_ ?_ ?_); rfl; rfl) | ((with_reducible refine load29 r_d hd.len ?_ ?_ ?_); rfl; rfl))
    refine (F1.out _).mono ?_
    rintro e w2 ⟨rfl, d1⟩
    have r_c := r_c.dn d1
    have r_d := r_d.dn d1
    have Q_pp := Lib.hid (Q_pp.out.dn d1)
    have pp0 := Q_pp.out.p0
    have pp1 := Q_pp.out.p1
    have Q_qq := Lib.hid (Q_qq.out.dn d1)
    have qq0 := Q_qq.out.p0
    have qq1 := Q_qq.out.p1
    have D := Lib.hid (D.out.trans d1)
    clear d1
    go_wp2_with (first | ((with_reducible refine load29 r_c hc.len ?_ ?_ ?_); rfl; rfl) | ((with_reducible refine load29 r_d hd.len ?_ ?_ ?_); rfl; rfl))
    refine (awake _).mono ?_
    rintro e w9 ⟨rfl, d1⟩
    have r_c := r_c.dn d1
    have r_d := r_d.dn d1
    have Q_pp := Lib.hid (Q_pp.out.dn d1)
    have pp0 := Q_pp.out.p0
    have pp1 := Q_pp.out.p1
    have Q_qq := Lib.hid (Q_qq.out.dn d1)
    have qq0 := Q_qq.out.p0
    have qq1 := Q_qq.out.p1
    have D := Lib.hid (D.out.trans d1)
    clear d1
    go_wp2
    go_ret
    exact ⟨rfl, D.out⟩
  have F1 := Lib.hid (fits_is pb ps p0 p1 s0 s1 true (decide_eq_true f1))
  by_cases f2 : qb + qs ≤ 2147483648
  case neg =>
    have F2 := Lib.hid (fits_is qb qs q0 q1 t0 t1 false (decide_eq_false f2))
    go_enter Try.func6, Try.ntmps6
    go_wp2_with (first | ((with_reducible refine load29 r_c hc.len ?_ ?_ ?_); rfl; rfl) | ((with_reducible refine load29 r_d hd.len ?_ ?_ ?_); rfl; rfl))
    refine (awake _).mono ?_
    rintro e w1 ⟨rfl, d1⟩
    have r_c := r_c.dn d1
    have r_d := r_d.dn d1
    have Q_pp := Lib.hid (Q_pp.out.dn d1)
    have pp0 := Q_pp.out.p0
    have pp1 := Q_pp.out.p1
    have Q_qq := Lib.hid (Q_qq.out.dn d1)
    have qq0 := Q_qq.out.p0
    have qq1 := Q_qq.out.p1
    have D := Lib.hid (D.out.trans d1)
    clear d1
    go_wp2_with (first | ((with_reducible refine load29 r_c hc.len ?_ ?_ ?_); rfl; rfl) | ((with_reducible refine load29 r_d hd.len ?_ ?_ ?_); rfl; rfl))
    refine (F1.out _).mono ?_
    rintro e w2 ⟨rfl, d1⟩
    have r_c := r_c.dn d1
    have r_d := r_d.dn d1
    have Q_pp := Lib.hid (Q_pp.out.dn d1)
    have pp0 := Q_pp.out.p0
    have pp1 := Q_pp.out.p1
    have Q_qq := Lib.hid (Q_qq.out.dn d1)
    have qq0 := Q_qq.out.p0
    have qq1 := Q_qq.out.p1
    have D := Lib.hid (D.out.trans d1)
    clear d1
    go_wp2_with (first | ((with_reducible refine load29 r_c hc.len ?_ ?_ ?_); rfl; rfl) | ((with_reducible refine load29 r_d hd.len ?_ ?_ ?_); rfl; rfl))
    refine (F2.out _).mono ?_
    rintro e w3 ⟨rfl, d1⟩
    have r_c := r_c.dn d1
    have r_d := r_d.dn d1
    have Q_pp := Lib.hid (Q_pp.out.dn d1)
    have pp0 := Q_pp.out.p0
    have pp1 := Q_pp.out.p1
    have Q_qq := Lib.hid (Q_qq.out.dn d1)
    have qq0 := Q_qq.out.p0
    have qq1 := Q_qq.out.p1
    have D := Lib.hid (D.out.trans d1)
    clear d1
    go_wp2_with (first | ((with_reducible refine load29 r_c hc.len ?_ ?_ ?_); rfl; rfl) | ((with_reducible refine load29 r_d hd.len ?_ ?_ ?_); rfl; rfl))
    refine (awake _).mono ?_
    rintro e w9 ⟨rfl, d1⟩
    have r_c := r_c.dn d1
    have r_d := r_d.dn d1
    have Q_pp := Lib.hid (Q_pp.out.dn d1)
    have pp0 := Q_pp.out.p0
    have pp1 := Q_pp.out.p1
    have Q_qq := Lib.hid (Q_qq.out.dn d1)
    have qq0 := Q_qq.out.p0
    have qq1 := Q_qq.out.p1
    have D := Lib.hid (D.out.trans d1)
    clear d1
    go_wp2
    go_ret
    exact ⟨rfl, D.out⟩
  have F2 := Lib.hid (fits_is qb qs q0 q1 t0 t1 true (decide_eq_true f2))
  have w1 : IntKind.u32.wrap (pb + ps) = pb + ps := by rw [IntKind.wrap_u32]; omega
  have w2 : IntKind.u32.wrap (qb + qs) = qb + qs := by rw [IntKind.wrap_u32]; omega
  by_cases h1 : qb < pb + ps
  case pos =>
    go_enter Try.func6, Try.ntmps6
    go_wp2_with (first | ((with_reducible refine load29 r_c hc.len ?_ ?_ ?_); rfl; rfl) | ((with_reducible refine load29 r_d hd.len ?_ ?_ ?_); rfl; rfl))
    refine (awake _).mono ?_
    rintro e w1 ⟨rfl, d1⟩
    have r_c := r_c.dn d1
    have r_d := r_d.dn d1
    have Q_pp := Lib.hid (Q_pp.out.dn d1)
    have pp0 := Q_pp.out.p0
    have pp1 := Q_pp.out.p1
    have Q_qq := Lib.hid (Q_qq.out.dn d1)
    have qq0 := Q_qq.out.p0
    have qq1 := Q_qq.out.p1
    have D := Lib.hid (D.out.trans d1)
    clear d1
    go_wp2_with (first | ((with_reducible refine load29 r_c hc.len ?_ ?_ ?_); rfl; rfl) | ((with_reducible refine load29 r_d hd.len ?_ ?_ ?_); rfl; rfl))
    refine (F1.out _).mono ?_
    rintro e w2 ⟨rfl, d1⟩
    have r_c := r_c.dn d1
    have r_d := r_d.dn d1
    have Q_pp := Lib.hid (Q_pp.out.dn d1)
    have pp0 := Q_pp.out.p0
    have pp1 := Q_pp.out.p1
    have Q_qq := Lib.hid (Q_qq.out.dn d1)
    have qq0 := Q_qq.out.p0
    have qq1 := Q_qq.out.p1
    have D := Lib.hid (D.out.trans d1)
    clear d1
    go_wp2_with (first | ((with_reducible refine load29 r_c hc.len ?_ ?_ ?_); rfl; rfl) | ((with_reducible refine load29 r_d hd.len ?_ ?_ ?_); rfl; rfl))
    refine (F2.out _).mono ?_
    rintro e w3 ⟨rfl, d1⟩
    have r_c := r_c.dn d1
    have r_d := r_d.dn d1
    have Q_pp := Lib.hid (Q_pp.out.dn d1)
    have pp0 := Q_pp.out.p0
    have pp1 := Q_pp.out.p1
    have Q_qq := Lib.hid (Q_qq.out.dn d1)
    have qq0 := Q_qq.out.p0
    have qq1 := Q_qq.out.p1
    have D := Lib.hid (D.out.trans d1)
    clear d1
    go_wp2_with (first | ((with_reducible refine load29 r_c hc.len ?_ ?_ ?_); rfl; rfl) | ((with_reducible refine load29 r_d hd.len ?_ ?_ ?_); rfl; rfl))
    refine (awake _).mono ?_
    rintro e w9 ⟨rfl, d1⟩
    have r_c := r_c.dn d1
    have r_d := r_d.dn d1
    have Q_pp := Lib.hid (Q_pp.out.dn d1)
    have pp0 := Q_pp.out.p0
    have pp1 := Q_pp.out.p1
    have Q_qq := Lib.hid (Q_qq.out.dn d1)
    have qq0 := Q_qq.out.p0
    have qq1 := Q_qq.out.p1
    have D := Lib.hid (D.out.trans d1)
    clear d1
    go_wp2
    go_ret
    exact ⟨rfl, D.out⟩
  by_cases h2 : many < qb + qs
  case pos =>
    go_enter Try.func6, Try.ntmps6
    go_wp2_with (first | ((with_reducible refine load29 r_c hc.len ?_ ?_ ?_); rfl; rfl) | ((with_reducible refine load29 r_d hd.len ?_ ?_ ?_); rfl; rfl))
    refine (awake _).mono ?_
    rintro e w1 ⟨rfl, d1⟩
    have r_c := r_c.dn d1
    have r_d := r_d.dn d1
    have Q_pp := Lib.hid (Q_pp.out.dn d1)
    have pp0 := Q_pp.out.p0
    have pp1 := Q_pp.out.p1
    have Q_qq := Lib.hid (Q_qq.out.dn d1)
    have qq0 := Q_qq.out.p0
    have qq1 := Q_qq.out.p1
    have D := Lib.hid (D.out.trans d1)
    clear d1
    go_wp2_with (first | ((with_reducible refine load29 r_c hc.len ?_ ?_ ?_); rfl; rfl) | ((with_reducible refine load29 r_d hd.len ?_ ?_ ?_); rfl; rfl))
    refine (F1.out _).mono ?_
    rintro e w2 ⟨rfl, d1⟩
    have r_c := r_c.dn d1
    have r_d := r_d.dn d1
    have Q_pp := Lib.hid (Q_pp.out.dn d1)
    have pp0 := Q_pp.out.p0
    have pp1 := Q_pp.out.p1
    have Q_qq := Lib.hid (Q_qq.out.dn d1)
    have qq0 := Q_qq.out.p0
    have qq1 := Q_qq.out.p1
    have D := Lib.hid (D.out.trans d1)
    clear d1
    go_wp2_with (first | ((with_reducible refine load29 r_c hc.len ?_ ?_ ?_); rfl; rfl) | ((with_reducible refine load29 r_d hd.len ?_ ?_ ?_); rfl; rfl))
    refine (F2.out _).mono ?_
    rintro e w3 ⟨rfl, d1⟩
    have r_c := r_c.dn d1
    have r_d := r_d.dn d1
    have Q_pp := Lib.hid (Q_pp.out.dn d1)
    have pp0 := Q_pp.out.p0
    have pp1 := Q_pp.out.p1
    have Q_qq := Lib.hid (Q_qq.out.dn d1)
    have qq0 := Q_qq.out.p0
    have qq1 := Q_qq.out.p1
    have D := Lib.hid (D.out.trans d1)
    clear d1
    go_wp2_with (first | ((with_reducible refine load29 r_c hc.len ?_ ?_ ?_); rfl; rfl) | ((with_reducible refine load29 r_d hd.len ?_ ?_ ?_); rfl; rfl))
    refine (awake _).mono ?_
    rintro e w9 ⟨rfl, d1⟩
    have r_c := r_c.dn d1
    have r_d := r_d.dn d1
    have Q_pp := Lib.hid (Q_pp.out.dn d1)
    have pp0 := Q_pp.out.p0
    have pp1 := Q_pp.out.p1
    have Q_qq := Lib.hid (Q_qq.out.dn d1)
    have qq0 := Q_qq.out.p0
    have qq1 := Q_qq.out.p1
    have D := Lib.hid (D.out.trans d1)
    clear d1
    go_wp2
    go_ret
    exact ⟨rfl, D.out⟩
  have cr := M.cb_rng (ps := ps) hc p0 p1
  have nr := M.cn_rng hc s0 s1
  have dr := M.cb_rng (ps := qs) hd q0 q1
  have er := M.cn_rng hd t0 t1
  have ur := M.ub_rng hc
  have vr := M.ub_rng hd
  have xr := M.phys_rng (base := M.ub c) (bound := M.un c ps) (size := ps) (a := a) (n := 1) ur.1 a0 (by decide) s1
  have T6 := Lib.hid fun w => compose pb ps c w hc p0 p1 s0 s1
  have T7 := Lib.hid fun w => compose qb qs d w hd q0 q1 t0 t1
  have T1 := Lib.hid fun w => translate (M.cb pb ps c) (M.cn ps c) many a 1 w cr.1 cr.2 nr.1 nr.2 m0 m1 a0 a1 (by decide) (by decide)
  have T2 := Lib.hid fun w => translate (M.cb qb qs d) (M.cn qs d) many b 1 w dr.1 dr.2 er.1 er.2 m0 m1 b0 b1 (by decide) (by decide)
  have T3 := Lib.hid fun w => translateCore c ps a 1 w hc s0 s1 a0 a1 (by decide) (by decide)
  have T4 := Lib.hid fun w => translate pb ps many (M.phys (M.ub c) (M.un c ps) ps a 1) 1 w p0 p1 s0 s1 m0 m1 xr.1 xr.2 (by decide) (by decide)
  obtain ⟨k1, k2⟩ := M.composed (size := many) (a := a) (n := 1) hc p0 s0 f1 (by omega) a0 (by decide)
  obtain ⟨k3, k4⟩ := M.composed (size := many) (a := b) (n := 1) hd q0 t0 f2 (by omega) b0 (by decide)
  have X2 : Hid (M.hit (M.ub c) (M.un c ps) ps a 1 = true → M.phys (M.cb pb ps c) (M.cn ps c) many a 1 < pb + ps ∧ M.hit pb ps many (M.phys (M.ub c) (M.un c ps) ps a 1) 1 = true ∧ M.phys pb ps many (M.phys (M.ub c) (M.un c ps) ps a 1) 1 = M.phys (M.cb pb ps c) (M.cn ps c) many a 1) := Lib.hid fun h => by
    obtain ⟨e1, e2⟩ := k2 h
    have e3 : M.hit pb ps many (M.phys (M.ub c) (M.un c ps) ps a 1) 1 = true := by rw [M.hit_iff, M.phys_hit h]; omega
    rw [M.phys_hit (by rw [k1, h]), M.phys_hit e3, M.phys_hit h, e1]
    refine ⟨by omega, ?_, by omega⟩
    rwa [M.phys_hit h] at e3
  have X3 : Hid (M.hit (M.ub d) (M.un d qs) qs b 1 = true → qb ≤ M.phys (M.cb qb qs d) (M.cn qs d) many b 1) := Lib.hid fun h => by
    obtain ⟨e1, e2⟩ := k4 h
    rw [M.phys_hit (by rw [k3, h]), e1]
    omega
  rw [k1] at T1
  rw [k3] at T2
  clear k1 k2 k3 k4 cr nr dr er ur vr
  generalize M.cb pb ps c = f at *
  generalize M.cn ps c = g at *
  generalize M.cb qb qs d = f' at *
  generalize M.cn qs d = g' at *
  generalize M.phys f g many a 1 = x at *
  generalize M.phys f' g' many b 1 = y at *
  generalize M.hit (M.ub c) (M.un c ps) ps a 1 = o1 at *
  generalize M.hit (M.ub d) (M.un d qs) qs b 1 = o2 at *
  generalize M.phys (M.ub c) (M.un c ps) ps a 1 = u at *
  generalize M.phys pb ps many u 1 = v at *
  generalize M.hit pb ps many u 1 = o3 at *
  go_enter Try.func6, Try.ntmps6
  go_wp2_with (first | ((with_reducible refine load29 r_c hc.len ?_ ?_ ?_); rfl; rfl) | ((with_reducible refine load29 r_d hd.len ?_ ?_ ?_); rfl; rfl))
  refine (awake _).mono ?_
  rintro e w1 ⟨rfl, d1⟩
  have r_c := r_c.dn d1
  have r_d := r_d.dn d1
  have Q_pp := Lib.hid (Q_pp.out.dn d1)
  have pp0 := Q_pp.out.p0
  have pp1 := Q_pp.out.p1
  have Q_qq := Lib.hid (Q_qq.out.dn d1)
  have qq0 := Q_qq.out.p0
  have qq1 := Q_qq.out.p1
  have D := Lib.hid (D.out.trans d1)
  clear d1
  go_wp2_with (first | ((with_reducible refine load29 r_c hc.len ?_ ?_ ?_); rfl; rfl) | ((with_reducible refine load29 r_d hd.len ?_ ?_ ?_); rfl; rfl))
  refine (F1.out _).mono ?_
  rintro e w2 ⟨rfl, d1⟩
  have r_c := r_c.dn d1
  have r_d := r_d.dn d1
  have Q_pp := Lib.hid (Q_pp.out.dn d1)
  have pp0 := Q_pp.out.p0
  have pp1 := Q_pp.out.p1
  have Q_qq := Lib.hid (Q_qq.out.dn d1)
  have qq0 := Q_qq.out.p0
  have qq1 := Q_qq.out.p1
  have D := Lib.hid (D.out.trans d1)
  clear d1
  go_wp2_with (first | ((with_reducible refine load29 r_c hc.len ?_ ?_ ?_); rfl; rfl) | ((with_reducible refine load29 r_d hd.len ?_ ?_ ?_); rfl; rfl))
  refine (F2.out _).mono ?_
  rintro e w3 ⟨rfl, d1⟩
  have r_c := r_c.dn d1
  have r_d := r_d.dn d1
  have Q_pp := Lib.hid (Q_pp.out.dn d1)
  have pp0 := Q_pp.out.p0
  have pp1 := Q_pp.out.p1
  have Q_qq := Lib.hid (Q_qq.out.dn d1)
  have qq0 := Q_qq.out.p0
  have qq1 := Q_qq.out.p1
  have D := Lib.hid (D.out.trans d1)
  clear d1
  go_wp2_with (first | ((with_reducible refine load29 r_c hc.len ?_ ?_ ?_); rfl; rfl) | ((with_reducible refine load29 r_d hd.len ?_ ?_ ?_); rfl; rfl))
  refine (T6.out _).mono ?_
  rintro e w4 ⟨rfl, d1⟩
  have r_c := r_c.dn d1
  have r_d := r_d.dn d1
  have Q_pp := Lib.hid (Q_pp.out.dn d1)
  have pp0 := Q_pp.out.p0
  have pp1 := Q_pp.out.p1
  have Q_qq := Lib.hid (Q_qq.out.dn d1)
  have qq0 := Q_qq.out.p0
  have qq1 := Q_qq.out.p1
  have D := Lib.hid (D.out.trans d1)
  clear d1
  go_wp2_with (first | ((with_reducible refine load29 r_c hc.len ?_ ?_ ?_); rfl; rfl) | ((with_reducible refine load29 r_d hd.len ?_ ?_ ?_); rfl; rfl))
  refine (T7.out _).mono ?_
  rintro e w5 ⟨rfl, d1⟩
  have r_c := r_c.dn d1
  have r_d := r_d.dn d1
  have Q_pp := Lib.hid (Q_pp.out.dn d1)
  have pp0 := Q_pp.out.p0
  have pp1 := Q_pp.out.p1
  have Q_qq := Lib.hid (Q_qq.out.dn d1)
  have qq0 := Q_qq.out.p0
  have qq1 := Q_qq.out.p1
  have D := Lib.hid (D.out.trans d1)
  clear d1
  go_wp2_with (first | ((with_reducible refine load29 r_c hc.len ?_ ?_ ?_); rfl; rfl) | ((with_reducible refine load29 r_d hd.len ?_ ?_ ?_); rfl; rfl))
  refine (T1.out _).mono ?_
  rintro e w ⟨rfl, rfl⟩
  go_wp2_with (first | ((with_reducible refine load29 r_c hc.len ?_ ?_ ?_); rfl; rfl) | ((with_reducible refine load29 r_d hd.len ?_ ?_ ?_); rfl; rfl))
  refine (T2.out _).mono ?_
  rintro e w ⟨rfl, rfl⟩
  go_wp2_with (first | ((with_reducible refine load29 r_c hc.len ?_ ?_ ?_); rfl; rfl) | ((with_reducible refine load29 r_d hd.len ?_ ?_ ?_); rfl; rfl))
  refine (T3.out _).mono ?_
  rintro e w6 ⟨rfl, d1⟩
  have r_c := r_c.dn d1
  have r_d := r_d.dn d1
  have Q_pp := Lib.hid (Q_pp.out.dn d1)
  have pp0 := Q_pp.out.p0
  have pp1 := Q_pp.out.p1
  have Q_qq := Lib.hid (Q_qq.out.dn d1)
  have qq0 := Q_qq.out.p0
  have qq1 := Q_qq.out.p1
  have D := Lib.hid (D.out.trans d1)
  clear d1
  go_wp2_with (first | ((with_reducible refine load29 r_c hc.len ?_ ?_ ?_); rfl; rfl) | ((with_reducible refine load29 r_d hd.len ?_ ?_ ?_); rfl; rfl))
  refine (T4.out _).mono ?_
  rintro e w ⟨rfl, rfl⟩
  cases o1
  · clear X2 X3
    go_wp2
    go_ret
    exact ⟨rfl, D.out⟩
  · obtain ⟨h3, rfl, rfl⟩ := X2.out rfl
    cases o2
    · clear X2 X3
      go_wp2
      go_ret
      exact ⟨rfl, D.out⟩
    · have h4 := X3.out rfl
      have h5 : v < y := by omega
      clear X2 X3 h3 h4
      go_wp2
      go_ret
      exact ⟨rfl, D.out⟩
end Go.Proofs.Ytdklififnofedaa
