/-
  'gaolerlaw06.RelocationDependencies' returns true when called, and writes nothing that was there: contract over the translated program. No conditions beyond what the kinds of its parameters say.
-/
import Derived.Test.YtdklififnofedaaRelPd
namespace Go.Proofs.Ytdklififnofedaa
open Go.ChangeShapes Go.WideShapes Go.ChangeAt Go.RowKit Go.Sort
set_option linter.unusedVariables false

/-- a partition and two processors -/
theorem box3 (W : World) (c o : List Int) (pb ps : Int) :
    Row (((W.alloc (.cells #[.int .u32 pb, .int .u32 ps] 28)).alloc (.cells (ints .u32 c) 26)).alloc (.cells (ints .u32 o) 26)) W.heap.size 28 .u32 [pb, ps] ∧
    Row (((W.alloc (.cells #[.int .u32 pb, .int .u32 ps] 28)).alloc (.cells (ints .u32 c) 26)).alloc (.cells (ints .u32 o) 26)) (W.heap.size + 1) 26 .u32 c ∧
    Row (((W.alloc (.cells #[.int .u32 pb, .int .u32 ps] 28)).alloc (.cells (ints .u32 c) 26)).alloc (.cells (ints .u32 o) 26)) (W.heap.size + 1 + 1) 26 .u32 o ∧
    Dn W (((W.alloc (.cells #[.int .u32 pb, .int .u32 ps] 28)).alloc (.cells (ints .u32 c) 26)).alloc (.cells (ints .u32 o) 26)) := by
  have h2 := Row.new (W.alloc (.cells #[.int .u32 pb, .int .u32 ps] 28)) 26 .u32 c
  have h3 := Row.new ((W.alloc (.cells #[.int .u32 pb, .int .u32 ps] 28)).alloc (.cells (ints .u32 c) 26)) 26 .u32 o
  simp only [size_alloc] at h2 h3
  exact ⟨((Row.new W 28 .u32 [pb, ps]).dn ((Dn.refl _).alloc _)).dn ((Dn.refl _).alloc _), h2.dn ((Dn.refl _).alloc _), h3, (((Dn.refl W).alloc _).alloc _).alloc _⟩

/-- what the relocation of a processor hangs on -/
theorem same_use {c d : List Int} (h0 : M.csr d 0 = M.csr c 0) (h5 : M.sup c = false → M.csr d 5 = M.csr c 5) (h6 : M.sup c = false → M.csr d 6 = M.csr c 6) : M.ub d = M.ub c ∧ (∀ s, M.un d s = M.un c s) ∧ (∀ s, M.cn s d = M.cn s c) ∧ ∀ b s, M.cb b s d = M.cb b s c := by
  have hs : M.sup d = M.sup c := by unfold M.sup; rw [h0]
  cases h : M.sup c
  · simp only [M.ub, M.un, M.cb, M.cn, hs, h, h5 h, h6 h]
    simp
  · simp only [M.ub, M.un, M.cb, M.cn, hs, h]
    simp

set_option maxRecDepth 100000 in
set_option maxHeartbeats 1000000 in
theorem dp_no (pb : Int) (p0 : 0 ≤ pb) (p1 : pb < 4294967296) (ps : Int) (s0 : 0 ≤ ps) (s1 : ps < 4294967296) (c : List Int) (hc : M.Core c) (o : List Int) (ho : M.Core o) (many : Int) (m0 : 0 ≤ many) (m1 : many < 4294967296) (a : Int) (a0 : 0 ≤ a) (a1 : a < 4294967296) (far : Int) (f0 : 0 ≤ far) (f1 : far < 65536) (W : World) (hf : ¬ pb + ps ≤ 2147483648) :
    Calls Try.prog 7 #[.agg #[.int .u32 pb, .int .u32 ps], .agg (ints .u32 c), .agg (ints .u32 o), .int .u32 many, .int .u32 a, .int .u16 far] W fun e W' => e = .returned (.bool true) ∧ Dn W W' := by
  obtain ⟨q, r_c, r_o, dd⟩ := box3 W c o pb ps
  have Q_pp := Lib.hid q
  have D := Lib.hid dd
  clear q dd
  have F1 := Lib.hid (fits_is pb ps p0 p1 s0 s1 false (decide_eq_false hf))
  go_enter Try.func7, Try.ntmps7
  go_wp2_with (first | ((with_reducible refine load29 r_c hc.len ?_ ?_ ?_); rfl; rfl) | ((with_reducible refine load29 r_o ho.len ?_ ?_ ?_); rfl; rfl))
  refine (awake _).mono ?_
  rintro e w1 ⟨rfl, d1⟩
  have r_c := r_c.dn d1
  have r_o := r_o.dn d1
  have Q_pp := Lib.hid (Q_pp.out.dn d1)
  have pp0 := Q_pp.out.p0
  have pp1 := Q_pp.out.p1
  have D := Lib.hid (D.out.trans d1)
  clear d1
  go_wp2_with (first | ((with_reducible refine load29 r_c hc.len ?_ ?_ ?_); rfl; rfl) | ((with_reducible refine load29 r_o ho.len ?_ ?_ ?_); rfl; rfl))
  refine (F1.out _).mono ?_
  rintro e w2 ⟨rfl, d1⟩
  have r_c := r_c.dn d1
  have r_o := r_o.dn d1
  have Q_pp := Lib.hid (Q_pp.out.dn d1)
  have pp0 := Q_pp.out.p0
  have pp1 := Q_pp.out.p1
  have D := Lib.hid (D.out.trans d1)
  clear d1
  go_wp2_with (first | ((with_reducible refine load29 r_c hc.len ?_ ?_ ?_); rfl; rfl) | ((with_reducible refine load29 r_o ho.len ?_ ?_ ?_); rfl; rfl))
  refine (awake _).mono ?_
  rintro e w3 ⟨rfl, d1⟩
  have r_c := r_c.dn d1
  have r_o := r_o.dn d1
  have Q_pp := Lib.hid (Q_pp.out.dn d1)
  have pp0 := Q_pp.out.p0
  have pp1 := Q_pp.out.p1
  have D := Lib.hid (D.out.trans d1)
  clear d1
  go_wp2
  go_ret
  exact ⟨rfl, D.out⟩

set_option maxRecDepth 100000 in
set_option maxHeartbeats 2000000 in
theorem dp_sup (pb : Int) (p0 : 0 ≤ pb) (p1 : pb < 4294967296) (ps : Int) (s0 : 0 ≤ ps) (s1 : ps < 4294967296) (c : List Int) (hc : M.Core c) (o : List Int) (ho : M.Core o) (many : Int) (m0 : 0 ≤ many) (m1 : many < 4294967296) (a : Int) (a0 : 0 ≤ a) (a1 : a < 4294967296) (far : Int) (f0 : 0 ≤ far) (f1 : far < 65536) (W : World) (hf : pb + ps ≤ 2147483648) (hs : M.sup c = true) :
    Calls Try.prog 7 #[.agg #[.int .u32 pb, .int .u32 ps], .agg (ints .u32 c), .agg (ints .u32 o), .int .u32 many, .int .u32 a, .int .u16 far] W fun e W' => e = .returned (.bool true) ∧ Dn W W' := by
  obtain ⟨q, r_c, r_o, dd⟩ := box3 W c o pb ps
  have Q_pp := Lib.hid q
  have D := Lib.hid dd
  clear q dd
  have F1 := Lib.hid (fits_is pb ps p0 p1 s0 s1 true (decide_eq_true hf))
  go_enter Try.func7, Try.ntmps7
  go_wp2_with (first | ((with_reducible refine load29 r_c hc.len ?_ ?_ ?_); rfl; rfl) | ((with_reducible refine load29 r_o ho.len ?_ ?_ ?_); rfl; rfl))
  refine (awake _).mono ?_
  rintro e w1 ⟨rfl, d1⟩
  have r_c := r_c.dn d1
  have r_o := r_o.dn d1
  have Q_pp := Lib.hid (Q_pp.out.dn d1)
  have pp0 := Q_pp.out.p0
  have pp1 := Q_pp.out.p1
  have D := Lib.hid (D.out.trans d1)
  clear d1
  go_wp2_with (first | ((with_reducible refine load29 r_c hc.len ?_ ?_ ?_); rfl; rfl) | ((with_reducible refine load29 r_o ho.len ?_ ?_ ?_); rfl; rfl))
  refine (F1.out _).mono ?_
  rintro e w2 ⟨rfl, d1⟩
  have r_c := r_c.dn d1
  have r_o := r_o.dn d1
  have Q_pp := Lib.hid (Q_pp.out.dn d1)
  have pp0 := Q_pp.out.p0
  have pp1 := Q_pp.out.p1
  have D := Lib.hid (D.out.trans d1)
  clear d1
  have x0 := hc.csr 0
  have o1 := ho.set 17 _ x0.1 x0.2
  have e1 : (ints .u32 o).setIfInBounds 17 (.int .u32 (M.csr c 0)) = ints .u32 (o.set 17 (M.csr c 0)) := ints_set _ _ _ _
  have g1 : (ints .u32 o)[17]? = some (.int .u32 (M.csr o 0)) := ints_get _ _ _ (by have := ho.len; omega)
  have k1 : w2.cell? ⟨W.heap.size + 1, 17, none⟩ = some (.int .u32 (M.csr c 0)) := r_c.csr hc 0 (by decide)
  have l1 := r_c.lt
  have R_c := Lib.hid r_c
  have R_d := Lib.hid (Row.new w2 26 .u32 (o.set 17 (M.csr c 0)))
  have r_c2 := r_c.dn ((Dn.refl _).alloc (.cells (ints .u32 (o.set 17 (M.csr c 0))) 26))
  go_wp2_with (first | ((with_reducible refine alloc29 (b := w2.heap.size) rfl ?_ ?_); rfl) | ((with_reducible refine load29 r_o ho.len ?_ ?_ ?_); rfl; rfl) | ((with_reducible refine load29 r_c2 hc.len ?_ ?_ ?_); rfl; rfl) | ((with_reducible refine store29 (b := w2.heap.size) o ho.len zsize ?_ ?_ ?_ rfl ?_); rfl; rfl; rfl))
  refine (super_ c _ hc).mono ?_
  rintro e w3 ⟨rfl, d1⟩
  rw [hs]
  have D2 := Lib.hid (((Dn.refl w2).alloc (.cells (ints .u32 (o.set 17 (M.csr c 0))) 26)).trans d1)
  have R_d := Lib.hid (R_d.out.dn d1)
  clear d1 r_c r_o r_c2 e1 g1 k1
  have r_c := R_c.out.dn D2.out
  have r_d := R_d.out
  have Q_pp := Lib.hid (Q_pp.out.dn D2.out)
  have pp0 := Q_pp.out.p0
  have pp1 := Q_pp.out.p1
  have D := Lib.hid (D.out.trans D2.out)
  obtain ⟨u1, u2, u3, u4⟩ : _ ∧ _ ∧ _ ∧ _ := same_use (c := c) (d := o.set 17 (M.csr c 0))
    (by rw [M.csr_set ho 0 0 _ (by decide)]; rfl) (fun h => by rw [hs] at h; cases h) (fun h => by rw [hs] at h; cases h)
  have T1 := Lib.hid fun w => translateCore c many a 4 w hc m0 m1 a0 a1 (by decide) (by decide)
  have T2 := Lib.hid fun w => translateCore (o.set 17 (M.csr c 0)) many a 4 w o1 m0 m1 a0 a1 (by decide) (by decide)
  have T3 := Lib.hid fun w => compose pb ps c w hc p0 p1 s0 s1
  have T4 := Lib.hid fun w => compose pb ps (o.set 17 (M.csr c 0)) w o1 p0 p1 s0 s1
  rw [u1, u2] at T2
  rw [u3, u4] at T4
  have T5 := Lib.hid fun w => compose (pb + far) ps c w hc (by omega) (by omega) s0 s1
  have T6 := Lib.hid fun w => super_ c w hc
  rw [hs] at T6
  have F2 := Lib.hid fun w => fits (pb + far) ps w (by omega) (by omega) s0 s1
  have hw : IntKind.u32.wrap (pb + far) = pb + far := by rw [IntKind.wrap_u32]; omega
  generalize decide (pb + far + ps ≤ 2147483648) = t at F2
  obtain ⟨d, hd⟩ : ∃ d, o.set 17 (M.csr c 0) = d := ⟨_, rfl⟩
  rw [hd] at r_d T2 T4 o1
  clear hd u1 u2 u3 u4
  generalize M.phys (M.ub c) (M.un c many) many a 4 = x at T1 T2
  generalize M.hit (M.ub c) (M.un c many) many a 4 = v at T1 T2
  clear R_c R_d D2
  go_wp2_with (first | ((with_reducible refine load29 r_c hc.len ?_ ?_ ?_); rfl; rfl) | ((with_reducible refine load29 r_d o1.len ?_ ?_ ?_); rfl; rfl))
  refine (T1.out _).mono ?_
  rintro e w4 ⟨rfl, d1⟩
  have r_c := r_c.dn d1
  have r_d := r_d.dn d1
  have Q_pp := Lib.hid (Q_pp.out.dn d1)
  have pp0 := Q_pp.out.p0
  have pp1 := Q_pp.out.p1
  have D := Lib.hid (D.out.trans d1)
  clear d1
  go_wp2_with (first | ((with_reducible refine load29 r_c hc.len ?_ ?_ ?_); rfl; rfl) | ((with_reducible refine load29 r_d o1.len ?_ ?_ ?_); rfl; rfl))
  refine (T2.out _).mono ?_
  rintro e w5 ⟨rfl, d1⟩
  have r_c := r_c.dn d1
  have r_d := r_d.dn d1
  have Q_pp := Lib.hid (Q_pp.out.dn d1)
  have pp0 := Q_pp.out.p0
  have pp1 := Q_pp.out.p1
  have D := Lib.hid (D.out.trans d1)
  clear d1
  go_wp2_with (first | ((with_reducible refine load29 r_c hc.len ?_ ?_ ?_); rfl; rfl) | ((with_reducible refine load29 r_d o1.len ?_ ?_ ?_); rfl; rfl))
  refine (T3.out _).mono ?_
  rintro e w6 ⟨rfl, d1⟩
  have r_c := r_c.dn d1
  have r_d := r_d.dn d1
  have Q_pp := Lib.hid (Q_pp.out.dn d1)
  have pp0 := Q_pp.out.p0
  have pp1 := Q_pp.out.p1
  have D := Lib.hid (D.out.trans d1)
  clear d1
  go_wp2_with (first | ((with_reducible refine load29 r_c hc.len ?_ ?_ ?_); rfl; rfl) | ((with_reducible refine load29 r_d o1.len ?_ ?_ ?_); rfl; rfl))
  refine (T4.out _).mono ?_
  rintro e w7 ⟨rfl, d1⟩
  have r_c := r_c.dn d1
  have r_d := r_d.dn d1
  have Q_pp := Lib.hid (Q_pp.out.dn d1)
  have pp0 := Q_pp.out.p0
  have pp1 := Q_pp.out.p1
  have D := Lib.hid (D.out.trans d1)
  clear d1
  have l0 := Q_pp.out.lt
  have Q_mv := Lib.hid (Row.new w7 28 .u32 [pb + far, ps])
  have dd := (Dn.refl w7).alloc (.cells #[.int .u32 (pb + far), .int .u32 ps] 28)
  go_wp2_with (first | ((with_reducible refine load29 r_c hc.len ?_ ?_ ?_); rfl; rfl) | ((with_reducible refine load29 r_d o1.len ?_ ?_ ?_); rfl; rfl))
  have r_c := r_c.dn dd
  have D := Lib.hid (D.out.trans dd)
  clear dd pp0 pp1 r_d
  refine (F2.out _).mono ?_
  rintro e w8 ⟨rfl, d1⟩
  have r_c := r_c.dn d1
  have Q_mv := Lib.hid (Q_mv.out.dn d1)
  have mv0 := Q_mv.out.p0
  have mv1 := Q_mv.out.p1
  have D := Lib.hid (D.out.trans d1)
  clear d1
  cases t
  · go_wp2
    go_ret
    exact ⟨rfl, D.out⟩
  have e1 : M.cb (pb + far) ps c = pb + far := by unfold M.cb; rw [hs]; rfl
  have e2 : M.cb pb ps c = pb := by unfold M.cb; rw [hs]; rfl
  rw [e1] at T5
  rw [e2]
  clear e1 e2
  generalize M.cn ps c = n at *
  go_wp2_with (first | ((with_reducible refine load29 r_c hc.len ?_ ?_ ?_); rfl; rfl))
  refine (T5.out _).mono ?_
  rintro e w9 ⟨rfl, d1⟩
  have r_c := r_c.dn d1
  have Q_mv := Lib.hid (Q_mv.out.dn d1)
  have mv0 := Q_mv.out.p0
  have mv1 := Q_mv.out.p1
  have D := Lib.hid (D.out.trans d1)
  clear d1
  by_cases hn : n = 0
  · have hn2 : (n == 0) = true := by simpa using hn
    go_wp2_with (first | ((with_reducible refine load29 r_c hc.len ?_ ?_ ?_); rfl; rfl))
    refine (T6.out _).mono ?_
    rintro e w10 ⟨rfl, d1⟩
    have D := Lib.hid (D.out.trans d1)
    clear d1 r_c
    go_wp2
    go_ret
    exact ⟨rfl, D.out⟩
  · have hn2 : (n == 0) = false := by simpa using hn
    go_wp2
    go_ret
    exact ⟨rfl, D.out⟩

set_option maxRecDepth 100000 in
set_option maxHeartbeats 2000000 in
theorem dp_user (pb : Int) (p0 : 0 ≤ pb) (p1 : pb < 4294967296) (ps : Int) (s0 : 0 ≤ ps) (s1 : ps < 4294967296) (c : List Int) (hc : M.Core c) (o : List Int) (ho : M.Core o) (many : Int) (m0 : 0 ≤ many) (m1 : many < 4294967296) (a : Int) (a0 : 0 ≤ a) (a1 : a < 4294967296) (far : Int) (f0 : 0 ≤ far) (f1 : far < 65536) (W : World) (hf : pb + ps ≤ 2147483648) (hs : M.sup c = false) :
    Calls Try.prog 7 #[.agg #[.int .u32 pb, .int .u32 ps], .agg (ints .u32 c), .agg (ints .u32 o), .int .u32 many, .int .u32 a, .int .u16 far] W fun e W' => e = .returned (.bool true) ∧ Dn W W' := by
  obtain ⟨q, r_c, r_o, dd⟩ := box3 W c o pb ps
  have Q_pp := Lib.hid q
  have D := Lib.hid dd
  clear q dd
  have F1 := Lib.hid (fits_is pb ps p0 p1 s0 s1 true (decide_eq_true hf))
  go_enter Try.func7, Try.ntmps7
  go_wp2_with (first | ((with_reducible refine load29 r_c hc.len ?_ ?_ ?_); rfl; rfl) | ((with_reducible refine load29 r_o ho.len ?_ ?_ ?_); rfl; rfl))
  refine (awake _).mono ?_
  rintro e w1 ⟨rfl, d1⟩
  have r_c := r_c.dn d1
  have r_o := r_o.dn d1
  have Q_pp := Lib.hid (Q_pp.out.dn d1)
  have pp0 := Q_pp.out.p0
  have pp1 := Q_pp.out.p1
  have D := Lib.hid (D.out.trans d1)
  clear d1
  go_wp2_with (first | ((with_reducible refine load29 r_c hc.len ?_ ?_ ?_); rfl; rfl) | ((with_reducible refine load29 r_o ho.len ?_ ?_ ?_); rfl; rfl))
  refine (F1.out _).mono ?_
  rintro e w2 ⟨rfl, d1⟩
  have r_c := r_c.dn d1
  have r_o := r_o.dn d1
  have Q_pp := Lib.hid (Q_pp.out.dn d1)
  have pp0 := Q_pp.out.p0
  have pp1 := Q_pp.out.p1
  have D := Lib.hid (D.out.trans d1)
  clear d1
  have x0 := hc.csr 0
  have o1 := ho.set 17 _ x0.1 x0.2
  have e1 : (ints .u32 o).setIfInBounds 17 (.int .u32 (M.csr c 0)) = ints .u32 (o.set 17 (M.csr c 0)) := ints_set _ _ _ _
  have g1 : (ints .u32 o)[17]? = some (.int .u32 (M.csr o 0)) := ints_get _ _ _ (by have := ho.len; omega)
  have k1 : w2.cell? ⟨W.heap.size + 1, 17, none⟩ = some (.int .u32 (M.csr c 0)) := r_c.csr hc 0 (by decide)
  have l1 := r_c.lt
  have R_c := Lib.hid r_c
  have R_d := Lib.hid (Row.new w2 26 .u32 (o.set 17 (M.csr c 0)))
  have r_c2 := r_c.dn ((Dn.refl _).alloc (.cells (ints .u32 (o.set 17 (M.csr c 0))) 26))
  go_wp2_with (first | ((with_reducible refine alloc29 (b := w2.heap.size) rfl ?_ ?_); rfl) | ((with_reducible refine load29 r_o ho.len ?_ ?_ ?_); rfl; rfl) | ((with_reducible refine load29 r_c2 hc.len ?_ ?_ ?_); rfl; rfl) | ((with_reducible refine store29 (b := w2.heap.size) o ho.len zsize ?_ ?_ ?_ rfl ?_); rfl; rfl; rfl))
  refine (super_ c _ hc).mono ?_
  rintro e w3 ⟨rfl, d1⟩
  rw [hs]
  have D2 := Lib.hid (((Dn.refl w2).alloc (.cells (ints .u32 (o.set 17 (M.csr c 0))) 26)).trans d1)
  have R_d := Lib.hid (R_d.out.dn d1)
  have x5 := hc.csr 5
  have x6 := hc.csr 6
  have o2 := o1.set 22 _ x5.1 x5.2
  have o3 := o2.set 23 _ x6.1 x6.2
  have R_d2 := Lib.hid ((R_d.out.put 22 (M.csr c 5)).put 23 (M.csr c 6))
  have c5 : w3.cell? ⟨W.heap.size + 1, 22, none⟩ = some (.int .u32 (M.csr c 5)) := (R_c.out.dn D2.out).csr hc 5 (by decide)
  have c6 : w3.cell? ⟨W.heap.size + 1, 23, none⟩ = some (.int .u32 (M.csr c 6)) := (R_c.out.dn D2.out).csr hc 6 (by decide)
  have c6b : (w3.setCell ⟨w2.heap.size, 22, none⟩ (.int .u32 (M.csr c 5))).cell? ⟨W.heap.size + 1, 23, none⟩ = some (.int .u32 (M.csr c 6)) := (R_c.out.dn (D2.out.setCell (Nat.le_refl _) _)).csr hc 6 (by decide)
  have g5 : w3.cell? ⟨w2.heap.size, 22, none⟩ = some (.int .u32 (M.csr (o.set 17 (M.csr c 0)) 5)) := R_d.out.csr o1 5 (by decide)
  have g6 : w3.cell? ⟨w2.heap.size, 23, none⟩ = some (.int .u32 (M.csr (o.set 17 (M.csr c 0)) 6)) := R_d.out.csr o1 6 (by decide)
  have g6b : (w3.setCell ⟨w2.heap.size, 22, none⟩ (.int .u32 (M.csr c 5))).cell? ⟨w2.heap.size, 23, none⟩ = some (.int .u32 (M.csr ((o.set 17 (M.csr c 0)).set 22 (M.csr c 5)) 6)) := (R_d.out.put 22 (M.csr c 5)).csr o2 6 (by decide)
  have fr5 : w3.frozen? ⟨w2.heap.size, 22, none⟩ = false := R_d.out.fr 22
  have fr6 : w3.frozen? ⟨w2.heap.size, 23, none⟩ = false := R_d.out.fr 23
  have fr6b : (w3.setCell ⟨w2.heap.size, 22, none⟩ (.int .u32 (M.csr c 5))).frozen? ⟨w2.heap.size, 23, none⟩ = false := (R_d.out.put 22 (M.csr c 5)).fr 23
  have hne : W.heap.size + 1 ≠ w2.heap.size := Nat.ne_of_lt l1
  have D2 := Lib.hid ((D2.out.setCell (p := ⟨w2.heap.size, 22, none⟩) (Nat.le_refl _) (.int .u32 (M.csr c 5))).setCell (p := ⟨w2.heap.size, 23, none⟩) (Nat.le_refl _) (.int .u32 (M.csr c 6)))
  clear d1 r_c r_o r_c2 e1 g1 k1
  have r_c := R_c.out.dn D2.out
  have r_d := R_d2.out
  have Q_pp := Lib.hid (Q_pp.out.dn D2.out)
  have pp0 := Q_pp.out.p0
  have pp1 := Q_pp.out.p1
  have D := Lib.hid (D.out.trans D2.out)
  obtain ⟨u1, u2, u3, u4⟩ : _ ∧ _ ∧ _ ∧ _ := same_use (c := c) (d := ((o.set 17 (M.csr c 0)).set 22 (M.csr c 5)).set 23 (M.csr c 6))
    (by rw [M.csr_set o2 6 0 _ (by decide), M.csr_set o1 5 0 _ (by decide), M.csr_set ho 0 0 _ (by decide)]; rfl) (fun _ => by rw [M.csr_set o2 6 5 _ (by decide), M.csr_set o1 5 5 _ (by decide)]; rfl) (fun _ => by rw [M.csr_set o2 6 6 _ (by decide)]; rfl)
  have T1 := Lib.hid fun w => translateCore c many a 4 w hc m0 m1 a0 a1 (by decide) (by decide)
  have T2 := Lib.hid fun w => translateCore (((o.set 17 (M.csr c 0)).set 22 (M.csr c 5)).set 23 (M.csr c 6)) many a 4 w o3 m0 m1 a0 a1 (by decide) (by decide)
  have T3 := Lib.hid fun w => compose pb ps c w hc p0 p1 s0 s1
  have T4 := Lib.hid fun w => compose pb ps (((o.set 17 (M.csr c 0)).set 22 (M.csr c 5)).set 23 (M.csr c 6)) w o3 p0 p1 s0 s1
  rw [u1, u2] at T2
  rw [u3, u4] at T4
  have T5 := Lib.hid fun w => compose (pb + far) ps c w hc (by omega) (by omega) s0 s1
  have T6 := Lib.hid fun w => super_ c w hc
  rw [hs] at T6
  have F2 := Lib.hid fun w => fits (pb + far) ps w (by omega) (by omega) s0 s1
  have hw : IntKind.u32.wrap (pb + far) = pb + far := by rw [IntKind.wrap_u32]; omega
  generalize decide (pb + far + ps ≤ 2147483648) = t at F2
  obtain ⟨d, hd⟩ : ∃ d, ((o.set 17 (M.csr c 0)).set 22 (M.csr c 5)).set 23 (M.csr c 6) = d := ⟨_, rfl⟩
  rw [hd] at r_d T2 T4 o3
  clear hd u1 u2 u3 u4
  generalize M.phys (M.ub c) (M.un c many) many a 4 = x at T1 T2
  generalize M.hit (M.ub c) (M.un c many) many a 4 = v at T1 T2
  clear R_c R_d D2
  go_wp2_with (first | ((with_reducible refine load29 r_c hc.len ?_ ?_ ?_); rfl; rfl) | ((with_reducible refine load29 r_d o3.len ?_ ?_ ?_); rfl; rfl))
  refine (T1.out _).mono ?_
  rintro e w4 ⟨rfl, d1⟩
  have r_c := r_c.dn d1
  have r_d := r_d.dn d1
  have Q_pp := Lib.hid (Q_pp.out.dn d1)
  have pp0 := Q_pp.out.p0
  have pp1 := Q_pp.out.p1
  have D := Lib.hid (D.out.trans d1)
  clear d1
  go_wp2_with (first | ((with_reducible refine load29 r_c hc.len ?_ ?_ ?_); rfl; rfl) | ((with_reducible refine load29 r_d o3.len ?_ ?_ ?_); rfl; rfl))
  refine (T2.out _).mono ?_
  rintro e w5 ⟨rfl, d1⟩
  have r_c := r_c.dn d1
  have r_d := r_d.dn d1
  have Q_pp := Lib.hid (Q_pp.out.dn d1)
  have pp0 := Q_pp.out.p0
  have pp1 := Q_pp.out.p1
  have D := Lib.hid (D.out.trans d1)
  clear d1
  go_wp2_with (first | ((with_reducible refine load29 r_c hc.len ?_ ?_ ?_); rfl; rfl) | ((with_reducible refine load29 r_d o3.len ?_ ?_ ?_); rfl; rfl))
  refine (T3.out _).mono ?_
  rintro e w6 ⟨rfl, d1⟩
  have r_c := r_c.dn d1
  have r_d := r_d.dn d1
  have Q_pp := Lib.hid (Q_pp.out.dn d1)
  have pp0 := Q_pp.out.p0
  have pp1 := Q_pp.out.p1
  have D := Lib.hid (D.out.trans d1)
  clear d1
  go_wp2_with (first | ((with_reducible refine load29 r_c hc.len ?_ ?_ ?_); rfl; rfl) | ((with_reducible refine load29 r_d o3.len ?_ ?_ ?_); rfl; rfl))
  refine (T4.out _).mono ?_
  rintro e w7 ⟨rfl, d1⟩
  have r_c := r_c.dn d1
  have r_d := r_d.dn d1
  have Q_pp := Lib.hid (Q_pp.out.dn d1)
  have pp0 := Q_pp.out.p0
  have pp1 := Q_pp.out.p1
  have D := Lib.hid (D.out.trans d1)
  clear d1
  have l0 := Q_pp.out.lt
  have Q_mv := Lib.hid (Row.new w7 28 .u32 [pb + far, ps])
  have dd := (Dn.refl w7).alloc (.cells #[.int .u32 (pb + far), .int .u32 ps] 28)
  go_wp2_with (first | ((with_reducible refine load29 r_c hc.len ?_ ?_ ?_); rfl; rfl) | ((with_reducible refine load29 r_d o3.len ?_ ?_ ?_); rfl; rfl))
  have r_c := r_c.dn dd
  have D := Lib.hid (D.out.trans dd)
  clear dd pp0 pp1 r_d
  refine (F2.out _).mono ?_
  rintro e w8 ⟨rfl, d1⟩
  have r_c := r_c.dn d1
  have Q_mv := Lib.hid (Q_mv.out.dn d1)
  have mv0 := Q_mv.out.p0
  have mv1 := Q_mv.out.p1
  have D := Lib.hid (D.out.trans d1)
  clear d1
  cases t
  · go_wp2
    go_ret
    exact ⟨rfl, D.out⟩
  have e1 : M.cb (pb + far) ps c = if M.cn ps c = 0 then 0 else (pb + far + M.csr c 5) % 4294967296 := by unfold M.cb; rw [hs]; rfl
  have e2 : M.cb pb ps c = if M.cn ps c = 0 then 0 else (pb + M.csr c 5) % 4294967296 := by unfold M.cb; rw [hs]; rfl
  have X : Hid (M.cn ps c ≠ 0 → IntKind.u32.wrap (M.cb pb ps c + far) = M.cb (pb + far) ps c) := Lib.hid (fun h => by rw [IntKind.wrap_u32, e1, e2, if_neg h, if_neg h]; omega)
  clear e1 e2
  generalize M.cn ps c = n at *
  generalize M.cb (pb + far) ps c = f at *
  generalize M.cb pb ps c = b at *
  go_wp2_with (first | ((with_reducible refine load29 r_c hc.len ?_ ?_ ?_); rfl; rfl))
  refine (T5.out _).mono ?_
  rintro e w9 ⟨rfl, d1⟩
  have r_c := r_c.dn d1
  have Q_mv := Lib.hid (Q_mv.out.dn d1)
  have mv0 := Q_mv.out.p0
  have mv1 := Q_mv.out.p1
  have D := Lib.hid (D.out.trans d1)
  clear d1
  by_cases hn : n = 0
  · have hn2 : (n == 0) = true := by simpa using hn
    go_wp2_with (first | ((with_reducible refine load29 r_c hc.len ?_ ?_ ?_); rfl; rfl))
    refine (T6.out _).mono ?_
    rintro e w10 ⟨rfl, d1⟩
    have D := Lib.hid (D.out.trans d1)
    clear d1 r_c
    go_wp2
    go_ret
    exact ⟨rfl, D.out⟩
  · have hn2 : (n == 0) = false := by simpa using hn
    have hw2 := X.out hn
    clear X
    go_wp2
    go_ret
    exact ⟨rfl, D.out⟩

theorem dpWalk (pb : Int) (p0 : 0 ≤ pb) (p1 : pb < 4294967296) (ps : Int) (s0 : 0 ≤ ps) (s1 : ps < 4294967296) (c : List Int) (hc : M.Core c) (o : List Int) (ho : M.Core o) (many : Int) (m0 : 0 ≤ many) (m1 : many < 4294967296) (a : Int) (a0 : 0 ≤ a) (a1 : a < 4294967296) (far : Int) (f0 : 0 ≤ far) (f1 : far < 65536) (W : World) :
    Calls Try.prog 7 #[.agg #[.int .u32 pb, .int .u32 ps], .agg (ints .u32 c), .agg (ints .u32 o), .int .u32 many, .int .u32 a, .int .u16 far] W fun e W' => e = .returned (.bool true) ∧ Dn W W' := by
  by_cases hf : pb + ps ≤ 2147483648
  · cases hs : M.sup c
    · exact dp_user pb p0 p1 ps s0 s1 c hc o ho many m0 m1 a a0 a1 far f0 f1 W hf hs
    · exact dp_sup pb p0 p1 ps s0 s1 c hc o ho many m0 m1 a a0 a1 far f0 f1 W hf hs
  · exact dp_no pb p0 p1 ps s0 s1 c hc o ho many m0 m1 a a0 a1 far f0 f1 W hf
end Go.Proofs.Ytdklififnofedaa
