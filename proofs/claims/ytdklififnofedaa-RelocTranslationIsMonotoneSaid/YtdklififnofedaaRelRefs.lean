/-
  What each function of the reference of reloc returns when called: contracts over the translated program. Conditions: those that stand in each theorem.
-/
import Derived.Test.YtdklififnofedaaRelCalls
namespace Go.Proofs.Ytdklififnofedaa
open Go.ChangeShapes Go.WideShapes Go.ChangeAt Go.RowKit Go.Sort
set_option linter.unusedVariables false

theorem by_ (base bound size a n : Int) (W : World) (b0 : 0 ≤ base) (b1 : base < 4294967296) (k0 : 0 ≤ bound) (k1 : bound < 4294967296) (s0 : 0 ≤ size) (s1 : size < 4294967296) (a0 : 0 ≤ a) (a1 : a < 4294967296) (n0 : 1 ≤ n) (n1 : n ≤ 4) :
    Calls Try.prog 11 #[.int .u32 base, .int .u32 bound, .int .u32 size, .int .u32 a, .int .i64 n] W fun e W' => e = .returned (.tuple #[.int .u32 (M.phys base bound size a n), .bool (M.hit base bound size a n)]) ∧ W = W' := by
  by_cases h1 : bound < a + n
  · have hh : M.hit base bound size a n = false := by rw [Bool.eq_false_iff, ne_eq, M.hit_iff]; omega
    have E1 := Lib.hid (M.phys_miss hh)
    have E2 := Lib.hid hh
    clear hh
    go_enter Try.func11, Try.ntmps11
    go_wp2
    go_ret2
    exact ⟨ret_ib E1.out.symm E2.out.symm, rfl⟩
  by_cases h2 : size < base + (a + n)
  · have hh : M.hit base bound size a n = false := by rw [Bool.eq_false_iff, ne_eq, M.hit_iff]; omega
    have E1 := Lib.hid (M.phys_miss hh)
    have E2 := Lib.hid hh
    clear hh
    go_enter Try.func11, Try.ntmps11
    go_wp2
    go_ret2
    exact ⟨ret_ib E1.out.symm E2.out.symm, rfl⟩
  · have hh : M.hit base bound size a n = true := by rw [M.hit_iff]; omega
    have E1 := Lib.hid (M.phys_hit hh)
    have E2 := Lib.hid hh
    have hw : IntKind.u32.wrap (base + a) = base + a := by rw [IntKind.wrap_u32]; omega
    clear hh
    go_enter Try.func11, Try.ntmps11
    go_wp2
    go_ret2
    exact ⟨ret_ib E1.out.symm E2.out.symm, rfl⟩

theorem super_ (c : List Int) (W : World) (hc : M.Core c) :
    Calls Try.prog 18 #[.agg (ints .u32 c)] W fun e W' => e = .returned (.bool (M.sup c)) ∧ Dn W W' := by
  have k : (W.alloc (.cells (ints .u32 c) 26)).cell? ⟨W.heap.size, 17, none⟩ = some (.int .u32 (M.csr c 0)) := (Row.new W 26 .u32 c).csr hc 0 (by decide)
  have r := hc.csr 0
  have HE : Hid ((M.csr c 0 % 2 == 1) = M.sup c) := Lib.hid rfl
  go_enter Try.func18, Try.ntmps18
  go_wp2
  go_ret
  exact ⟨ret_bool HE.out, (Dn.refl W).alloc _⟩

theorem at_ (c : List Int) (size a n : Int) (W : World) (hc : M.Core c) (s0 : 0 ≤ size) (s1 : size < 4294967296) (a0 : 0 ≤ a) (a1 : a < 4294967296) (n0 : 1 ≤ n) (n1 : n ≤ 4) :
    Calls Try.prog 13 #[.agg (ints .u32 c), .int .u32 size, .int .u32 a, .int .i64 n] W fun e W' => e = .returned (.tuple #[.int .u32 (M.phys (M.ub c) (M.un c size) size a n), .bool (M.hit (M.ub c) (M.un c size) size a n)]) ∧ Dn W W' := by
  have hl := hc.len
  have r := Row.new W 26 .u32 c
  have R := Lib.hid r
  have D := Lib.hid ((Dn.refl W).alloc (.cells (ints .u32 c) 26))
  cases hs : M.sup c
  · have e1 : M.ub c = M.csr c 5 := by unfold M.ub; rw [hs]; rfl
    have e2 : M.un c size = M.csr c 6 := by unfold M.un; rw [hs]; rfl
    rw [e1, e2]
    have u1 := hc.csr 5
    have u2 := hc.csr 6
    clear e1 e2
    go_enter Try.func13, Try.ntmps13
    go_wp2_with (first | ((with_reducible refine load29 r hl ?_ ?_ ?_); rfl; rfl))
    refine (super_ c _ hc).mono ?_
    rintro e w1 ⟨rfl, d1⟩
    rw [hs]
    have r5 : w1.cell? ⟨W.heap.size, 22, none⟩ = some (.int .u32 (M.csr c 5)) := (R.out.dn d1).csr hc 5 (by decide)
    have r6 : w1.cell? ⟨W.heap.size, 23, none⟩ = some (.int .u32 (M.csr c 6)) := (R.out.dn d1).csr hc 6 (by decide)
    have D1 := Lib.hid (D.out.trans d1)
    clear r d1
    go_wp2_with fail
    refine (by_ (M.csr c 5) (M.csr c 6) size a n _ u1.1 u1.2 u2.1 u2.2 s0 s1 a0 a1 n0 n1).mono ?_
    rintro e w2 ⟨rfl, rfl⟩
    go_wp2
    go_ret2
    exact ⟨rfl, D1.out⟩
  · have e1 : M.ub c = 0 := by unfold M.ub; rw [hs]; rfl
    have e2 : M.un c size = size := by unfold M.un; rw [hs]; rfl
    rw [e1, e2]
    clear e1 e2
    go_enter Try.func13, Try.ntmps13
    go_wp2_with (first | ((with_reducible refine load29 r hl ?_ ?_ ?_); rfl; rfl))
    refine (super_ c _ hc).mono ?_
    rintro e w1 ⟨rfl, d1⟩
    rw [hs]
    have D1 := Lib.hid (D.out.trans d1)
    clear r d1
    go_wp2_with fail
    refine (by_ 0 size size a n _ (by decide) (by decide) s0 s1 s0 s1 a0 a1 n0 n1).mono ?_
    rintro e w2 ⟨rfl, rfl⟩
    go_wp2
    go_ret2
    exact ⟨rfl, D1.out⟩

theorem fits (pb ps : Int) (W : World) (p0 : 0 ≤ pb) (p1 : pb < 4294967296) (s0 : 0 ≤ ps) (s1 : ps < 4294967296) :
    Calls Try.prog 14 #[.agg #[.int .u32 pb, .int .u32 ps]] W fun e W' => e = .returned (.bool (decide (pb + ps ≤ 2147483648))) ∧ Dn W W' := by
  go_enter Try.func14, Try.ntmps14
  go_wp2
  go_ret
  exact ⟨rfl, (Dn.refl W).alloc _⟩

theorem compose_ (pb ps : Int) (c : List Int) (W : World) (hc : M.Core c) (p0 : 0 ≤ pb) (p1 : pb < 4294967296) (s0 : 0 ≤ ps) (s1 : ps < 4294967296) :
    Calls Try.prog 16 #[.agg #[.int .u32 pb, .int .u32 ps], .agg (ints .u32 c)] W fun e W' => e = .returned (.tuple #[.int .u32 (M.cb pb ps c), .int .u32 (M.cn ps c)]) ∧ Dn W W' := by
  have hl := hc.len
  have r : Row ((W.alloc (.cells #[.int .u32 pb, .int .u32 ps] 28)).alloc (.cells (ints .u32 c) 26)) (W.heap.size + 1) 26 .u32 c := by
    have := Row.new (W.alloc (.cells #[.int .u32 pb, .int .u32 ps] 28)) 26 .u32 c
    rwa [size_alloc] at this
  have q : Row ((W.alloc (.cells #[.int .u32 pb, .int .u32 ps] 28)).alloc (.cells (ints .u32 c) 26)) W.heap.size 28 .u32 [pb, ps] := (Row.new W 28 .u32 [pb, ps]).dn ((Dn.refl _).alloc _)
  have D := Lib.hid (((Dn.refl W).alloc (.cells #[.int .u32 pb, .int .u32 ps] 28)).alloc (.cells (ints .u32 c) 26))
  have R := Lib.hid r
  have Qh := Lib.hid q
  clear q
  cases hs : M.sup c
  · go_enter Try.func16, Try.ntmps16
    go_wp2_with (first | ((with_reducible refine load29 r hl ?_ ?_ ?_); rfl; rfl))
    refine (super_ c _ hc).mono ?_
    rintro e w1 ⟨rfl, d1⟩
    rw [hs]
    have r5 : w1.cell? ⟨W.heap.size + 1, 22, none⟩ = some (.int .u32 (M.csr c 5)) := (R.out.dn d1).csr hc 5 (by decide)
    have r6 : w1.cell? ⟨W.heap.size + 1, 23, none⟩ = some (.int .u32 (M.csr c 6)) := (R.out.dn d1).csr hc 6 (by decide)
    have q0 : w1.cell? ⟨W.heap.size, 0, none⟩ = some (.int .u32 pb) := (Qh.out.dn d1).cell 0 (by simp)
    have q1 : w1.cell? ⟨W.heap.size, 1, none⟩ = some (.int .u32 ps) := (Qh.out.dn d1).cell 1 (by simp)
    have D1 := Lib.hid (D.out.trans d1)
    clear r d1
    have c5 := hc.csr 5
    have c6 := hc.csr 6
    have e2 : M.cn ps c = min (M.csr c 6) (M.rest ps (M.csr c 5)) := by unfold M.cn; rw [hs]; rfl
    have e1 : M.cb pb ps c = if M.cn ps c = 0 then 0 else (pb + M.csr c 5) % 4294967296 := by unfold M.cb; rw [hs]; rfl
    have e3 : M.rest ps (M.csr c 5) = if M.csr c 5 > ps then 0 else ps - M.csr c 5 := rfl
    generalize M.csr c 5 = x at *
    generalize M.csr c 6 = y at *
    by_cases hA : ps - x < y
    · by_cases hB : ps - x ≤ 0
      · have E1 : Hid (M.cb pb ps c = 0) := Lib.hid (by rw [e1, e2, e3]; split <;> split <;> omega)
        have E2 : Hid (M.cn ps c = 0) := Lib.hid (by rw [e2, e3]; split <;> omega)
        clear e1 e2 e3
        go_wp2
        go_ret2
        exact ⟨ret_ii E1.out.symm E2.out.symm, D1.out⟩
      · have E1 : Hid (M.cb pb ps c = (pb + x) % 4294967296) := Lib.hid (by rw [e1, e2, e3]; split <;> split <;> omega)
        have E2 : Hid (M.cn ps c = ps - x) := Lib.hid (by rw [e2, e3]; split <;> omega)
        clear e1 e2 e3
        go_wp2
        go_ret2
        exact ⟨ret_ii E1.out.symm E2.out.symm, D1.out⟩
    · by_cases hB : y ≤ 0
      · have E1 : Hid (M.cb pb ps c = 0) := Lib.hid (by rw [e1, e2, e3]; split <;> split <;> omega)
        have E2 : Hid (M.cn ps c = 0) := Lib.hid (by rw [e2, e3]; split <;> omega)
        clear e1 e2 e3
        go_wp2
        go_ret2
        exact ⟨ret_ii E1.out.symm E2.out.symm, D1.out⟩
      · have E1 : Hid (M.cb pb ps c = (pb + x) % 4294967296) := Lib.hid (by rw [e1, e2, e3]; split <;> split <;> omega)
        have E2 : Hid (M.cn ps c = y) := Lib.hid (by rw [e2, e3]; split <;> omega)
        clear e1 e2 e3
        go_wp2
        go_ret2
        exact ⟨ret_ii E1.out.symm E2.out.symm, D1.out⟩
  · have E1 : Hid (M.cb pb ps c = pb) := Lib.hid (by unfold M.cb; rw [hs]; rfl)
    have E2 : Hid (M.cn ps c = ps) := Lib.hid (by unfold M.cn; rw [hs]; rfl)
    go_enter Try.func16, Try.ntmps16
    go_wp2_with (first | ((with_reducible refine load29 r hl ?_ ?_ ?_); rfl; rfl))
    refine (super_ c _ hc).mono ?_
    rintro e w1 ⟨rfl, d1⟩
    rw [hs]
    have q0 : w1.cell? ⟨W.heap.size, 0, none⟩ = some (.int .u32 pb) := (Qh.out.dn d1).cell 0 (by simp)
    have q1 : w1.cell? ⟨W.heap.size, 1, none⟩ = some (.int .u32 ps) := (Qh.out.dn d1).cell 1 (by simp)
    have D1 := Lib.hid (D.out.trans d1)
    clear r d1
    go_wp2_with fail
    go_quiet (fail)
    go_wp2
    go_ret2
    exact ⟨ret_ii E1.out.symm E2.out.symm, D1.out.drewN _⟩

theorem size_ (b : Bool) (W : World) :
    Calls Try.prog 9 #[.bool b] W fun e W' => e = .returned (.int .i64 (if b then 4 else 1)) ∧ W = W' := by
  cases b
  · go_enter Try.func9, Try.ntmps9
    go_wp2
    go_ret
    exact ⟨rfl, rfl⟩
  · go_enter Try.func9, Try.ntmps9
    go_wp2
    go_ret
    exact ⟨rfl, rfl⟩

theorem up_ (n more : Int) (W : World) (n0 : 0 ≤ n) (n1 : n < 4294967296) (m0 : 0 ≤ more) (m1 : more < 4294967296) :
    Calls Try.prog 17 #[.int .u32 n, .int .u32 more] W fun e W' => e = .returned (.int .u32 (min (n + more) 4294967295)) ∧ W = W' := by
  by_cases h : 4294967295 - n < more
  · have HE : Hid (min (n + more) 4294967295 = 4294967295) := Lib.hid (by omega)
    have w1 : IntKind.u32.wrap (4294967295 - n) = 4294967295 - n := by rw [IntKind.wrap_u32]; omega
    have w2 : IntKind.u32.wrap (n + (4294967295 - n)) = 4294967295 := by rw [IntKind.wrap_u32]; omega
    go_enter Try.func17, Try.ntmps17
    go_wp2
    go_ret
    exact ⟨ret_int HE.out.symm, rfl⟩
  · have HE : Hid (min (n + more) 4294967295 = n + more) := Lib.hid (by omega)
    have w1 : IntKind.u32.wrap (4294967295 - n) = 4294967295 - n := by rw [IntKind.wrap_u32]; omega
    have w2 : IntKind.u32.wrap (n + more) = n + more := by rw [IntKind.wrap_u32]; omega
    go_enter Try.func17, Try.ntmps17
    go_wp2
    go_ret
    exact ⟨ret_int HE.out.symm, rfl⟩
end Go.Proofs.Ytdklififnofedaa
