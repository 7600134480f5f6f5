/-
  What each function of package reloc returns when called: contracts over the translated program. Conditions: those that stand in each theorem.
-/
import Derived.Test.YtdklififnofedaaCore
import Derived.Deep.RegionHeld3
namespace Go.Proofs.Ytdklififnofedaa
open Go.ChangeShapes Go.WideShapes Go.ChangeAt Go.RowKit Go.Sort
set_option linter.unusedVariables false

theorem ret_ib {k : IntKind} {a b : Int} {p q : Bool} (h : a = b) (h2 : p = q) : Ending.returned (.tuple #[.int k a, .bool p]) = .returned (.tuple #[.int k b, .bool q]) := by rw [h, h2]
theorem ret_ii {k l : IntKind} {a b p q : Int} (h : a = b) (h2 : p = q) : Ending.returned (.tuple #[.int k a, .int l p]) = .returned (.tuple #[.int k b, .int l q]) := by rw [h, h2]
theorem and_one (x : Int) (h0 : 0 ≤ x) (h : x < 4294967296) : bits .and .u32 x 1 = x % 2 := by
  obtain ⟨v, rfl⟩ := Int.eq_ofNat_of_zero_le h0
  rw [show (1 : Int) = ((1 : Nat) : Int) from rfl, u32_and_nat _ _ (by omega) (by omega), Nat.and_one_is_mod]
  omega
/-- a control register of a processor in memory -/
theorem Row.csr {w : World} {b : Nat} {t : TypeId} {c : List Int} (r : Row w b t .u32 c) (hc : M.Core c) (i : Nat) (hi : i < 12) : w.cell? ⟨b, 17 + i, none⟩ = some (.int .u32 (M.csr c i)) := r.cell (17 + i) (by have := hc.len; omega)

theorem isSup (c : List Int) (W : World) (hc : M.Core c) :
    Calls Try.prog 20 #[.agg (ints .u32 c)] W fun e W' => e = .returned (.bool (M.sup c)) ∧ Dn W W' := by
  have k : (W.alloc (.cells (ints .u32 c) 26)).cell? ⟨W.heap.size, 17, none⟩ = some (.int .u32 (M.csr c 0)) := (Row.new W 26 .u32 c).csr hc 0 (by decide)
  have r := hc.csr 0
  have HE : Hid ((bits .and .u32 (M.csr c 0) 1 != 0) = M.sup c) := Lib.hid (by
    rw [and_one _ r.1 r.2]
    unfold M.sup
    generalize M.csr c 0 = x
    by_cases h : x % 2 = 1
    · simp [h]
    · have h2 : x % 2 = 0 := by omega
      simp [h2])
  go_enter Try.func20, Try.ntmps20
  go_wp2
  go_ret
  exact ⟨ret_bool HE.out, (Dn.refl W).alloc _⟩

theorem translate (base bound size a n : Int) (W : World) (b0 : 0 ≤ base) (b1 : base < 4294967296) (k0 : 0 ≤ bound) (k1 : bound < 4294967296) (s0 : 0 ≤ size) (s1 : size < 4294967296) (a0 : 0 ≤ a) (a1 : a < 4294967296) (n0 : 1 ≤ n) (n1 : n ≤ 4) :
    Calls Try.prog 10 #[.int .u32 base, .int .u32 bound, .int .u32 size, .int .u32 a, .int .i64 n] W fun e W' => e = .returned (.tuple #[.int .u32 (M.phys base bound size a n), .bool (M.hit base bound size a n)]) ∧ W = W' := by
  by_cases h1 : bound < a + n
  · have hh : M.hit base bound size a n = false := by rw [Bool.eq_false_iff, ne_eq, M.hit_iff]; omega
    have E1 := Lib.hid (M.phys_miss hh)
    have E2 := Lib.hid hh
    clear hh
    go_enter Try.func10, Try.ntmps10
    go_wp2
    go_ret2
    exact ⟨ret_ib E1.out.symm E2.out.symm, rfl⟩
  by_cases h2 : size < base + (a + n)
  · have hh : M.hit base bound size a n = false := by rw [Bool.eq_false_iff, ne_eq, M.hit_iff]; omega
    have E1 := Lib.hid (M.phys_miss hh)
    have E2 := Lib.hid hh
    clear hh
    go_enter Try.func10, Try.ntmps10
    go_wp2
    go_ret2
    exact ⟨ret_ib E1.out.symm E2.out.symm, rfl⟩
  · have hh : M.hit base bound size a n = true := by rw [M.hit_iff]; omega
    have E1 := Lib.hid (M.phys_hit hh)
    have E2 := Lib.hid hh
    have hw : IntKind.u32.wrap (base + a) = base + a := by rw [IntKind.wrap_u32]; omega
    clear hh
    go_enter Try.func10, Try.ntmps10
    go_wp2
    go_ret2
    exact ⟨ret_ib E1.out.symm E2.out.symm, rfl⟩

theorem left_ (size b : Int) (W : World) (s0 : 0 ≤ size) (s1 : size < 4294967296) (b0 : 0 ≤ b) (b1 : b < 4294967296) :
    Calls Try.prog 22 #[.int .u32 size, .int .u32 b] W fun e W' => e = .returned (.int .u32 (M.rest size b)) ∧ W = W' := by
  by_cases h : size < b
  · have HE : Hid (M.rest size b = 0) := Lib.hid (by unfold M.rest; rw [if_pos h])
    go_enter Try.func22, Try.ntmps22
    go_wp2
    go_ret
    exact ⟨ret_int HE.out.symm, rfl⟩
  · have HE : Hid (M.rest size b = size - b) := Lib.hid (by unfold M.rest; rw [if_neg h])
    have hw : IntKind.u32.wrap (size - b) = size - b := by rw [IntKind.wrap_u32]; omega
    go_enter Try.func22, Try.ntmps22
    go_wp2
    go_ret
    exact ⟨ret_int HE.out.symm, rfl⟩

def LeastRel (W : World) (x y : Int) (lo i : Value) (w : World) : Prop := ((i = .int .i64 0 ∧ lo = .int .u32 x) ∨ (i = .int .i64 1 ∧ lo = .int .u32 (min x y))) ∧ w = W
theorem least (x y : Int) (b : Nat) (W : World) (hy : W.cell? ⟨b, 0, none⟩ = some (.int .u32 y)) :
    Calls Try.prog 21 #[.int .u32 x, .slice (some ⟨b, 0, none⟩) 1 1] W fun e W' => e = .returned (.int .u32 (min x y)) ∧ W = W' := by
  go_enter Try.func21, Try.ntmps21
  go_wp2
  go_loopw [5, 11] (fun lo i w => LeastRel W x y lo i w) (fun _ i _ => 1 - (intOf i).toNat)
  case atStart => exact ⟨.inl ⟨rfl, rfl⟩, rfl⟩
  case round =>
    obtain ⟨h, rfl⟩ := hrel
    rcases h with ⟨rfl, rfl⟩ | ⟨rfl, rfl⟩
    · by_cases hlt : y < x
      · have HE : Hid (min x y = y) := Lib.hid (by omega)
        go_wp2
        exact ⟨⟨.inr ⟨rfl, by rw [HE.out]⟩, rfl⟩, by simp [intOf]⟩
      · have HE : Hid (min x y = x) := Lib.hid (by omega)
        go_wp2
        exact ⟨⟨.inr ⟨rfl, by rw [HE.out]⟩, rfl⟩, by simp [intOf]⟩
    · obtain ⟨m, hm⟩ : ∃ m, min x y = m := ⟨_, rfl⟩
      rw [hm]
      have HM := Lib.hid hm
      clear hm
      go_wp2
      go_ret
      exact ⟨ret_int HM.out.symm, rfl⟩

theorem inUse (c : List Int) (size : Int) (W : World) (hc : M.Core c) (s0 : 0 ≤ size) (s1 : size < 4294967296) :
    Calls Try.prog 19 #[.agg (ints .u32 c), .int .u32 size] W fun e W' => e = .returned (.tuple #[.int .u32 (M.ub c), .int .u32 (M.un c size)]) ∧ Dn W W' := by
  have hl := hc.len
  have r := Row.new W 26 .u32 c
  have d0 := (Dn.refl W).alloc (.cells (ints .u32 c) 26)
  cases hs : M.sup c
  · have E1 : Hid (M.ub c = M.csr c 5) := Lib.hid (by unfold M.ub; rw [hs]; rfl)
    have E2 : Hid (M.un c size = M.csr c 6) := Lib.hid (by unfold M.un; rw [hs]; rfl)
    have D := Lib.hid d0
    have R := Lib.hid r
    clear d0
    go_enter Try.func19, Try.ntmps19
    go_wp2_with (first | ((with_reducible refine load29 r hl ?_ ?_ ?_); rfl; rfl))
    refine (isSup c _ hc).mono ?_
    rintro e w1 ⟨rfl, d1⟩
    rw [hs]
    have r5 : w1.cell? ⟨W.heap.size, 22, none⟩ = some (.int .u32 (M.csr c 5)) := (R.out.dn d1).csr hc 5 (by decide)
    have r6 : w1.cell? ⟨W.heap.size, 23, none⟩ = some (.int .u32 (M.csr c 6)) := (R.out.dn d1).csr hc 6 (by decide)
    have D1 := Lib.hid (D.out.trans d1)
    clear r d1
    go_wp2_with fail
    go_quiet (fail)
    go_wp2
    go_ret2
    exact ⟨ret_ii E1.out.symm E2.out.symm, D1.out.drewN _⟩
  · have E1 : Hid (M.ub c = 0) := Lib.hid (by unfold M.ub; rw [hs]; rfl)
    have E2 : Hid (M.un c size = size) := Lib.hid (by unfold M.un; rw [hs]; rfl)
    have D := Lib.hid d0
    clear d0
    go_enter Try.func19, Try.ntmps19
    go_wp2_with (first | ((with_reducible refine load29 r hl ?_ ?_ ?_); rfl; rfl))
    refine (isSup c _ hc).mono ?_
    rintro e w1 ⟨rfl, d1⟩
    rw [hs]
    have D1 := Lib.hid (D.out.trans d1)
    clear r d1
    go_wp2
    go_ret2
    exact ⟨ret_ii E1.out.symm E2.out.symm, D1.out⟩

theorem translateCore (c : List Int) (size a n : Int) (W : World) (hc : M.Core c) (s0 : 0 ≤ size) (s1 : size < 4294967296) (a0 : 0 ≤ a) (a1 : a < 4294967296) (n0 : 1 ≤ n) (n1 : n ≤ 4) :
    Calls Try.prog 12 #[.agg (ints .u32 c), .int .u32 size, .int .u32 a, .int .i64 n] W fun e W' => e = .returned (.tuple #[.int .u32 (M.phys (M.ub c) (M.un c size) size a n), .bool (M.hit (M.ub c) (M.un c size) size a n)]) ∧ Dn W W' := by
  have hl := hc.len
  have r := Row.new W 26 .u32 c
  have D := Lib.hid ((Dn.refl W).alloc (.cells (ints .u32 c) 26))
  have u1 := M.ub_rng hc
  have u2 := M.un_rng hc s0 s1
  go_enter Try.func12, Try.ntmps12
  go_wp2_with (first | ((with_reducible refine load29 r hl ?_ ?_ ?_); rfl; rfl))
  refine (inUse c size _ hc s0 s1).mono ?_
  rintro e w1 ⟨rfl, d1⟩
  have D1 := Lib.hid (D.out.trans d1)
  clear r d1
  go_wp2_with fail
  refine (translate (M.ub c) (M.un c size) size a n _ u1.1 u1.2 u2.1 u2.2 s0 s1 a0 a1 n0 n1).mono ?_
  rintro e w2 ⟨rfl, rfl⟩
  go_wp2
  go_ret2
  exact ⟨rfl, D1.out⟩

theorem new_cell0 (w : World) (v : Value) (t : TypeId) : (w.alloc (.cells #[v] t)).cell? ⟨w.heap.size, 0, none⟩ = some v := by rw [World.cell?_alloc_new]; rfl
theorem compose (pb ps : Int) (c : List Int) (W : World) (hc : M.Core c) (p0 : 0 ≤ pb) (p1 : pb < 4294967296) (s0 : 0 ≤ ps) (s1 : ps < 4294967296) :
    Calls Try.prog 15 #[.agg #[.int .u32 pb, .int .u32 ps], .agg (ints .u32 c)] W fun e W' => e = .returned (.tuple #[.int .u32 (M.cb pb ps c), .int .u32 (M.cn ps c)]) ∧ Dn W W' := by
  have hl := hc.len
  have r : Row ((W.alloc (.cells #[.int .u32 pb, .int .u32 ps] 28)).alloc (.cells (ints .u32 c) 26)) (W.heap.size + 1) 26 .u32 c := by
    have := Row.new (W.alloc (.cells #[.int .u32 pb, .int .u32 ps] 28)) 26 .u32 c
    rwa [size_alloc] at this
  have q : Row ((W.alloc (.cells #[.int .u32 pb, .int .u32 ps] 28)).alloc (.cells (ints .u32 c) 26)) W.heap.size 28 .u32 [pb, ps] := (Row.new W 28 .u32 [pb, ps]).dn ((Dn.refl _).alloc _)
  have D := Lib.hid (((Dn.refl W).alloc (.cells #[.int .u32 pb, .int .u32 ps] 28)).alloc (.cells (ints .u32 c) 26))
  have R := Lib.hid r
  have Qh := Lib.hid q
  clear q
  cases hs : M.sup c
  · go_enter Try.func15, Try.ntmps15
    go_wp2_with (first | ((with_reducible refine load29 r hl ?_ ?_ ?_); rfl; rfl))
    refine (isSup c _ hc).mono ?_
    rintro e w1 ⟨rfl, d1⟩
    rw [hs]
    have r5 : w1.cell? ⟨W.heap.size + 1, 22, none⟩ = some (.int .u32 (M.csr c 5)) := (R.out.dn d1).csr hc 5 (by decide)
    have r6 : w1.cell? ⟨W.heap.size + 1, 23, none⟩ = some (.int .u32 (M.csr c 6)) := (R.out.dn d1).csr hc 6 (by decide)
    have q0 : w1.cell? ⟨W.heap.size, 0, none⟩ = some (.int .u32 pb) := (Qh.out.dn d1).cell 0 (by simp)
    have q1 : w1.cell? ⟨W.heap.size, 1, none⟩ = some (.int .u32 ps) := (Qh.out.dn d1).cell 1 (by simp)
    have D1 := Lib.hid (D.out.trans d1)
    clear r d1
    go_wp2_with fail
    have c5 := hc.csr 5
    have hr := M.rest_rng s0 s1 c5.1
    have HC := Lib.hid (left_ ps (M.csr c 5) · s0 s1 c5.1 c5.2)
    have E2 : Hid (M.cn ps c = min (M.csr c 6) (M.rest ps (M.csr c 5))) := Lib.hid (by unfold M.cn; rw [hs]; rfl)
    have E1 : Hid (M.cb pb ps c = if M.cn ps c = 0 then 0 else (pb + M.csr c 5) % 4294967296) := Lib.hid (by unfold M.cb; rw [hs]; rfl)
    obtain ⟨l, hl⟩ : ∃ l, M.rest ps (M.csr c 5) = l := ⟨_, rfl⟩
    rw [hl] at hr HC E2
    clear hl
    go_region_held3 (fun w' => w'.cell? ⟨W.heap.size + 1, 23, none⟩ = some (.int .u32 (M.csr c 6)) ∧ w'.cell? ⟨W.heap.size, 1, none⟩ = some (.int .u32 ps))
      (first | exact ⟨r6, q1⟩ | exact ⟨Dn.keep ((Dn.refl _).alloc _) r6, Dn.keep ((Dn.refl _).alloc _) q1⟩ | exact ⟨Dn.keep (((Dn.refl _).alloc _).drew) r6, Dn.keep (((Dn.refl _).alloc _).drew) q1⟩)
      (first
      | (go_at_call 22; refine (HC.out _).mono ?_; rintro e w' ⟨rfl, rfl⟩)
      | (go_at_call 21; refine (least _ l w1.heap.size _ (Dn.keep ((Dn.refl _).drew) (new_cell0 w1 _ _))).mono ?_; rintro e w' ⟨rfl, rfl⟩))
    have D2 := Lib.hid ((D1.out.alloc (.cells #[.int .u32 l] 22)).drew)
    have q0 := Dn.keep (((Dn.refl _).alloc (.cells #[.int .u32 l] 22)).drew) q0
    generalize (w1.alloc (.cells #[.int .u32 l] 22)).drew = w2 at *
    obtain ⟨m, hm⟩ : ∃ m, min (M.csr c 6) l = m := ⟨_, rfl⟩
    rw [hm] at E2 ⊢
    rw [E2.out] at E1
    have hw : IntKind.u32.wrap (pb + M.csr c 5) = (pb + M.csr c 5) % 4294967296 := IntKind.wrap_u32 _
    clear hm r5 r6 q1
    by_cases h0 : m = 0
    · have E3 : Hid (M.cb pb ps c = 0) := Lib.hid (by rw [E1.out, if_pos h0])
      have E4 : Hid (M.cn ps c = 0) := Lib.hid (by rw [E2.out, h0])
      have hb : (m == 0) = true := by simpa using h0
      clear E1 E2 h0
      go_wp2
      go_ret2
      exact ⟨ret_ii E3.out.symm E4.out.symm, D2.out⟩
    · have E3 : Hid (M.cb pb ps c = (pb + M.csr c 5) % 4294967296) := Lib.hid (by rw [E1.out, if_neg h0])
      have hb : (m == 0) = false := by simpa using h0
      clear E1 h0
      go_wp2
      go_ret2
      exact ⟨ret_ii E3.out.symm E2.out.symm, D2.out⟩
  · have E1 : Hid (M.cb pb ps c = pb) := Lib.hid (by unfold M.cb; rw [hs]; rfl)
    have E2 : Hid (M.cn ps c = ps) := Lib.hid (by unfold M.cn; rw [hs]; rfl)
    go_enter Try.func15, Try.ntmps15
    go_wp2_with (first | ((with_reducible refine load29 r hl ?_ ?_ ?_); rfl; rfl))
    refine (isSup c _ hc).mono ?_
    rintro e w1 ⟨rfl, d1⟩
    rw [hs]
    have q0 : w1.cell? ⟨W.heap.size, 0, none⟩ = some (.int .u32 pb) := (Qh.out.dn d1).cell 0 (by simp)
    have q1 : w1.cell? ⟨W.heap.size, 1, none⟩ = some (.int .u32 ps) := (Qh.out.dn d1).cell 1 (by simp)
    have D1 := Lib.hid (D.out.trans d1)
    clear r d1
    go_wp2_with fail
    go_quiet (fail)
    go_wp2
    go_ret2
    exact ⟨ret_ii E1.out.symm E2.out.symm, D1.out.drewN _⟩
end Go.Proofs.Ytdklififnofedaa
