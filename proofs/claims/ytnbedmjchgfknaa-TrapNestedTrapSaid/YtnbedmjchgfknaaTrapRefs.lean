/-
  What each function of the reference package gaolerref09 returns when called, and Super of gaolerref06: contracts over the translated program. Conditions: those that stand in each theorem.
-/
import Derived.Test.YtnbedmjchgfknaaTrapDo
import Derived.Test.YtnbedmjchgfknaaRb
namespace Go.Proofs.Ytnbedmjchgfknaa
open Go.ChangeShapes Go.WideShapes Go.ChangeAt Go.RowKit Go.Sort
set_option linter.unusedVariables false

namespace M
theorem E_bit (s a : Int) (s0 : 0 ≤ s) : E s a 1 = s / 2 ^ a.toNat % 2 := by rw [← E_eq s a 1 s0]; rfl
theorem I_04 (s v : Int) (s0 : 0 ≤ s) (s1 : s < 4294967296) (v0 : 0 ≤ v) (v1 : v < 16) : I s 0 4 v = s / 16 * 16 + v := by
  have r := I_rng s 0 4 v s1 (by decide) (by decide) (by decide)
  have h1 := E_I s 0 4 v
  have h2 := E_apart s 0 4 v 4 28 (by decide) (by decide) (by decide) (by decide) (.inl (by decide))
  rw [← E_eq _ _ _ r.1, ← E_eq _ _ _ v0] at h1
  rw [← E_eq _ _ _ r.1, ← E_eq _ _ _ s0] at h2
  simp at h1 h2
  omega
theorem I_01 (s v : Int) (s0 : 0 ≤ s) (s1 : s < 4294967296) (v0 : 0 ≤ v) (v1 : v < 2) : I s 0 1 v = s / 2 * 2 + v := by
  have r := I_rng s 0 1 v s1 (by decide) (by decide) (by decide)
  have h1 := E_I s 0 1 v
  have h2 := E_apart s 0 1 v 1 31 (by decide) (by decide) (by decide) (by decide) (.inl (by decide))
  rw [← E_eq _ _ _ r.1, ← E_eq _ _ _ v0] at h1
  rw [← E_eq _ _ _ r.1, ← E_eq _ _ _ s0] at h2
  simp at h1 h2
  omega
theorem I_11 (s v : Int) (s0 : 0 ≤ s) (s1 : s < 4294967296) (v0 : 0 ≤ v) (v1 : v < 2) : I s 1 1 v = s / 4 * 4 + 2 * v + s % 2 := by
  have r := I_rng s 1 1 v s1 (by decide) (by decide) (by decide)
  have h1 := E_I s 1 1 v
  have h2 := E_apart s 1 1 v 2 30 (by decide) (by decide) (by decide) (by decide) (.inl (by decide))
  have h3 := E_apart s 1 1 v 0 1 (by decide) (by decide) (by decide) (by decide) (.inr (by decide))
  rw [← E_eq _ _ _ r.1, ← E_eq _ _ _ v0] at h1
  rw [← E_eq _ _ _ r.1, ← E_eq _ _ _ s0] at h2 h3
  simp at h1 h2 h3
  omega
theorem rt1 (s : Int) : (s / 2 * 2 + s / 4 % 2) / 8 % 2 = s / 8 % 2 := by
  obtain ⟨q, d3, d2, d1, d0, h3, h2, h1, h0, e, eq, e3, e2, e1, e0⟩ := bt_bits s
  rw [← e3, ← e2]
  have : s / 2 * 2 = 16 * q + 8 * d3 + 4 * d2 + 2 * d1 := by omega
  rw [this]
  clear e eq e3 e2 e1 e0 this
  omega
theorem rt2 (s : Int) : (s / 2 * 2 + s / 4 % 2) / 4 * 4 + 2 * (s / 8 % 2) + (s / 2 * 2 + s / 4 % 2) % 2 = rtn s := by
  obtain ⟨q, d3, d2, d1, d0, h3, h2, h1, h0, e, eq, e3, e2, e1, e0⟩ := bt_bits s
  unfold rtn
  rw [← e3, ← e2, ← eq]
  have : s / 2 * 2 = 16 * q + 8 * d3 + 4 * d2 + 2 * d1 := by omega
  rw [this]
  clear e eq e3 e2 e1 e0 this
  omega
theorem enter_alt (c : List Int) (k v : Int) (hk : k ≠ 0) : ((((c.set 17 (ent (csr c 0))).set 18 (pc c)).set 19 (k % 4294967296)).set 20 v).set 16 (csr c 4) = enter c k v := by
  unfold enter goTo
  rw [if_neg hk]
  rw [List.set_comm (i := 17) (j := 18) _ _ (by decide), List.set_comm (i := 17) (j := 19) _ _ (by decide), List.set_comm (i := 17) (j := 20) _ _ (by decide)]
end M

theorem rbField (s a r : Int) (W : World) (s0 : 0 ≤ s) (s1 : s < 4294967296) (a0 : 0 ≤ a) (a1 : a ≤ 32) (hr : s / 2 ^ a.toNat % 2 = r) :
    Calls Try.prog 18 #[.int .u32 s, .int .i64 a, .int .i64 1] W fun e W' => e = .returned (.int .u32 r) ∧ Dn W W' := by
  have h := Rb.field_dn s a 1 W s0 s1 a0 a1 (by decide) (by decide)
  rwa [M.E_bit s a s0, hr] at h
theorem rbPut (s a n v r : Int) (W : World) (s0 : 0 ≤ s) (s1 : s < 4294967296) (v0 : 0 ≤ v) (v1 : v < 4294967296) (a0 : 0 ≤ a) (n0 : 0 ≤ n) (hn : a + n ≤ 32) (hr : M.I s a n v = r) :
    Calls Try.prog 19 #[.int .u32 s, .int .i64 a, .int .i64 n, .int .u32 v] W fun e W' => e = .returned (.int .u32 r) ∧ Dn W W' := by
  subst hr
  exact Rb.put_dn s a n v W s0 s1 v0 v1 a0 n0 hn

theorem refSuper (c : List Int) (W : World) (hc : M.Core c) :
    Calls Try.prog 13 #[.agg (ints .u32 c)] W fun e W' => e = .returned (.bool (M.sup c)) ∧ Dn W W' := by
  have k : (W.alloc (.cells (ints .u32 c) 26)).cell? ⟨W.heap.size, 17, none⟩ = some (.int .u32 (M.csr c 0)) := (Row.new W 26 .u32 c).cell 17 (by rw [hc.len]; decide)
  have r := hc.csr 0
  go_enter Try.func13, Try.ntmps13
  go_wp2
  go_ret
  exact ⟨rfl, (Dn.refl W).alloc _⟩
theorem refEnabled (c : List Int) (W : World) (hc : M.Core c) :
    Calls Try.prog 15 #[.agg (ints .u32 c)] W fun e W' => e = .returned (.bool (M.ien c)) ∧ Dn W W' := by
  have k : (W.alloc (.cells (ints .u32 c) 26)).cell? ⟨W.heap.size, 17, none⟩ = some (.int .u32 (M.csr c 0)) := (Row.new W 26 .u32 c).cell 17 (by rw [hc.len]; decide)
  have r := hc.csr 0
  go_enter Try.func15, Try.ntmps15
  go_wp2
  go_ret
  refine ⟨ret_bool ?_, (Dn.refl W).alloc _⟩
  unfold M.ien M.bt
  generalize M.csr c 0 = x
  by_cases h : x / 2 % 2 = 1 <;> simp [h]

set_option maxHeartbeats 1000000 in
theorem refReturn (c : List Int) (W : World) (hc : M.Core c) :
    Calls Try.prog 11 #[.agg (ints .u32 c)] W fun e W' => e = .returned (.agg (ints .u32 (M.leave c))) ∧ Dn W W' := by
  obtain ⟨w, b0, b1, hw, hb0, hb1, r0, r1, ne, l0, l1, D⟩ := box_res W c 26
  have s := hc.csr 0
  have k0 : w.cell? ⟨b0, 17, none⟩ = some (.int .u32 (M.csr c 0)) := r0.cell 17 (by rw [hc.len]; decide)
  have hd : M.Core (M.leave c) := hc.leave
  have e1 : M.leave c = (c.set 17 (M.rtn (M.csr c 0))).set 16 (M.csr c 1) := rfl
  rw [e1] at hd ⊢
  clear e1
  have rr := M.rtn_rng _ s.1 s.2
  have h1 := hc.set 17 _ rr.1 rr.2
  have C1 := Lib.hid fun w => rbField (M.csr c 0) 2 _ w s.1 s.2 (by decide) (by decide) rfl
  have C2 := Lib.hid fun w => rbPut (M.csr c 0) 0 1 (M.csr c 0 / 4 % 2) (M.csr c 0 / 2 * 2 + M.csr c 0 / 4 % 2) w s.1 s.2 (by omega) (by omega) (by decide) (by decide) (by decide) (M.I_01 _ _ s.1 s.2 (by omega) (by omega))
  have C3 := Lib.hid fun w => rbField (M.csr c 0 / 2 * 2 + M.csr c 0 / 4 % 2) 3 (M.csr c 0 / 8 % 2) w (by omega) (by omega) (by decide) (by decide) (by rw [show (2 : Int) ^ (3 : Int).toNat = 8 from rfl]; exact M.rt1 _)
  have C4 := Lib.hid fun w => rbPut (M.csr c 0 / 2 * 2 + M.csr c 0 / 4 % 2) 1 1 (M.csr c 0 / 8 % 2) (M.rtn (M.csr c 0)) w (by omega) (by omega) (by omega) (by omega) (by decide) (by decide) (by decide) (by rw [M.I_11 _ _ (by omega) (by omega) (by omega) (by omega)]; exact M.rt2 _)
  rw [show (2 : Int) ^ (2 : Int).toNat = 4 from rfl] at C1
  have k1 : M.csr (c.set 17 (M.rtn (M.csr c 0))) 1 = M.csr c 1 := by rw [M.csr_set hc 0 1 _ (by decide), if_neg (by decide)]
  have HK := Lib.hid k1
  have HD := Lib.hid D
  have HL := Lib.hid (And.intro l0 l1)
  clear D l0 l1 k1 rr
  generalize M.rtn (M.csr c 0) = z at *
  generalize M.csr c 0 / 2 * 2 + M.csr c 0 / 4 % 2 = y at *
  generalize M.csr c 0 / 4 % 2 = x1 at *
  generalize M.csr c 0 / 8 % 2 = x2 at *
  go_enter Try.func11, Try.ntmps11
  go_wp2_with ((with_reducible refine alloc29 (b := W.heap.size + 1) (size_alloc _ _) ?_ ?_); rfl; refine Hid.out ?_)
  refine Lib.hid ?_
  rw [← hw, ← hb1, ← hb0]
  clear hw hb0 hb1
  go_wp2_with (first
    | (go_at_call 18; (first | (with_reducible refine (C1.out _).mono ?_) | (with_reducible refine (C3.out _).mono ?_)); rintro e w1 ⟨rfl, d1⟩; replace r0 := r0.dn d1; replace r1 := r1.dn d1; replace HD := Lib.hid (HD.out.trans d1); clear d1)
    | (go_at_call 19; (first | (with_reducible refine (C2.out _).mono ?_) | (with_reducible refine (C4.out _).mono ?_)); rintro e w1 ⟨rfl, d1⟩; replace r0 := r0.dn d1; replace r1 := r1.dn d1; replace HD := Lib.hid (HD.out.trans d1); clear d1)
    | ((with_reducible refine store1 (i := 17) (u := z) r0 hc ?_ ?_ ?_ ?_ ?_); rfl; rfl; rfl; rfl; intro w2 r2 t2; refine Hid.out ?_))
  refine Lib.hid ?_
  replace r1 := r1.trn t2 ne.symm
  replace HD := Lib.hid (HD.out.trn HL.out.1 t2)
  have j4 : w2.cell? ⟨b0, 18, none⟩ = some (.int .u32 (M.csr c 1)) := by
    have h := r2.cell 18 (by rw [h1.len]; decide)
    rw [← HK.out]
    exact h
  clear t2 r0 k0 HK
  go_wp2_with ((with_reducible refine store1 (i := 16) (u := M.csr c 1) r2 h1 ?_ ?_ ?_ ?_ ?_); rfl; rfl; rfl; rfl; intro w3 r3 t3; refine Hid.out ?_)
  refine Lib.hid ?_
  replace r1 := r1.trn t3 ne.symm
  replace HD := Lib.hid (HD.out.trn HL.out.1 t3)
  clear t3 r2 j4
  go_wp2_with (first
    | ((with_reducible refine load29 r3 hd.len ?_ ?_ ?_); rfl; rfl)
    | ((with_reducible refine restore29 _ hd.len r1 core_zeros.len ?_ ?_ ?_ ?_); rfl; rfl; rfl; intro w4 r4 t4))
  exact ret29 rfl rfl r4 hd.len ⟨rfl, HD.out.trn HL.out.2 t4⟩ rfl

set_option maxHeartbeats 1000000 in
theorem refEnter (c : List Int) (k v : Int) (W : World) (hc : M.Core c) (k0 : -9223372036854775808 ≤ k) (k1 : k < 9223372036854775808) (v0 : 0 ≤ v) (v1 : v < 4294967296) :
    Calls Try.prog 9 #[.agg (ints .u32 c), .agg #[.int .i64 k, .int .u32 v]] W fun e W' => e = .returned (.agg (ints .u32 (M.enter c k v))) ∧ Dn W W' := by
  obtain ⟨w, b0, b1, b2, hw, hb0, hb1, hb2, r0, g1, r2, n01, n02, n12, l0, l2, D⟩ := box_res2 W c 26 28 #[.int .i64 k, .int .u32 v]
  have j0 : w.cell? ⟨b1, 0, none⟩ = some (.int .i64 k) := g1.cell rfl
  have HG := Lib.hid g1
  have HD := Lib.hid D
  have HL := Lib.hid (And.intro l0 l2)
  clear D l0 l2 g1
  by_cases hk : k = 0
  · have hd : M.enter c k v = c := by unfold M.enter; rw [if_pos hk]
    rw [hd]
    clear hd
    have hkb : (k == 0) = true := by simpa using hk
    subst hk
    go_enter Try.func9, Try.ntmps9
    go_wp2_with ((with_reducible refine alloc29 (b := W.heap.size + 1 + 1) (size_alloc2 _ _ _) ?_ ?_); rfl; refine Hid.out ?_)
    refine Lib.hid ?_
    rw [← hw, ← hb2, ← hb1, ← hb0]
    clear hw hb0 hb1 hb2
    go_wp2_with (first
      | ((with_reducible refine load29 r0 hc.len ?_ ?_ ?_); rfl; rfl)
      | ((with_reducible refine restore29 _ hc.len r2 core_zeros.len ?_ ?_ ?_ ?_); rfl; rfl; rfl; intro w4 r4 t4))
    exact ret29 rfl rfl r4 hc.len ⟨rfl, HD.out.trn HL.out.2 t4⟩ rfl
  · have hkb : (k == 0) = false := by simpa using hk
    have s := hc.csr 0
    have HE := Lib.hid (M.enter_alt c k v hk)
    have re := M.ent_rng _ s.1 s.2
    have h1 := hc.set 17 _ re.1 re.2
    have h2 := h1.set 18 _ hc.pc.1 hc.pc.2
    have h3 := h2.set 19 (k % 4294967296) (by omega) (by omega)
    have h4 := h3.set 20 v v0 v1
    have h5 := h4.set 16 _ (hc.csr 4).1 (hc.csr 4).2
    have ep : M.pc (c.set 17 (M.ent (M.csr c 0))) = M.pc c := by
      unfold M.pc
      rw [List.getD_eq_getElem?_getD, List.getElem?_set, if_neg (by decide), List.getD_eq_getElem?_getD]
    have e4 : M.csr ((((c.set 17 (M.ent (M.csr c 0))).set 18 (M.pc c)).set 19 (k % 4294967296)).set 20 v) 4 = M.csr c 4 := by
      rw [M.csr_set h3 3 4 _ (by decide), if_neg (by decide), M.csr_set h2 2 4 _ (by decide), if_neg (by decide), M.csr_set h1 1 4 _ (by decide), if_neg (by decide), M.csr_set hc 0 4 _ (by decide), if_neg (by decide)]
    have C1 := Lib.hid fun w => rbField (M.csr c 0) 0 (M.csr c 0 % 2) w s.1 s.2 (by decide) (by decide) (by rw [show (2 : Int) ^ (0 : Int).toNat = 1 from rfl]; omega)
    have C2 := Lib.hid fun w => rbField (M.csr c 0) 1 (M.csr c 0 / 2 % 2) w s.1 s.2 (by decide) (by decide) (by rw [show (2 : Int) ^ (1 : Int).toNat = 2 from rfl])
    have C3 := Lib.hid fun w => rbPut (M.csr c 0) 0 4 (1 + 4 * (M.csr c 0 % 2) + 8 * (M.csr c 0 / 2 % 2)) (M.ent (M.csr c 0)) w s.1 s.2 (by omega) (by omega) (by decide) (by decide) (by decide) (by rw [M.I_04 _ _ s.1 s.2 (by omega) (by omega)]; unfold M.ent; omega)
    have q0 : w.cell? ⟨b0, 17, none⟩ = some (.int .u32 (M.csr c 0)) := r0.cell 17 (by rw [hc.len]; decide)
    have m0 : 0 ≤ M.csr c 0 % 2 ∧ M.csr c 0 % 2 ≤ 1 := by omega
    have i0 : 0 ≤ M.csr c 0 / 2 % 2 ∧ M.csr c 0 / 2 % 2 ≤ 1 := by omega
    have HP := Lib.hid ep
    have H4 := Lib.hid e4
    clear hk ep e4 re
    generalize M.enter c k v = d at *
    generalize M.ent (M.csr c 0) = z at *
    generalize M.csr c 0 % 2 = m at *
    generalize M.csr c 0 / 2 % 2 = i at *
    generalize M.pc c = p at *
    have x1 : IntKind.u32.wrap (4 * m) = 4 * m := by rw [IntKind.wrap_u32]; omega
    have x2 : IntKind.u32.wrap (1 + 4 * m) = 1 + 4 * m := by rw [IntKind.wrap_u32]; omega
    have x3 : IntKind.u32.wrap (8 * i) = 8 * i := by rw [IntKind.wrap_u32]; omega
    have x4 : IntKind.u32.wrap (1 + 4 * m + 8 * i) = 1 + 4 * m + 8 * i := by rw [IntKind.wrap_u32]; omega
    go_enter Try.func9, Try.ntmps9
    go_wp2_with ((with_reducible refine alloc29 (b := W.heap.size + 1 + 1) (size_alloc2 _ _ _) ?_ ?_); rfl; refine Hid.out ?_)
    refine Lib.hid ?_
    rw [← hw, ← hb2, ← hb1, ← hb0]
    clear hw hb0 hb1 hb2
    go_wp2_with (first
      | (go_at_call 18; (first | (with_reducible refine (C1.out _).mono ?_) | (with_reducible refine (C2.out _).mono ?_)); rintro e w1 ⟨rfl, d1⟩; replace r0 := r0.dn d1; replace r2 := r2.dn d1; replace HG := Lib.hid (HG.out.dn d1); replace HD := Lib.hid (HD.out.trans d1); clear d1)
      | (go_at_call 19; (with_reducible refine (C3.out _).mono ?_); rintro e w1 ⟨rfl, d1⟩; replace r0 := r0.dn d1; replace r2 := r2.dn d1; replace HG := Lib.hid (HG.out.dn d1); replace HD := Lib.hid (HD.out.trans d1); clear d1)
      | ((with_reducible refine store1 (i := 17) (u := z) r0 hc ?_ ?_ ?_ ?_ ?_); rfl; rfl; rfl; rfl; intro w2 r0' t2; refine Hid.out ?_))
    refine Lib.hid ?_
    replace r2 := r2.trn t2 n02.symm
    replace HG := Lib.hid (HG.out.trn t2 n01.symm)
    replace HD := Lib.hid (HD.out.trn HL.out.1 t2)
    have j5 : w2.cell? ⟨b0, 16, none⟩ = some (.int .u32 p) := by
      have h := r0'.cell 16 (by rw [h1.len]; decide)
      rw [← HP.out]
      exact h
    clear t2 r0 q0 j0 HP
    go_wp2_with ((with_reducible refine store1 (i := 18) (u := p) r0' h1 ?_ ?_ ?_ ?_ ?_); rfl; rfl; rfl; rfl; intro w3 r0 t2; refine Hid.out ?_)
    refine Lib.hid ?_
    replace r2 := r2.trn t2 n02.symm
    replace HG := Lib.hid (HG.out.trn t2 n01.symm)
    replace HD := Lib.hid (HD.out.trn HL.out.1 t2)
    have j0 : w3.cell? ⟨b1, 0, none⟩ = some (.int .i64 k) := HG.out.cell rfl
    clear t2 r0' j5
    go_wp2_with ((with_reducible refine store1 (i := 19) (u := k % 4294967296) r0 h2 ?_ ?_ ?_ ?_ ?_); rfl; rfl; rfl; rfl; intro w4 r0' t2; refine Hid.out ?_)
    refine Lib.hid ?_
    replace r2 := r2.trn t2 n02.symm
    replace HG := Lib.hid (HG.out.trn t2 n01.symm)
    replace HD := Lib.hid (HD.out.trn HL.out.1 t2)
    have j1 : w4.cell? ⟨b1, 1, none⟩ = some (.int .u32 v) := HG.out.cell rfl
    clear t2 r0 j0
    go_wp2_with ((with_reducible refine store1 (i := 20) (u := v) r0' h3 ?_ ?_ ?_ ?_ ?_); rfl; rfl; rfl; rfl; intro w5 r0 t2; refine Hid.out ?_)
    refine Lib.hid ?_
    replace r2 := r2.trn t2 n02.symm
    replace HD := Lib.hid (HD.out.trn HL.out.1 t2)
    have j4 : w5.cell? ⟨b0, 21, none⟩ = some (.int .u32 (M.csr c 4)) := by
      have h := r0.cell 21 (by rw [h4.len]; decide)
      rw [← H4.out]
      exact h
    clear t2 r0' j1 HG H4
    go_wp2_with ((with_reducible refine store1 (i := 16) (u := M.csr c 4) r0 h4 ?_ ?_ ?_ ?_ ?_); rfl; rfl; rfl; rfl; intro w6 r0' t2; refine Hid.out ?_)
    refine Lib.hid ?_
    replace r2 := r2.trn t2 n02.symm
    replace HD := Lib.hid (HD.out.trn HL.out.1 t2)
    clear t2 r0 j4
    rw [HE.out] at r0' h5
    go_wp2_with (first
      | ((with_reducible refine load29 r0' h5.len ?_ ?_ ?_); rfl; rfl)
      | ((with_reducible refine restore29 _ h5.len r2 core_zeros.len ?_ ?_ ?_ ?_); rfl; rfl; rfl; intro w7 r6 t6))
    exact ret29 rfl rfl r6 h5.len ⟨rfl, HD.out.trn HL.out.2 t6⟩ rfl
end Go.Proofs.Ytnbedmjchgfknaa
