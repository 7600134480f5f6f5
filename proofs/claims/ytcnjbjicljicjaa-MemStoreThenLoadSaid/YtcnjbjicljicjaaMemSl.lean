/-
  'gaolerlaw05.MemStoreThenLoad' returns true when called, and writes nothing that was there: contract over the translated program. No conditions beyond what the kinds of its parameters say.
-/
import Derived.Test.YtcnjbjicljicjaaMemOpen
namespace Go.Proofs.Ytcnjbjicljicjaa
open Go.ChangeShapes Go.WideShapes Go.ChangeAt Go.RowKit Go.Sort
open Go.Proofs.Ytcnjbjicljicjaa.M (By)
set_option linter.unusedVariables false

set_option maxRecDepth 100000 in
set_option maxHeartbeats 1000000 in
theorem sl_long (A : Option Addr) (c m : Nat) (a b v u : Int) (W : World) (hm : m ≤ 9223372036854775807) (h : 1000 < m ∨ m < 4) :
    Calls Try.prog 4 #[.slice A m c, .int .u32 a, .int .u32 b, .int .u32 v, .int .u32 u] W fun e W' => e = .returned (.bool true) ∧ Dn W W' := by
  by_cases h1 : (1000 : Int) < m
  · clear h
    go_enter Try.func4, Try.ntmps4
    go_wp2_with fail
    refine (awake W).mono ?_
    rintro e w1 ⟨rfl, d1⟩
    go_wp2_with fail
    refine (awake w1).mono ?_
    rintro e w2 ⟨rfl, d2⟩
    go_wp2
    go_ret
    exact ⟨rfl, d1.trans d2⟩
  · have h2 : (m : Int) < 4 := by omega
    clear h
    go_enter Try.func4, Try.ntmps4
    go_wp2_with fail
    refine (awake W).mono ?_
    rintro e w1 ⟨rfl, d1⟩
    go_wp2_with fail
    refine (awake w1).mono ?_
    rintro e w2 ⟨rfl, d2⟩
    go_wp2
    go_ret
    exact ⟨rfl, d1.trans d2⟩

theorem mod_letter (a l : Nat) (h : 4 ≤ l) : ∃ t : Nat, Hid ((a : Int) % ((l : Int) - 3) = (t : Int)) ∧ t + 4 ≤ l := by
  have hq := Nat.mod_lt a (show 0 < l - 3 by omega)
  refine ⟨a % (l - 3), Lib.hid ?_, by omega⟩
  rw [Int.natCast_emod]
  congr 1
  omega

theorem and255 (x : Int) (h0 : 0 ≤ x) (h : x < 4294967296) : bits .and .u32 x 255 = x % 256 := by
  obtain ⟨X, rfl⟩ := Int.eq_ofNat_of_zero_le h0
  have := u32_and_nat X 255 (by omega) (by decide)
  rw [show ((255 : Nat) : Int) = 255 from rfl] at this
  rw [this, show (255 : Nat) = 2 ^ 8 - 1 from rfl, Nat.and_two_pow_sub_one_eq_mod]
  omega

def SlRel (W0 : World) (xs : List Int) (t : Nat) (v : Int) (s i : Value) (w : World) : Prop :=
  ∃ k : Nat, k ≤ 4 ∧ i = .int .u32 (k : Int) ∧ (∃ A c, s = .slice A xs.length c ∧ Hid (Bs w A c (M.wr xs t (M.bytes v k)))) ∧ Hid (Dn W0 w)

set_option maxRecDepth 100000 in
set_option maxHeartbeats 4000000 in
theorem sl_short (A : Option Addr) (c : Nat) (xs : List Int) (a b : Nat) (v u : Int) (W : World) (hx : Hid (Bs W A c xs)) (hm : xs.length ≤ 1000) (hn : 4 ≤ xs.length) (ha : a < 4294967296) (hb : b < 4294967296) (hv0 : 0 ≤ v) (hv : v < 4294967296) (hu0 : 0 ≤ u) (hu : u < 4294967296) :
    Calls Try.prog 4 #[.slice A xs.length c, .int .u32 (a : Int), .int .u32 (b : Int), .int .u32 v, .int .u32 u] W fun e W' => e = .returned (.bool true) ∧ Dn W W' := by
  have h1 : ¬ (1000 : Int) < xs.length := by omega
  have h2 : ¬ (xs.length : Int) < 4 := by omega
  obtain ⟨t, HT, ht⟩ := mod_letter a xs.length hn
  obtain ⟨s, HQ, hs⟩ := mod_letter b xs.length hn
  have tm : t ≤ 1000 := by omega
  have sm : s ≤ 1000 := by omega
  have bl := M.bytes_len v 4
  have ul := M.bytes_len u 4
  obtain ⟨ps, eps⟩ : ∃ ps, M.wr xs t (M.bytes v 4) = ps := ⟨_, rfl⟩
  obtain ⟨qs, eqs⟩ : ∃ qs, M.wr xs t (M.bytes u 4) = qs := ⟨_, rfl⟩
  have LP : Hid (xs.length = ps.length) := Lib.hid (by rw [← eps, M.wr_len (by omega)])
  have LQ : Hid (xs.length = qs.length) := Lib.hid (by rw [← eqs, M.wr_len (by omega)])
  have E1 : Hid (M.st xs t 4 v = ps) := Lib.hid (by unfold M.st; rw [if_pos (by omega), eps])
  have E2 : Hid (M.ld ps t 4 = v) := Lib.hid (by
    unfold M.ld
    have h := M.rd_wr (xs := xs) (bs := M.bytes v 4) (a := t) (by omega)
    rw [bl, eps] at h
    rw [if_pos (by rw [← LP.out]; omega), h, M.leval_bytes4 hv0 hv])
  have E3 : Hid (M.st ps t 4 u = qs) := Lib.hid (by
    unfold M.st
    rw [if_pos (by rw [← LP.out]; omega), ← eps, M.wr_wr (by omega) (by omega), eqs])
  have E4 : Hid (M.st xs t 4 u = qs) := Lib.hid (by unfold M.st; rw [if_pos (by omega), eqs])
  obtain ⟨z, ez⟩ : ∃ z, M.ld xs s 4 = z := ⟨_, rfl⟩
  have E5 := Lib.hid ez
  have E6 : Hid (s + 4 ≤ t ∨ t + 4 ≤ s → M.ld ps s 4 = z) := Lib.hid (fun h => by
    rw [← ez]
    unfold M.ld
    rw [if_pos (by rw [← LP.out]; omega), if_pos (by omega), ← eps]
    rcases h with h | h
    · rw [M.rd_wr_before (by omega) h]
    · rw [M.rd_wr_after (by omega) (by omega)])
  have EPS := Lib.hid eps
  have HT4 := Lib.hid ht
  have HS4 := Lib.hid hs
  clear eps eqs ez bl ul ht hs
  go_enter Try.func4, Try.ntmps4
  go_wp2_with fail
  refine (awake W).mono ?_
  rintro e w1 ⟨rfl, d1⟩
  have D1 := Lib.hid d1
  have X1 := Lib.hid (hx.out.dn d1)
  clear d1 hx
  go_wp2_with fail
  rw [HT.out, HQ.out]
  clear HT HQ
  refine (store_at t 4 (ys := ps) (b := true) X1.out (by omega) (by omega) (by decide) (by decide) hv0 hv rfl rfl rfl E1.out (decide_eq_true HT4.out)).mono ?_
  rintro e w2 ⟨A2, c2, rfl, P2, d2⟩
  have X2 := Lib.hid (X1.out.dn d2.out)
  have D2 := Lib.hid (D1.out.trans d2.out)
  clear X1 D1 d2
  go_wp2_with fail
  refine (load_at t 4 (v := v) (b := true) P2.out (by have := LP.out; omega) (by omega) (by decide) (by decide) LP.out rfl rfl E2.out (decide_eq_true (by have := LP.out; have := HT4.out; omega))).mono ?_
  rintro e w3 ⟨rfl, rfl⟩
  go_wp2_with fail
  refine (store_at t 4 (ys := qs) (b := true) P2.out (by have := LP.out; omega) (by omega) (by decide) (by decide) hu0 hu LP.out rfl rfl E3.out (decide_eq_true (by have := LP.out; have := HT4.out; omega))).mono ?_
  rintro e w3 ⟨A3, c3, rfl, Q3, d3⟩
  have X3 := Lib.hid (X2.out.dn d3.out)
  have P3 := Lib.hid (P2.out.dn d3.out)
  have D3 := Lib.hid (D2.out.trans d3.out)
  clear X2 P2 D2 d3
  go_wp2_with fail
  refine (store_at t 4 (ys := qs) (b := true) X3.out (by omega) (by omega) (by decide) (by decide) hu0 hu rfl rfl rfl E4.out (decide_eq_true HT4.out)).mono ?_
  rintro e w4 ⟨A4, c4, rfl, R4, d4⟩
  have X4 := Lib.hid (X3.out.dn d4.out)
  have P4 := Lib.hid (P3.out.dn d4.out)
  have Q4 := Lib.hid (Q3.out.dn d4.out)
  have D4 := Lib.hid (D3.out.trans d4.out)
  clear X3 P3 D3 Q3 d4
  go_wp2_with fail
  refine (same_yes _ _ _ _ _ _ qs qs _ Q4.out R4.out LQ.out LQ.out rfl (by have := LQ.out; omega)).mono ?_
  rintro e w5 ⟨rfl, d5⟩
  have X5 := Lib.hid (X4.out.dn d5)
  have P5 := Lib.hid (P4.out.dn d5)
  have D5 := Lib.hid (D4.out.trans d5)
  clear X4 P4 D4 Q4 R4 d5 E1 E2 E3 E4 LQ
  have h3 : s + 4 ≤ t ∨ (¬ s + 4 ≤ t ∧ t + 4 ≤ s) ∨ (¬ s + 4 ≤ t ∧ ¬ t + 4 ≤ s) := by omega
  rcases h3 with h3 | ⟨h3, h4⟩ | ⟨h3, h4⟩
  focus
    have h5 : (s : Int) + 4 ≤ t := by omega
    have E7 := Lib.hid (E6.out (.inl h3))
    go_wp2_with fail
    refine (load_at s 4 (v := z) (b := true) P5.out (by have := LP.out; omega) (by omega) (by decide) (by decide) LP.out rfl rfl E7.out (decide_eq_true (by have := LP.out; have := HS4.out; omega))).mono ?_
    rintro e w6 ⟨rfl, rfl⟩
    go_wp2_with fail
    refine (load_at s 4 (v := z) (b := true) X5.out (by omega) (by omega) (by decide) (by decide) rfl rfl rfl E5.out (decide_eq_true HS4.out)).mono ?_
    rintro e w6 ⟨rfl, rfl⟩
    go_wp2_with fail
  rotate_left 1
  focus
    have h5 : ¬ (s : Int) + 4 ≤ t := by omega
    have h6 : (t : Int) + 4 ≤ s := by omega
    have E7 := Lib.hid (E6.out (.inr h4))
    go_wp2_with fail
    refine (load_at s 4 (v := z) (b := true) P5.out (by have := LP.out; omega) (by omega) (by decide) (by decide) LP.out rfl rfl E7.out (decide_eq_true (by have := LP.out; have := HS4.out; omega))).mono ?_
    rintro e w6 ⟨rfl, rfl⟩
    go_wp2_with fail
    refine (load_at s 4 (v := z) (b := true) X5.out (by omega) (by omega) (by decide) (by decide) rfl rfl rfl E5.out (decide_eq_true HS4.out)).mono ?_
    rintro e w6 ⟨rfl, rfl⟩
    go_wp2_with fail
  rotate_left 1
  focus
    have h5 : ¬ (s : Int) + 4 ≤ t := by omega
    have h6 : ¬ (t : Int) + 4 ≤ s := by omega
    go_wp2_with fail
  rotate_left 1
  all_goals
    clear E5 E6 HS4
    go_loopw [25, 26] (fun s' i w => SlRel w5 xs t v s' i w) (fun _ i _ => 4 - (intOf i).toNat)
    case atStart => exact ⟨0, by omega, rfl, ⟨A, c, rfl, Lib.hid (by rw [M.bytes, M.wr_nil]; exact X5.out)⟩, Lib.hid (Dn.refl _)⟩
    case round =>
      obtain ⟨k, hk, rfl, ⟨As, cs, rfl, hS⟩, hD⟩ := hrel
      have hkl := M.bytes_len v k
      have LW : Hid (xs.length = (M.wr xs t (M.bytes v k)).length) := Lib.hid (by rw [M.wr_len (by rw [hkl]; have := HT4.out; omega)])
      have PR := Lib.hid (P5.out.dn hD.out)
      by_cases hlt : k < 4
      · have hlt1 : (k : Int) < 4 := by omega
        obtain ⟨y, ey⟩ : ∃ y, v / 2 ^ (8 * k) % 256 = y := ⟨_, rfl⟩
        have hy0 : 0 ≤ y := by omega
        have hy1 : y ≤ 255 := by omega
        have HL : Hid (M.ld ps (t + k) 1 = y) := Lib.hid (by
          unfold M.ld
          rw [if_pos (by rw [← LP.out]; have := HT4.out; omega), ← EPS.out, M.rd_wr_in (by have := HT4.out; omega) (by rw [M.bytes_len]; exact hlt), M.bytes_at v 4 k hlt, ← M.pow256, ey]
          simp [M.leval])
        have hA : bits .and .u32 (v / 2 ^ (8 * k)) 255 = y := by
          rw [and255 _ (Int.ediv_nonneg hv0 (Int.le_of_lt (Int.pow_pos (by decide)))) (Int.lt_of_le_of_lt (Int.ediv_le_self _ hv0) hv), ey]
        have HE : Hid (M.st (M.wr xs t (M.bytes v k)) (t + k) 1 y = M.wr xs t (M.bytes v (k + 1))) := Lib.hid (by
          unfold M.st
          have e1 : M.bytes y 1 = [y] := by simp [M.bytes]; omega
          have e2 := M.wr_next (xs := xs) (bs := M.bytes v k) (a := t) y (by rw [hkl]; have := HT4.out; omega)
          rw [hkl] at e2
          rw [if_pos (by rw [← LW.out]; have := HT4.out; omega), e1, e2, ← ey, M.pow256]
          rfl)
        clear ey hkl
        go_wp2_with fail
        refine (load_at (t + k) 1 (v := y) (b := true) PR.out (by have := LP.out; omega) (by omega) (by decide) (by decide) LP.out (by omega) rfl HL.out (decide_eq_true (by have := LP.out; have := HT4.out; omega))).mono ?_
        rintro e w6 ⟨rfl, rfl⟩
        go_wp2_with fail
        refine (store_at (t + k) 1 (b := true) hS.out (by have := LW.out; omega) (by omega) (by decide) (by decide) hy0 (by omega) LW.out (by omega) rfl HE.out (decide_eq_true (by have := LW.out; have := HT4.out; omega))).mono ?_
        rintro e w6 ⟨A6, c6, rfl, S6, d6⟩
        have D6 := Lib.hid (hD.out.trans d6.out)
        clear d6
        go_wp2
        exact ⟨⟨k + 1, by omega, by go_num, ⟨A6, c6, rfl, S6⟩, D6⟩, by simp [intOf]; omega⟩
      · have hk4 : k = 4 := by omega
        subst hk4
        have hS2 : Hid (Bs _ As cs ps) := Lib.hid (by have h := hS.out; rw [EPS.out] at h; exact h)
        clear hS LW hkl
        go_wp2_with fail
        refine (same_yes _ _ _ _ _ _ ps ps _ hS2.out PR.out LP.out LP.out rfl (by have := LP.out; omega)).mono ?_
        rintro e w7 ⟨rfl, d7⟩
        have D7 := Lib.hid ((D5.out.trans hD.out).trans d7)
        clear d7
        go_wp2
        go_ret
        exact ⟨rfl, D7.out⟩

theorem sl (A : Option Addr) (c : Nat) (xs : List Int) (a b : Nat) (v u : Int) (W : World) (hx : Hid (Bs W A c xs)) (hm : xs.length ≤ 9223372036854775807) (ha : a < 4294967296) (hb : b < 4294967296) (hv0 : 0 ≤ v) (hv : v < 4294967296) (hu0 : 0 ≤ u) (hu : u < 4294967296) :
    Calls Try.prog 4 #[.slice A xs.length c, .int .u32 (a : Int), .int .u32 (b : Int), .int .u32 v, .int .u32 u] W fun e W' => e = .returned (.bool true) ∧ Dn W W' := by
  by_cases h : xs.length ≤ 1000 ∧ 4 ≤ xs.length
  · exact sl_short A c xs a b v u W hx h.1 h.2 ha hb hv0 hv hu0 hu
  · exact sl_long A c _ _ _ v u W hm (by omega)
end Go.Proofs.Ytcnjbjicljicjaa
