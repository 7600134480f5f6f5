/-
  'gaolerlaw05.MemBytesAndWords' returns true when called, and writes nothing that was there: contract over the translated program. No conditions beyond what the kinds of its parameters say.
-/
import Derived.Test.YtcnjbjicljicjaaMemOpen
namespace Go.Proofs.Ytcnjbjicljicjaa
open Go.ChangeShapes Go.WideShapes Go.ChangeAt Go.RowKit Go.Sort
open Go.Proofs.Ytcnjbjicljicjaa.M (By)
set_option linter.unusedVariables false

set_option maxRecDepth 100000 in
set_option maxHeartbeats 1000000 in
theorem bw_long (A : Option Addr) (c m : Nat) (a v : Int) (W : World) (hm : m ≤ 9223372036854775807) (h : 1000 < m) :
    Calls Try.prog 6 #[.slice A m c, .int .u32 a, .int .u32 v] W fun e W' => e = .returned (.bool true) ∧ Dn W W' := by
  have h1 : (1000 : Int) < m := by omega
  go_enter Try.func6, Try.ntmps6
  go_wp2_with fail
  refine (awake W).mono ?_
  rintro e w1 ⟨rfl, d1⟩
  go_wp2_with fail
  refine (awake w1).mono ?_
  rintro e w2 ⟨rfl, d2⟩
  go_wp2
  go_ret
  exact ⟨rfl, d1.trans d2⟩

set_option maxRecDepth 100000 in
set_option maxHeartbeats 2000000 in
theorem bw_no (A : Option Addr) (c : Nat) (xs : List Int) (a t : Nat) (v : Int) (last : Bool) (W : World) (hx : Hid (Bs W A c xs)) (hm : xs.length ≤ 1000) (ha : a < 4294967296) (hv0 : 0 ≤ v) (hv : v < 4294967296) (h : ¬ a + 4 ≤ xs.length)
    (ht : t < 4294967296) (hta : Hid (((a : Int) + 3) % 4294967296 = (t : Int))) (hlast : Hid (decide (t + 1 ≤ xs.length) = last)) (hb : last = true → ¬ (a : Int) ≤ t) :
    Calls Try.prog 6 #[.slice A xs.length c, .int .u32 (a : Int), .int .u32 v] W fun e W' => e = .returned (.bool true) ∧ Dn W W' := by
  have h1 : ¬ (1000 : Int) < xs.length := by omega
  obtain ⟨s, hs⟩ : ∃ s, M.ld xs t 1 = s := ⟨_, rfl⟩
  have HS := Lib.hid hs
  have HN := Lib.hid h
  clear hs h
  go_enter Try.func6, Try.ntmps6
  go_wp2_with fail
  refine (awake W).mono ?_
  rintro e w1 ⟨rfl, d1⟩
  have D1 := Lib.hid d1
  have X1 := Lib.hid (hx.out.dn d1)
  clear d1 hx
  go_wp2_with fail
  refine (load_at a 4 (v := 0) (b := false) X1.out (by omega) ha (by decide) (by decide) rfl rfl rfl (by unfold M.ld; rw [if_neg HN.out]) (decide_eq_false HN.out)).mono ?_
  rintro e w2 ⟨rfl, rfl⟩
  go_wp2_with fail
  refine (load_at t 1 (v := s) (b := last) X1.out (by omega) ht (by decide) (by decide) rfl hta.out rfl HS.out hlast.out).mono ?_
  rintro e w2 ⟨rfl, rfl⟩
  have h3 : last = true → ¬ (a : Int) ≤ (a + 3) % 4294967296 := fun e => by rw [hta.out]; have := hb e; omega
  clear hb hlast hta HS
  cases last
  · clear h3
    go_wp2_with fail
    refine (inRange_at xs.length a 4 (b := false) (by omega) ha (by decide) (by decide) rfl rfl rfl (decide_eq_false HN.out)).mono ?_
    rintro e w2 ⟨rfl, rfl⟩
    go_wp2_with fail
    refine (store_at a 4 (ys := xs) (b := false) X1.out (by omega) ha (by decide) (by decide) hv0 hv rfl rfl rfl (by unfold M.st; rw [if_neg HN.out]) (decide_eq_false HN.out)).mono ?_
    rintro e w2 ⟨A2, c2, rfl, P2, d2⟩
    have X2 := Lib.hid (X1.out.dn d2.out)
    go_wp2_with fail
    refine (same_yes _ _ _ _ _ _ xs xs _ P2.out X2.out rfl rfl rfl (by omega)).mono ?_
    rintro e w3 ⟨rfl, d3⟩
    have D3 := Lib.hid ((D1.out.trans d2.out).trans d3)
    clear d3 X2 X1 P2 d2 D1
    go_wp2
    go_ret
    exact ⟨rfl, D3.out⟩
  · have h4 := h3 rfl
    clear h3
    go_wp2_with fail
    refine (inRange_at xs.length a 4 (b := false) (by omega) ha (by decide) (by decide) rfl rfl rfl (decide_eq_false HN.out)).mono ?_
    rintro e w2 ⟨rfl, rfl⟩
    go_wp2_with fail
    refine (store_at a 4 (ys := xs) (b := false) X1.out (by omega) ha (by decide) (by decide) hv0 hv rfl rfl rfl (by unfold M.st; rw [if_neg HN.out]) (decide_eq_false HN.out)).mono ?_
    rintro e w2 ⟨A2, c2, rfl, P2, d2⟩
    have X2 := Lib.hid (X1.out.dn d2.out)
    go_wp2_with fail
    refine (same_yes _ _ _ _ _ _ xs xs _ P2.out X2.out rfl rfl rfl (by omega)).mono ?_
    rintro e w3 ⟨rfl, d3⟩
    have D3 := Lib.hid ((D1.out.trans d2.out).trans d3)
    clear d3 X2 X1 P2 d2 D1
    go_wp2
    go_ret
    exact ⟨rfl, D3.out⟩

def BwRel (W0 : World) (xs : List Int) (a : Nat) (sum i : Value) (w : World) : Prop :=
  ∃ k : Nat, k ≤ 4 ∧ i = .int .u32 (k : Int) ∧ sum = .int .u32 (M.leval (M.rd xs (a + 4 - k) k)) ∧ w = W0

set_option maxRecDepth 100000 in
set_option maxHeartbeats 2000000 in
theorem bw_yes (A : Option Addr) (c : Nat) (xs : List Int) (a : Nat) (v : Int) (W : World) (hx : Hid (Bs W A c xs)) (hm : xs.length ≤ 1000) (hv0 : 0 ≤ v) (hv : v < 4294967296) (h : a + 4 ≤ xs.length) :
    Calls Try.prog 6 #[.slice A xs.length c, .int .u32 (a : Int), .int .u32 v] W fun e W' => e = .returned (.bool true) ∧ Dn W W' := by
  have h1 : ¬ (1000 : Int) < xs.length := by omega
  have ha : a ≤ 1000 := by omega
  obtain ⟨s, hs⟩ : ∃ s, M.ld xs a 4 = s := ⟨_, rfl⟩
  obtain ⟨s1, hs1⟩ : ∃ s, M.ld xs (a + 3) 1 = s := ⟨_, rfl⟩
  obtain ⟨ys, hys⟩ : ∃ s, M.st xs a 4 v = s := ⟨_, rfl⟩
  have HS := Lib.hid hs
  have HS1 := Lib.hid hs1
  have HYS := Lib.hid hys
  clear hs hs1 hys
  go_enter Try.func6, Try.ntmps6
  go_wp2_with fail
  refine (awake W).mono ?_
  rintro e w1 ⟨rfl, d1⟩
  have D1 := Lib.hid d1
  have X1 := Lib.hid (hx.out.dn d1)
  clear d1 hx
  go_wp2_with fail
  refine (load_at a 4 (v := s) (b := true) X1.out (by omega) (by omega) (by decide) (by decide) rfl rfl rfl HS.out (decide_eq_true h)).mono ?_
  rintro e w2 ⟨rfl, rfl⟩
  go_wp2_with fail
  refine (load_at (a + 3) 1 (v := s1) (b := true) X1.out (by omega) (by omega) (by decide) (by decide) rfl (by omega) rfl HS1.out (decide_eq_true (by omega))).mono ?_
  rintro e w2 ⟨rfl, rfl⟩
  clear HS1
  go_wp2_with fail
  refine (inRange_at xs.length a 4 (b := true) (by omega) (by omega) (by decide) (by decide) rfl rfl rfl (decide_eq_true h)).mono ?_
  rintro e w2 ⟨rfl, rfl⟩
  go_wp2_with fail
  refine (store_at a 4 (ys := ys) (b := true) X1.out (by omega) (by omega) (by decide) (by decide) hv0 hv rfl rfl rfl HYS.out (decide_eq_true h)).mono ?_
  rintro e w2 ⟨A2, c2, rfl, P2, d2⟩
  have X2 := Lib.hid (X1.out.dn d2.out)
  have D2 := Lib.hid (D1.out.trans d2.out)
  clear X1 D1 d2 P2
  go_wp2_with fail
  go_loopw [13, 14] (fun sum i w => BwRel w2 xs a sum i w) (fun _ i _ => 4 - (intOf i).toNat)
  case atStart => exact ⟨0, by omega, rfl, by rw [M.rd_zero]; rfl, rfl⟩
  case round =>
    obtain ⟨k, hk, rfl, rfl, rfl⟩ := hrel
    by_cases hlt : k < 4
    · have hlt1 : (k : Int) < 4 := by omega
      have hx0 := (X2.out.2.1.getD (a + 3 - k)).1
      have hx1 := (X2.out.2.1.getD (a + 3 - k)).2
      have hu0 := (M.leval_range (X2.out.2.1.rd (a := a + 4 - k) (n := k))).1
      have hu1 := (M.leval_range (X2.out.2.1.rd (a := a + 4 - k) (n := k))).2
      rw [M.rd_len (by omega)] at hu1
      have hp : (256 : Int) ^ k ≤ 16777216 := by
        have : (256 : Nat) ^ k ≤ 256 ^ 3 := Nat.pow_le_pow_right (by decide) (by omega)
        have e : (256 : Int) ^ k = ((256 ^ k : Nat) : Int) := by simp
        rw [e]; omega
      have hu2 : M.leval (M.rd xs (a + 4 - k) k) ≤ 16777215 := by omega
      have HE : Hid (M.leval (M.rd xs (a + 4 - (k + 1)) (k + 1)) = 256 * M.leval (M.rd xs (a + 4 - k) k) + xs.getD (a + 3 - k) 0) := Lib.hid (by
        have e1 : a + 4 - (k + 1) = a + 3 - k := by omega
        have e2 : a + 3 - k + 1 = a + 4 - k := by omega
        rw [e1, M.rd_cons (by omega), M.leval, e2]; omega)
      have HL : Hid (M.ld xs (a + 3 - k) 1 = xs.getD (a + 3 - k) 0) := Lib.hid (by
        unfold M.ld
        rw [if_pos (by omega), M.rd_one (by omega)]
        simp [M.leval])
      clear hp hu1
      generalize xs.getD (a + 3 - k) 0 = x at *
      generalize M.leval (M.rd xs (a + 4 - k) k) = u at *
      go_wp2_with fail
      refine (load_at (a + 3 - k) 1 (v := x) (b := true) X2.out (by omega) (by omega) (by decide) (by decide) rfl (by omega) rfl HL.out (decide_eq_true (by omega))).mono ?_
      rintro e w3 ⟨rfl, rfl⟩
      go_wp2
      exact ⟨⟨k + 1, by omega, by go_num, by rw [HE.out], rfl⟩, by simp [intOf]; omega⟩
    · have hk4 : k = 4 := by omega
      subst hk4
      have HE : Hid (M.leval (M.rd xs (a + 4 - 4) 4) = s) := Lib.hid (by rw [← HS.out]; unfold M.ld; rw [if_pos h, Nat.add_sub_cancel])
      rw [HE.out]
      clear HE
      go_wp2
      go_ret
      exact ⟨rfl, D2.out⟩

theorem bw (A : Option Addr) (c : Nat) (xs : List Int) (a : Nat) (v : Int) (W : World) (hx : Hid (Bs W A c xs)) (hm : xs.length ≤ 9223372036854775807) (ha : a < 4294967296) (hv0 : 0 ≤ v) (hv : v < 4294967296) :
    Calls Try.prog 6 #[.slice A xs.length c, .int .u32 (a : Int), .int .u32 v] W fun e W' => e = .returned (.bool true) ∧ Dn W W' := by
  by_cases h1 : xs.length ≤ 1000
  · by_cases h : a + 4 ≤ xs.length
    · exact bw_yes A c xs a v W hx h1 hv0 hv h
    · by_cases h2 : a + 3 < 4294967296
      · exact bw_no A c xs a (a + 3) v false W hx h1 ha hv0 hv h h2 (Lib.hid (by omega)) (Lib.hid (decide_eq_false (by omega))) (fun e => by cases e)
      · exact bw_no A c xs a (a + 3 - 4294967296) v _ W hx h1 ha hv0 hv h (by omega) (Lib.hid (by omega)) (Lib.hid rfl) (fun _ => by omega)
  · exact bw_long A c _ _ v W hm (by omega)
end Go.Proofs.Ytcnjbjicljicjaa
