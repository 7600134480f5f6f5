/-
  What each function of package gaolerref05 returns when called: contracts over the translated program. Conditions: the memories lie in memory and have at most 100000 bytes, cells have 1 to 4 bytes.
-/
import Derived.Test.YtchekfipdhoejaaMemLoad
import Derived.Test.YtchekfipdhoejaaMemStore
namespace Go.Proofs.Ytchekfipdhoejaa
open Go.ChangeShapes Go.WideShapes Go.ChangeAt Go.RowKit Go.Sort
open Go.Proofs.Ytchekfipdhoejaa.M (By)
set_option linter.unusedVariables false

set_option maxRecDepth 100000 in
theorem there (s a n : Nat) (W : World) (hs : s ≤ 9223372036854775807) (ha : a < 4294967296) (hn : n ≤ 9223372036854775807) :
    Calls Try.prog 40 #[.int .i64 (s : Int), .int .u32 (a : Int), .int .i64 (n : Int)] W fun e W' => e = .returned (.bool (decide (a + n ≤ s))) ∧ W = W' := by
  by_cases h : a + n ≤ s
  · rw [decide_eq_true h]
    have h1 : (a : Int) ≤ s - n := by omega
    go_enter Try.func40, Try.ntmps40
    go_wp2
    go_ret
    exact ⟨rfl, rfl⟩
  · rw [decide_eq_false h]
    have h1 : ¬ (a : Int) ≤ s - n := by omega
    go_enter Try.func40, Try.ntmps40
    go_wp2
    go_ret
    exact ⟨rfl, rfl⟩

def SameRel (W : World) (xs ys : List Int) (i : Value) (w : World) : Prop :=
  ∃ k : Nat, k ≤ xs.length ∧ i = .int .i64 k ∧ xs.take k = ys.take k ∧ Dn W w

set_option maxRecDepth 100000 in
set_option maxHeartbeats 1000000 in
theorem same_len (A B : Option Addr) (c d : Nat) (xs ys : List Int) (W : World) (hx : Bs W A c xs) (hy : Bs W B d ys) (hl : xs.length = ys.length) (hn : xs.length ≤ 100000) :
    Calls Try.prog 22 #[.slice A xs.length c, .slice B ys.length d] W fun e W' => e = .returned (.bool (decide (xs = ys))) ∧ Dn W W' := by
  rw [← hl]
  have HL := Lib.hid hl
  clear hl
  go_enter Try.func22, Try.ntmps22
  go_wp2
  go_loopw [5] (fun i w => SameRel W xs ys i w) (fun i _ => xs.length - (intOf i).toNat)
  case atStart => exact ⟨0, Nat.zero_le _, rfl, rfl, Dn.refl _⟩
  case round =>
    obtain ⟨k, hk, rfl, he, hdn⟩ := hrel
    have hx := hx.dn hdn
    have hy := hy.dn hdn
    by_cases hlt : k < xs.length
    · have hlt1 : (k : Int) < xs.length := by omega
      have hly : k < ys.length := by have := HL.out; omega
      obtain ⟨ad, rfl, hab, hcs⟩ := hx.2.2 (by intro e; rw [e] at hlt; exact absurd hlt (by simp))
      obtain ⟨bd, rfl, hbb, hcs2⟩ := hy.2.2 (by intro e; rw [e] at hly; exact absurd hly (by simp))
      have hck := hcs k xs[k] (List.getElem?_eq_getElem hlt)
      have hck2 := hcs2 k ys[k] (List.getElem?_eq_getElem hly)
      have HE : Hid ((xs[k] = ys[k] → xs.take (k + 1) = ys.take (k + 1)) ∧ (xs[k] ≠ ys[k] → xs ≠ ys)) := Lib.hid ⟨fun e => by
        rw [List.take_succ_eq_append_getElem hlt, List.take_succ_eq_append_getElem hly, he, e], fun e e2 => e (by subst e2; rfl)⟩
      generalize xs[k] = x at *
      generalize ys[k] = y at *
      clear hcs hcs2 hx hy
      by_cases hxy : x = y
      · have HT := Lib.hid (HE.out.1 hxy)
        subst hxy
        clear HE
        go_wp2
        go_quiet (fail)
        go_wp2
        exact ⟨⟨k + 1, by omega, by go_num, HT.out, hdn.drewN _⟩, by simp [intOf]; omega⟩
      · have HF : Hid (decide (xs = ys) = false) := Lib.hid (decide_eq_false (HE.out.2 hxy))
        clear HE
        go_wp2
        go_quiet (fail)
        go_wp2
        go_ret
        exact ⟨by rw [HF.out]; rfl, hdn.drewN _⟩
    · go_wp2
      go_ret
      refine ⟨?_, hdn⟩
      have e1 : xs.take k = xs := List.take_of_length_le (by omega)
      have e2 : ys.take k = ys := List.take_of_length_le (by have := HL.out; omega)
      rw [decide_eq_true (by rw [← e1, ← e2]; exact he)]
      rfl

set_option maxRecDepth 100000 in
set_option maxHeartbeats 1000000 in
theorem same_no (A B : Option Addr) (c d m n : Nat) (W : World) (hl : m ≠ n) (hm : m ≤ 100000) (hn : n ≤ 9000000000000000000) :
    Calls Try.prog 22 #[.slice A m c, .slice B n d] W fun e W' => e = .returned (.bool false) ∧ Dn W W' := by
  have h2 : (m : Int) ≠ n := by omega
  go_enter Try.func22, Try.ntmps22
  go_wp2
  go_ret
  exact ⟨rfl, Dn.refl _⟩

theorem same (A B : Option Addr) (c d : Nat) (xs ys : List Int) (W : World) (hx : Bs W A c xs) (hy : Bs W B d ys) (hn : xs.length ≤ 100000) (hm : ys.length ≤ 100000) :
    Calls Try.prog 22 #[.slice A xs.length c, .slice B ys.length d] W fun e W' => e = .returned (.bool (decide (xs = ys))) ∧ Dn W W' := by
  by_cases hl : xs.length = ys.length
  · exact same_len A B c d xs ys W hx hy hl hn
  · rw [decide_eq_false (by intro e; rw [e] at hl; exact hl rfl)]
    exact same_no A B c d _ _ W hl hn (by omega)
/-- .. of equal lists -/
theorem same_yes (A B : Option Addr) (c d m n : Nat) (xs ys : List Int) (W : World) (hx : Bs W A c xs) (hy : Bs W B d ys) (hm : m = xs.length) (hn : n = ys.length) (h : xs = ys) (hl : xs.length ≤ 100000) :
    Calls Try.prog 22 #[.slice A m c, .slice B n d] W fun e W' => e = .returned (.bool true) ∧ Dn W W' := by
  subst hm hn h
  have := same A B c d xs xs W hx hy hl hl
  rw [decide_eq_true rfl] at this
  exact this

def RLoadRel (W : World) (xs : List Int) (a n : Nat) (v i : Value) (w : World) : Prop :=
  ((∃ m : Nat, m < n ∧ i = .int .i64 (m : Int) ∧ v = .int .u32 (M.leval (M.rd xs (a + m + 1) (n - m - 1)))) ∨ (i = .int .i64 (-1) ∧ v = .int .u32 (M.leval (M.rd xs a n)))) ∧ w = W

set_option maxRecDepth 100000 in
set_option maxHeartbeats 1000000 in
theorem rload_yes (A : Option Addr) (c : Nat) (xs : List Int) (a n : Nat) (W : World) (hx : Bs W A c xs) (hl : xs.length ≤ 100000) (hn : 1 ≤ n) (hn4 : n ≤ 4) (h : a + n ≤ xs.length) :
    Calls Try.prog 29 #[.slice A xs.length c, .int .u32 (a : Int), .int .i64 (n : Int)] W fun e W' => e = .returned (.tuple #[.int .u32 (M.leval (M.rd xs a n)), .bool true]) ∧ W = W' := by
  have C := there xs.length a n W (by omega) (by omega) (by omega)
  rw [decide_eq_true h] at C
  obtain ⟨ad, rfl, hab, hcs⟩ := hx.cells (by omega)
  have HC := Lib.hid hcs
  have HY := Lib.hid hx.2.1
  clear hx hcs
  go_enter Try.func29, Try.ntmps29
  go_wp2_with (go_at_call 40; refine C.mono ?_; rintro e w1 ⟨rfl, rfl⟩)
  clear C
  go_loopw [8, 9] (fun v i w => RLoadRel W xs a n v i w) (fun _ i _ => (intOf i + 1).toNat)
  case atStart => exact ⟨.inl ⟨n - 1, by omega, by go_num, by
    have e1 : n - (n - 1) - 1 = 0 := by omega
    rw [e1, M.rd_zero]; rfl⟩, rfl⟩
  case round =>
    obtain ⟨⟨m, hm, rfl, rfl⟩ | ⟨rfl, rfl⟩, rfl⟩ := hrel
    · have hck := HC.out (a + m) (by omega)
      have hx0 := (HY.out.getD (a + m)).1
      have hx1 := (HY.out.getD (a + m)).2
      have hu0 := (M.leval_range (HY.out.rd (a := a + m + 1) (n := n - m - 1))).1
      have hu1 := (M.leval_range (HY.out.rd (a := a + m + 1) (n := n - m - 1))).2
      rw [M.rd_len (by omega)] at hu1
      have hp : (256 : Int) ^ (n - m - 1) ≤ 16777216 := by
        have : (256 : Nat) ^ (n - m - 1) ≤ 256 ^ 3 := Nat.pow_le_pow_right (by decide) (by omega)
        have e : (256 : Int) ^ (n - m - 1) = ((256 ^ (n - m - 1) : Nat) : Int) := by simp
        rw [e]; omega
      have hu2 : M.leval (M.rd xs (a + m + 1) (n - m - 1)) ≤ 16777215 := by omega
      have HE : Hid (M.leval (M.rd xs (a + m) (n - m)) = M.leval (M.rd xs (a + m + 1) (n - m - 1)) * 256 + xs.getD (a + m) 0) := Lib.hid (by
        have e1 : n - m = (n - m - 1) + 1 := by omega
        rw [e1, M.rd_cons (by omega), M.leval, Nat.add_sub_cancel]; omega)
      clear hp hu1
      generalize xs.getD (a + m) 0 = x at *
      generalize M.leval (M.rd xs (a + m + 1) (n - m - 1)) = u at *
      have hi1 : (0 : Int) ≤ (a : Int) + m ∧ (a : Int) + m < xs.length := by omega
      go_wp2
      go_roundw
      case rel =>
        refine ⟨?_, rfl⟩
        by_cases h0 : m = 0
        · subst h0
          exact .inr ⟨rfl, by rw [← HE.out]; rfl⟩
        · refine .inl ⟨m - 1, by omega, by go_num, ?_⟩
          have e1 : a + (m - 1) + 1 = a + m := by omega
          have e2 : n - (m - 1) - 1 = n - m := by omega
          rw [e1, e2, HE.out]
      case measure => simp [intOf]
    · go_wp2
      go_ret2
      exact ⟨rfl, rfl⟩

set_option maxRecDepth 100000 in
theorem rload_no (A : Option Addr) (c : Nat) (xs : List Int) (a n : Nat) (W : World) (hl : xs.length ≤ 100000) (ha : a < 4294967296) (hn : 1 ≤ n) (hn4 : n ≤ 4) (h : ¬ a + n ≤ xs.length) :
    Calls Try.prog 29 #[.slice A xs.length c, .int .u32 (a : Int), .int .i64 (n : Int)] W fun e W' => e = .returned (.tuple #[.int .u32 0, .bool false]) ∧ W = W' := by
  have C := there xs.length a n W (by omega) (by omega) (by omega)
  rw [decide_eq_false h] at C
  go_enter Try.func29, Try.ntmps29
  go_wp2_with (go_at_call 40; refine C.mono ?_; rintro e w1 ⟨rfl, rfl⟩)
  go_ret2
  exact ⟨rfl, rfl⟩
theorem rload (A : Option Addr) (c : Nat) (xs : List Int) (a n : Nat) (W : World) (hx : Bs W A c xs) (hl : xs.length ≤ 100000) (ha : a < 4294967296) (hn : 1 ≤ n) (hn4 : n ≤ 4) :
    Calls Try.prog 29 #[.slice A xs.length c, .int .u32 (a : Int), .int .i64 (n : Int)] W fun e W' => e = .returned (.tuple #[.int .u32 (M.ld xs a n), .bool (decide (a + n ≤ xs.length))]) ∧ W = W' := by
  unfold M.ld
  by_cases h : a + n ≤ xs.length
  · rw [if_pos h, decide_eq_true h]
    exact rload_yes A c xs a n W hx hl hn hn4 h
  · rw [if_neg h, decide_eq_false h]
    exact rload_no A c xs a n W hl ha hn hn4 h
end Go.Proofs.Ytchekfipdhoejaa
