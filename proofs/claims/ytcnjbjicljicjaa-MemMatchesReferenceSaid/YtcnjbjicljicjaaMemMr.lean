/-
  'gaolerlaw05.MemMatchesReference' returns true when called, and writes nothing that was there: contract over the translated program. No conditions beyond what the kinds of its parameters say.
-/
import Derived.Test.YtcnjbjicljicjaaMemOpen
namespace Go.Proofs.Ytcnjbjicljicjaa
open Go.ChangeShapes Go.WideShapes Go.ChangeAt Go.RowKit Go.Sort
open Go.Proofs.Ytcnjbjicljicjaa.M (By)
set_option linter.unusedVariables false

set_option maxRecDepth 100000 in
set_option maxHeartbeats 1000000 in
theorem mr_long (A B : Option Addr) (c d m n : Nat) (a v k : Int) (wide : Bool) (W : World) (hm : m ≤ 9223372036854775807) (hn : n ≤ 9223372036854775807) (h : 1000 < m ∨ 1000 < n) :
    Calls Try.prog 3 #[.slice A m c, .int .u32 a, .bool wide, .int .u32 v, .slice B n d, .int .u32 k] W fun e W' => e = .returned (.bool true) ∧ Dn W W' := by
  by_cases h1 : (1000 : Int) < m
  · clear h
    go_enter Try.func3, Try.ntmps3
    go_wp2_with fail
    refine (awake W).mono ?_
    rintro e w1 ⟨rfl, d1⟩
    go_wp2_with fail
    refine (awake w1).mono ?_
    rintro e w2 ⟨rfl, d2⟩
    go_wp2
    go_ret
    exact ⟨rfl, d1.trans d2⟩
  · have h2 : (1000 : Int) < n := by omega
    clear h
    go_enter Try.func3, Try.ntmps3
    go_wp2_with fail
    refine (awake W).mono ?_
    rintro e w1 ⟨rfl, d1⟩
    go_wp2_with fail
    refine (awake w1).mono ?_
    rintro e w2 ⟨rfl, d2⟩
    go_wp2
    go_ret
    exact ⟨rfl, d1.trans d2⟩

set_option maxRecDepth 100000 in
set_option maxHeartbeats 4000000 in
theorem mr_short (A B : Option Addr) (c d : Nat) (xs bs : List Int) (a k : Nat) (v : Int) (wide : Bool) (W : World) (hx : Hid (Bs W A c xs)) (hb : Hid (Bs W B d bs)) (hm : xs.length ≤ 1000) (hn : bs.length ≤ 1000) (ha : a < 4294967296) (hk : k < 4294967296) (hv0 : 0 ≤ v) (hv : v < 4294967296) :
    Calls Try.prog 3 #[.slice A xs.length c, .int .u32 (a : Int), .bool wide, .int .u32 v, .slice B bs.length d, .int .u32 (k : Int)] W fun e W' => e = .returned (.bool true) ∧ Dn W W' := by
  have h1 : ¬ (1000 : Int) < xs.length := by omega
  have h2 : ¬ (1000 : Int) < bs.length := by omega
  have C0 := size_ wide
  obtain ⟨n, hn1, hn4, hne⟩ : ∃ n : Nat, 1 ≤ n ∧ n ≤ 4 ∧ (if wide then 4 else 1 : Nat) = n := ⟨_, by split <;> decide, by split <;> decide, rfl⟩
  rw [hne] at C0
  clear hne
  obtain ⟨b1, e1⟩ : ∃ b, decide (a + n ≤ xs.length) = b := ⟨_, rfl⟩
  obtain ⟨b2, e2⟩ : ∃ b, decide (a + bs.length ≤ xs.length) = b := ⟨_, rfl⟩
  obtain ⟨b3, e3⟩ : ∃ b, decide (a + k ≤ xs.length) = b := ⟨_, rfl⟩
  obtain ⟨x, e4⟩ : ∃ x, M.ld xs a n = x := ⟨_, rfl⟩
  obtain ⟨ys, e5⟩ : ∃ ys, M.st xs a n v = ys := ⟨_, rfl⟩
  obtain ⟨zs, e6⟩ : ∃ ys, M.wa xs a bs = ys := ⟨_, rfl⟩
  obtain ⟨us, e7⟩ : ∃ ys, M.ra xs a k = ys := ⟨_, rfl⟩
  have L5 : Hid (xs.length = ys.length) := Lib.hid (by rw [← e5, M.st_len])
  have L6 : Hid (xs.length = zs.length) := Lib.hid (by rw [← e6, M.wa_len])
  have L7 : Hid (us.length ≤ 100000) := Lib.hid (by
    rw [← e7]
    unfold M.ra
    split
    · rw [M.rd_len (by assumption)]; omega
    · simp)
  obtain ⟨l7, e8⟩ : ∃ l, l = us.length := ⟨_, rfl⟩
  have E1 := Lib.hid e1
  have E2 := Lib.hid e2
  have E3 := Lib.hid e3
  have E4 := Lib.hid e4
  have E5 := Lib.hid e5
  have E6 := Lib.hid e6
  have E7 := Lib.hid e7
  have E8 := Lib.hid e8
  clear e1 e2 e3 e4 e5 e6 e7 e8
  go_enter Try.func3, Try.ntmps3
  go_wp2_with fail
  refine (awake W).mono ?_
  rintro e w1 ⟨rfl, d1⟩
  have D1 := Lib.hid d1
  have X1 := Lib.hid (hx.out.dn d1)
  have B1 := Lib.hid (hb.out.dn d1)
  clear d1 hx hb
  go_wp2_with fail
  refine (C0 w1).mono ?_
  rintro e w2 ⟨rfl, rfl⟩
  go_wp2_with fail
  refine (load_at a n X1.out (by omega) ha hn1 hn4 rfl rfl rfl E4.out E1.out).mono ?_
  rintro e w3 ⟨rfl, rfl⟩
  go_wp2_with fail
  refine (rload_at a n X1.out (by omega) ha hn1 hn4 rfl rfl rfl E4.out E1.out).mono ?_
  rintro e w4 ⟨rfl, rfl⟩
  go_wp2_with fail
  refine (store_at a n X1.out (by omega) ha hn1 hn4 hv0 hv rfl rfl rfl E5.out E1.out).mono ?_
  rintro e w2 ⟨A2, c2, rfl, P2, d2⟩
  have X2 := Lib.hid (X1.out.dn d2.out)
  have B2 := Lib.hid (B1.out.dn d2.out)
  have D2 := Lib.hid (D1.out.trans d2.out)
  clear X1 B1 D1 d2
  go_wp2_with fail
  refine (rstore_at a n X2.out (by omega) ha hn1 hn4 hv0 hv rfl rfl rfl E5.out E1.out).mono ?_
  rintro e w3 ⟨A3, c3, rfl, Q3, d3⟩
  have X3 := Lib.hid (X2.out.dn d3.out)
  have B3 := Lib.hid (B2.out.dn d3.out)
  have D3 := Lib.hid (D2.out.trans d3.out)
  have P3 := Lib.hid (P2.out.dn d3.out)
  clear X2 B2 D2 d3 P2
  go_wp2_with fail
  refine (writeAt_at a X3.out B3.out (by omega) (by omega) ha rfl rfl rfl E6.out E2.out).mono ?_
  rintro e w4 ⟨A4, c4, rfl, R4, d4⟩
  have X4 := Lib.hid (X3.out.dn d4.out)
  have B4 := Lib.hid (B3.out.dn d4.out)
  have D4 := Lib.hid (D3.out.trans d4.out)
  have P4 := Lib.hid (P3.out.dn d4.out)
  have Q4 := Lib.hid (Q3.out.dn d4.out)
  clear X3 B3 D3 d4 P3 Q3
  go_wp2_with fail
  refine (lay_at a X4.out B4.out (by omega) (by omega) ha rfl rfl rfl E6.out E2.out).mono ?_
  rintro e w5 ⟨A5, c5, rfl, S5, d5⟩
  have X5 := Lib.hid (X4.out.dn d5.out)
  have D5 := Lib.hid (D4.out.trans d5.out)
  have P5 := Lib.hid (P4.out.dn d5.out)
  have Q5 := Lib.hid (Q4.out.dn d5.out)
  have R5 := Lib.hid (R4.out.dn d5.out)
  clear X4 B4 D4 d5 P4 Q4 R4
  go_wp2_with fail
  refine (readAt_at a k (l := l7) X5.out (by omega) ha hk rfl rfl rfl E7.out E3.out E8.out).mono ?_
  rintro e w6 ⟨A6, c6, rfl, T6, d6⟩
  have X6 := Lib.hid (X5.out.dn d6.out)
  have D6 := Lib.hid (D5.out.trans d6.out)
  have P6 := Lib.hid (P5.out.dn d6.out)
  have Q6 := Lib.hid (Q5.out.dn d6.out)
  have R6 := Lib.hid (R5.out.dn d6.out)
  have S6 := Lib.hid (S5.out.dn d6.out)
  clear X5 D5 d6 P5 Q5 R5 S5
  go_wp2_with fail
  refine (cut_at a k (l := l7) X6.out (by omega) ha hk rfl rfl rfl E7.out E3.out E8.out).mono ?_
  rintro e w7 ⟨A7, c7, rfl, U7, d7⟩
  have D7 := Lib.hid (D6.out.trans d7.out)
  have P7 := Lib.hid (P6.out.dn d7.out)
  have Q7 := Lib.hid (Q6.out.dn d7.out)
  have R7 := Lib.hid (R6.out.dn d7.out)
  have S7 := Lib.hid (S6.out.dn d7.out)
  have T7 := Lib.hid (T6.out.dn d7.out)
  clear X6 D6 d7 P6 Q6 R6 S6 T6
  go_wp2_with fail
  refine (inRange_at xs.length a n (by omega) ha hn1 hn4 rfl rfl rfl E1.out).mono ?_
  rintro e w8 ⟨rfl, rfl⟩
  go_wp2_with fail
  refine (there_at xs.length a n (by omega) ha (by omega) rfl rfl rfl E1.out).mono ?_
  rintro e w8 ⟨rfl, rfl⟩
  go_wp2_with fail
  refine (same_yes _ _ _ _ _ _ ys ys _ P7.out Q7.out L5.out L5.out rfl (by have := L5.out; omega)).mono ?_
  rintro e w8 ⟨rfl, d8⟩
  have D8 := Lib.hid (D7.out.trans d8)
  have R8 := Lib.hid (R7.out.dn d8)
  have S8 := Lib.hid (S7.out.dn d8)
  have T8 := Lib.hid (T7.out.dn d8)
  have U8 := Lib.hid (U7.out.dn d8)
  clear D7 R7 S7 T7 U7 d8 P7 Q7
  go_wp2_with fail
  refine (same_yes _ _ _ _ _ _ zs zs _ R8.out S8.out L6.out L6.out rfl (by have := L6.out; omega)).mono ?_
  rintro e w9 ⟨rfl, d9⟩
  have D9 := Lib.hid (D8.out.trans d9)
  have T9 := Lib.hid (T8.out.dn d9)
  have U9 := Lib.hid (U8.out.dn d9)
  clear D8 R8 S8 T8 U8 d9
  go_wp2_with fail
  refine (same_yes _ _ _ _ _ _ us us _ T9.out U9.out E8.out E8.out rfl L7.out).mono ?_
  rintro e w10 ⟨rfl, d10⟩
  have D10 := Lib.hid (D9.out.trans d10)
  clear D9 T9 U9 d10
  go_wp2
  go_ret
  exact ⟨rfl, D10.out⟩

theorem mr (A B : Option Addr) (c d : Nat) (xs bs : List Int) (a k : Nat) (v : Int) (wide : Bool) (W : World) (hx : Hid (Bs W A c xs)) (hb : Hid (Bs W B d bs)) (hm : xs.length ≤ 9223372036854775807) (hn : bs.length ≤ 9223372036854775807) (ha : a < 4294967296) (hk : k < 4294967296) (hv0 : 0 ≤ v) (hv : v < 4294967296) :
    Calls Try.prog 3 #[.slice A xs.length c, .int .u32 (a : Int), .bool wide, .int .u32 v, .slice B bs.length d, .int .u32 (k : Int)] W fun e W' => e = .returned (.bool true) ∧ Dn W W' := by
  by_cases h : xs.length ≤ 1000 ∧ bs.length ≤ 1000
  · exact mr_short A B c d xs bs a k v wide W hx hb h.1 h.2 ha hk hv0 hv
  · exact mr_long A B c d _ _ _ v _ wide W hm hn (by omega)
end Go.Proofs.Ytcnjbjicljicjaa
