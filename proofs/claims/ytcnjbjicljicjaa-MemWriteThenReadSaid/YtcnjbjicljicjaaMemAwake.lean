/-
  The contracts of package mem at numbers as a walk spells them, and what awake and size of the laws return when called: contracts over the translated program. No conditions on awake.
-/
import Derived.Test.YtcnjbjicljicjaaMemRefs2
namespace Go.Proofs.Ytcnjbjicljicjaa
open Go.ChangeShapes Go.WideShapes Go.ChangeAt Go.RowKit Go.Sort
open Go.Proofs.Ytcnjbjicljicjaa.M (By)
set_option linter.unusedVariables false

theorem load_at {A : Option Addr} {c len : Nat} {xs : List Int} {W : World} (a n : Nat) {a' n' v : Int} {b : Bool} (hx : Bs W A c xs) (hl : xs.length ≤ 100000) (ha : a < 4294967296) (hn : 1 ≤ n) (hn4 : n ≤ 4)
    (e1 : len = xs.length) (e2 : a' = (a : Int)) (e3 : n' = (n : Int)) (e4 : M.ld xs a n = v) (e5 : decide (a + n ≤ xs.length) = b) :
    Calls Try.prog 9 #[.slice A len c, .int .u32 a', .int .i64 n'] W fun e W' => e = .returned (.tuple #[.int .u32 v, .bool b]) ∧ W = W' := by
  subst e1 e2 e3 e4 e5
  exact load A c xs a n W hx hl ha hn hn4
theorem store_at {A : Option Addr} {c len : Nat} {xs ys : List Int} {W : World} (a n : Nat) {a' n' v : Int} {b : Bool} (hx : Bs W A c xs) (hl : xs.length ≤ 100000) (ha : a < 4294967296) (hn : 1 ≤ n) (hn4 : n ≤ 4) (hv0 : 0 ≤ v) (hv : v < 4294967296)
    (e1 : len = xs.length) (e2 : a' = (a : Int)) (e3 : n' = (n : Int)) (e4 : M.st xs a n v = ys) (e5 : decide (a + n ≤ xs.length) = b) :
    Calls Try.prog 11 #[.slice A len c, .int .u32 a', .int .i64 n', .int .u32 v] W fun e W' => ∃ A' c', e = .returned (.tuple #[.slice A' len c', .bool b]) ∧ Hid (Bs W' A' c' ys) ∧ Hid (Dn W W') := by
  subst e1 e2 e3 e4 e5
  exact store A c xs a n v W hx hl ha hn hn4 hv0 hv
theorem writeAt_at {A B : Option Addr} {c d len m : Nat} {xs bs ys : List Int} {W : World} (a : Nat) {a' : Int} {b : Bool} (hx : Bs W A c xs) (hb : Bs W B d bs) (hl : xs.length ≤ 100000) (hbl : bs.length ≤ 9223372036854775807) (ha : a < 4294967296)
    (e1 : len = xs.length) (e2 : a' = (a : Int)) (e3 : m = bs.length) (e4 : M.wa xs a bs = ys) (e5 : decide (a + bs.length ≤ xs.length) = b) :
    Calls Try.prog 13 #[.slice A len c, .int .u32 a', .slice B m d] W fun e W' => ∃ A' c', e = .returned (.tuple #[.slice A' len c', .bool b]) ∧ Hid (Bs W' A' c' ys) ∧ Hid (Dn W W') := by
  subst e1 e2 e3 e4 e5
  exact writeAt A B c d xs bs a W hx hb hl hbl ha
theorem readAt_at {A : Option Addr} {c len : Nat} {xs ys : List Int} {W : World} (a n : Nat) {a' n' : Int} {l : Nat} {b : Bool} (hx : Bs W A c xs) (hl : xs.length ≤ 100000) (ha : a < 4294967296) (hn : n < 4294967296)
    (e1 : len = xs.length) (e2 : a' = (a : Int)) (e3 : n' = (n : Int)) (e4 : M.ra xs a n = ys) (e5 : decide (a + n ≤ xs.length) = b) (e6 : l = ys.length) :
    Calls Try.prog 15 #[.slice A len c, .int .u32 a', .int .u32 n'] W fun e W' => ∃ A' c', e = .returned (.tuple #[.slice A' l c', .bool b]) ∧ Hid (Bs W' A' c' ys) ∧ Hid (Dn W W') := by
  subst e1 e2 e3 e4 e5 e6
  exact readAt A c xs a n W hx hl ha hn
theorem inRange_at {W : World} (s a n : Nat) {s' a' n' : Int} {b : Bool} (hs : s ≤ 9223372036854775807) (ha : a < 4294967296) (hn : 1 ≤ n) (hn4 : n ≤ 4)
    (e1 : s' = (s : Int)) (e2 : a' = (a : Int)) (e3 : n' = (n : Int)) (e5 : decide (a + n ≤ s) = b) :
    Calls Try.prog 17 #[.int .i64 s', .int .u32 a', .int .i64 n'] W fun e W' => e = .returned (.bool b) ∧ W = W' := by
  subst e1 e2 e3 e5
  exact inRange s a n W hs ha hn hn4
theorem lit_bs (w : World) (ys : List Int) (h : By ys) : Bs (w.alloc (.cells (ints .u8 ys) 5)) (some ⟨w.heap.size, 0, none⟩) ys.length ys := Bs.of_row (Row.new w 5 .u8 ys) h
theorem by_lit {ys : List Int} (h : (ys.all fun x => decide (0 ≤ x ∧ x ≤ 255)) = true) : By ys := fun x hx => by
  have := List.all_eq_true.1 h x hx
  exact of_decide_eq_true this

set_option maxRecDepth 100000 in
theorem size_ (b : Bool) (W : World) :
    Calls Try.prog 8 #[.bool b] W fun e W' => e = .returned (.int .i64 ((if b then 4 else 1 : Nat) : Int)) ∧ W = W' := by
  cases b
  · go_enter Try.func8, Try.ntmps8
    go_wp2
    go_ret
    exact ⟨rfl, rfl⟩
  · go_enter Try.func8, Try.ntmps8
    go_wp2
    go_ret
    exact ⟨rfl, rfl⟩

set_option maxRecDepth 100000 in
set_option maxHeartbeats 2000000 in
theorem awake (W : World) : Calls Try.prog 7 #[] W fun e W' => e = .returned (.bool true) ∧ Dn W W' := by
  have hm : Hid (Bs (W.alloc (.cells #[.int .u8 1, .int .u8 2, .int .u8 3, .int .u8 4, .int .u8 5] 5)) (some ⟨W.heap.size, 0, none⟩) 5 [1, 2, 3, 4, 5]) := Lib.hid (lit_bs W [1, 2, 3, 4, 5] (by_lit rfl))
  have hd : Hid (Dn W (W.alloc (.cells #[.int .u8 1, .int .u8 2, .int .u8 3, .int .u8 4, .int .u8 5] 5))) := Lib.hid ((Dn.refl W).alloc _)
  go_enter Try.func7, Try.ntmps7
  go_wp2_with fail
  generalize W.alloc (.cells #[.int .u8 1, .int .u8 2, .int .u8 3, .int .u8 4, .int .u8 5] 5) = w0 at *
  generalize (⟨W.heap.size, 0, none⟩ : Addr) = ad at *
  refine (load_at 1 4 (xs := [1, 2, 3, 4, 5]) (v := 84148994) (b := true) hm.out (by decide) (by decide) (by decide) (by decide) rfl rfl rfl (by rfl) (by rfl)).mono ?_
  rintro e w1 ⟨rfl, rfl⟩
  go_wp2_with fail
  refine (load_at 2 4 (xs := [1, 2, 3, 4, 5]) (v := 0) (b := false) hm.out (by decide) (by decide) (by decide) (by decide) rfl rfl rfl (by rfl) (by rfl)).mono ?_
  rintro e w2 ⟨rfl, rfl⟩
  go_wp2_with fail
  refine (store_at 0 4 (xs := [1, 2, 3, 4, 5]) (ys := [4, 3, 2, 1, 5]) (b := true) hm.out (by decide) (by decide) (by decide) (by decide) (by decide) (by decide) rfl rfl rfl (by rfl) (by rfl)).mono ?_
  rintro e w3 ⟨A3, c3, rfl, ha, d3⟩
  have hd3 := Lib.hid (hd.out.trans d3.out)
  have hm3 := Lib.hid (hm.out.dn d3.out)
  clear hm hd d3
  go_wp2_with fail
  refine (store_at 5 1 (xs := [1, 2, 3, 4, 5]) (ys := [1, 2, 3, 4, 5]) (b := false) hm3.out (by decide) (by decide) (by decide) (by decide) (by decide) (by decide) rfl rfl rfl (by rfl) (by rfl)).mono ?_
  rintro e w4 ⟨A4, c4, rfl, hb, d4⟩
  have hd4 := Lib.hid (hd3.out.trans d4.out)
  have hm4 := Lib.hid (hm3.out.dn d4.out)
  have ha4 := Lib.hid (ha.out.dn d4.out)
  clear hm3 hd3 ha d4
  go_wp2_with fail
  have dA : Hid (Dn w4 (w4.alloc (.cells #[.int .u8 9] 5))) := Lib.hid ((Dn.refl w4).alloc _)
  refine (writeAt_at 4 (xs := [1, 2, 3, 4, 5]) (bs := [9]) (ys := [1, 2, 3, 4, 9]) (b := true) (hm4.out.dn dA.out) (lit_bs w4 [9] (by_lit rfl)) (by decide) (by decide) (by decide) rfl rfl rfl (by rfl) (by rfl)).mono ?_
  rintro e w5 ⟨A5, c5, rfl, hc, d5⟩
  have d45 := Lib.hid (dA.out.trans d5.out)
  have hd5 := Lib.hid (hd4.out.trans d45.out)
  have hm5 := Lib.hid (hm4.out.dn d45.out)
  have ha5 := Lib.hid (ha4.out.dn d45.out)
  have hb5 := Lib.hid (hb.out.dn d45.out)
  clear hm4 hd4 ha4 hb d5 d45 dA
  go_wp2_with fail
  refine (readAt_at 1 2 (xs := [1, 2, 3, 4, 5]) (ys := [2, 3]) (l := 2) (b := true) hm5.out (by decide) (by decide) (by decide) rfl rfl rfl (by rfl) (by rfl) rfl).mono ?_
  rintro e w6 ⟨A6, c6, rfl, hD, d6⟩
  go_wp2_with fail
  refine (readAt_at 4 4294967295 (xs := [1, 2, 3, 4, 5]) (ys := []) (l := 0) (b := false) (hm5.out.dn d6.out) (by decide) (by decide) (by decide) rfl rfl rfl (by rfl) (by rfl) rfl).mono ?_
  rintro e w7 ⟨A7, c7, rfl, _, d7⟩
  have d57 := Lib.hid (d6.out.trans d7.out)
  have hd7 := Lib.hid (hd5.out.trans d57.out)
  have hm7 := Lib.hid (hm5.out.dn d57.out)
  have ha7 := Lib.hid (ha5.out.dn d57.out)
  have hb7 := Lib.hid (hb5.out.dn d57.out)
  have hc7 := Lib.hid (hc.out.dn d57.out)
  have hD7 := Lib.hid (hD.out.dn d7.out)
  clear hm5 hd5 ha5 hb5 hc hD d6 d7 d57
  go_wp2_with fail
  have dB : Hid (Dn w7 (w7.alloc (.cells #[.int .u8 4, .int .u8 3, .int .u8 2, .int .u8 1, .int .u8 5] 5))) := Lib.hid ((Dn.refl w7).alloc _)
  refine (same_yes _ _ _ _ _ _ [4, 3, 2, 1, 5] [4, 3, 2, 1, 5] _ (ha7.out.dn dB.out) (lit_bs w7 [4, 3, 2, 1, 5] (by_lit rfl)) rfl rfl rfl (by decide)).mono ?_
  rintro e w8 ⟨rfl, d8⟩
  have D8 : Hid (Dn w7 w8) := Lib.hid (dB.out.trans d8)
  clear dB d8
  go_wp2_with fail
  refine (same_yes _ _ _ _ _ _ [1, 2, 3, 4, 5] [1, 2, 3, 4, 5] _ (hb7.out.dn D8.out) (hm7.out.dn D8.out) rfl rfl rfl (by decide)).mono ?_
  rintro e w9 ⟨rfl, d9⟩
  have D9 : Hid (Dn w7 w9) := Lib.hid (D8.out.trans d9)
  clear D8 d9
  go_wp2_with fail
  have dC : Hid (Dn w9 (w9.alloc (.cells #[.int .u8 1, .int .u8 2, .int .u8 3, .int .u8 4, .int .u8 9] 5))) := Lib.hid ((Dn.refl w9).alloc _)
  refine (same_yes _ _ _ _ _ _ [1, 2, 3, 4, 9] [1, 2, 3, 4, 9] _ (hc7.out.dn (D9.out.trans dC.out)) (lit_bs w9 [1, 2, 3, 4, 9] (by_lit rfl)) rfl rfl rfl (by decide)).mono ?_
  rintro e w10 ⟨rfl, d10⟩
  have D10 : Hid (Dn w7 w10) := Lib.hid ((D9.out.trans dC.out).trans d10)
  clear D9 d10 dC
  go_wp2_with fail
  have dE : Hid (Dn w10 (w10.alloc (.cells #[.int .u8 2, .int .u8 3] 5))) := Lib.hid ((Dn.refl w10).alloc _)
  refine (same_yes _ _ _ _ _ _ [2, 3] [2, 3] _ (hD7.out.dn (D10.out.trans dE.out)) (lit_bs w10 [2, 3] (by_lit rfl)) rfl rfl rfl (by decide)).mono ?_
  rintro e w11 ⟨rfl, d11⟩
  have D11 : Hid (Dn W w11) := Lib.hid (hd7.out.trans ((D10.out.trans dE.out).trans d11))
  clear D10 d11 dE hd7 hm7 ha7 hb7 hc7 hD7
  go_wp2_with fail
  refine (inRange_at 4 0 4 (b := true) (by decide) (by decide) (by decide) (by decide) rfl rfl rfl rfl).mono ?_
  rintro e w12 ⟨rfl, rfl⟩
  go_wp2_with fail
  refine (inRange_at 4 4294967295 4 (b := false) (by decide) (by decide) (by decide) (by decide) rfl rfl rfl rfl).mono ?_
  rintro e w13 ⟨rfl, rfl⟩
  go_wp2
  go_ret
  exact ⟨rfl, D11.out⟩
end Go.Proofs.Ytcnjbjicljicjaa
