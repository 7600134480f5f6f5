/-
  What Store, Lay and Cut of package gaolerref05 return when called: contracts over the translated program. Conditions: the memories lie in memory and have at most 100000 bytes, cells have 1 to 4 bytes.
-/
import Derived.Test.YtcnjbjicljicjaaMemRefs
namespace Go.Proofs.Ytcnjbjicljicjaa
open Go.ChangeShapes Go.WideShapes Go.ChangeAt Go.RowKit Go.Sort
open Go.Proofs.Ytcnjbjicljicjaa.M (By)
set_option linter.unusedVariables false

theorem own_zero (W : World) : (W.alloc (Obj.cells #[] 5)).ownsRow W.heap.size 5 1 (.slice (some ⟨W.heap.size, 0, none⟩) 0 0) 0 [] :=
  ⟨rfl, .inr ⟨W.heap.size, 0, #[], rfl, Nat.le_refl _, heap_alloc_new W _, Nat.le_refl _, by decide, rfl, rfl⟩⟩
theorem own_shape {w : World} {base : Nat} {v : Value} {n : Nat} {xs : List Value} (h : w.ownsRow base 5 1 v n xs) (h0 : 0 < n) : ∃ g cap, v = .slice (some ⟨g, 0, none⟩) n cap ∧ base ≤ g ∧ ∀ j, w.frozen? ⟨g, j, none⟩ = false := by
  rcases h.2 with ⟨_, h1⟩ | ⟨g, cap, cur, rfl, hb, hg, _⟩
  · omega
  · exact ⟨g, cap, rfl, hb, fun j => frozen_of_row w g j cur _ hg⟩
theorem own_cell {w : World} {base g cap n : Nat} {ys : List Int} (h : w.ownsRow base 5 1 (.slice (some ⟨g, 0, none⟩) n cap) n (ys.map (Value.int .u8))) (j : Nat) (hj : j < ys.length) : w.cell? ⟨g, j, none⟩ = some (.int .u8 (ys.getD j 0)) := by
  have := h.cells (g := g) rfl j (.int .u8 (ys.getD j 0)) (by rw [List.getElem?_map, M.getD_at hj]; rfl)
  rw [add0] at this
  exact this
theorem own_put {W w : World} {g cap n : Nat} {ys : List Int} (h : w.ownsRow W.heap.size 5 1 (.slice (some ⟨g, 0, none⟩) n cap) n (ys.map (Value.int .u8))) (hd : Dn W w) (hg : W.heap.size ≤ g) (j : Nat) (x : Int) :
    (w.setCell ⟨g, j, none⟩ (.int .u8 x)).ownsRow W.heap.size 5 1 (.slice (some ⟨g, 0, none⟩) n cap) n ((ys.set j x).map (Value.int .u8)) ∧ Dn W (w.setCell ⟨g, j, none⟩ (.int .u8 x)) := by
  refine ⟨?_, hd.setCell hg _⟩
  rw [List.map_set]
  exact (h.stored j (.int .u8 x)).1

def RStoreRel (W : World) (v0 : Int) (r : Value) (xs : List Int) (a n : Nat) (v i : Value) (w : World) : Prop :=
  ∃ k : Nat, k ≤ n ∧ i = .int .i64 k ∧ v = .int .u32 (v0 / 256 ^ k) ∧ w.ownsRow W.heap.size 5 1 r xs.length ((M.wr xs a (M.bytes v0 k)).map (Value.int .u8)) ∧ Dn W w

set_option maxRecDepth 100000 in
set_option maxHeartbeats 1000000 in
theorem rstore_yes (A : Option Addr) (c : Nat) (xs : List Int) (a n : Nat) (v : Int) (W : World) (hx : Bs W A c xs) (hl : xs.length ≤ 100000) (hn : 1 ≤ n) (hn4 : n ≤ 4) (h : a + n ≤ xs.length) (hv0 : 0 ≤ v) (hv : v < 4294967296) :
    Calls Try.prog 12 #[.slice A xs.length c, .int .u32 (a : Int), .int .i64 (n : Int), .int .u32 v] W fun e W' => ∃ A' c', e = .returned (.tuple #[.slice A' xs.length c', .bool true]) ∧ Bs W' A' c' (M.wr xs a (M.bytes v n)) ∧ Dn W W' := by
  have C := there xs.length a n W (by omega) (by omega) (by omega)
  rw [decide_eq_true h] at C
  have HX := Lib.hid hx
  have OWN := Lib.hid (own_zero W)
  have D0 : Hid (Dn W (W.alloc (Obj.cells #[] 5))) := Lib.hid ((Dn.refl W).alloc _)
  clear hx
  go_enter Try.func12, Try.ntmps12
  go_wp2_with (first
    | (go_at_call 18; refine C.mono ?_; rintro e w1 ⟨rfl, rfl⟩)
    | (at_builtin; (refine wpList_append8 rfl _ _ rfl W.heap.size (.slice (some ⟨W.heap.size, 0, none⟩) 0 0) 0 [] rfl OWN.out A c xs rfl (HX.out.dn D0.out) (by omega) D0.out.size ?_); intro r w2 own1 gr1; have OWN1 := Lib.hid own1; have GR1 := Lib.hid gr1; clear own1 gr1))
  have hown : w2.ownsRow W.heap.size 5 1 r xs.length (xs.map (Value.int .u8)) := by simpa using OWN1.out
  have hd2 : Dn W w2 := below_keep D0.out GR1.out D0.out.size (fun q e => (OWN.out.lt q e).1)
  clear OWN1 GR1 OWN D0 C
  go_loopw [3, 11] (fun v' i w => RStoreRel W v r xs a n v' i w) (fun _ i _ => n - (intOf i).toNat)
  case atStart => exact ⟨0, Nat.zero_le _, rfl, by simp, by rw [M.bytes, M.wr_nil]; exact hown, hd2⟩
  case round =>
    obtain ⟨k, hk, rfl, rfl, hr, hd⟩ := hrel
    clear hown hd2
    have hbl := M.bytes_len v k
    have hwl : (M.wr xs a (M.bytes v k)).length = xs.length := M.wr_len (by omega)
    by_cases hlt : k < n
    · have hlt1 : (k : Int) < n := by omega
      obtain ⟨g, cap, rfl, hg, hfrs⟩ := own_shape hr (by omega)
      have hck := own_cell hr (a + k) (by omega)
      have hfr := hfrs (a + k)
      have HR := Lib.hid (own_put hr hd hg (a + k) (v / 256 ^ k % 256))
      have HE : Hid ((M.wr xs a (M.bytes v k)).set (a + k) (v / 256 ^ k % 256) = M.wr xs a (M.bytes v (k + 1))) := Lib.hid (by
        have := M.wr_step (xs := xs) (bs := M.bytes v k) (a := a) (v / 256 ^ k % 256) (by omega)
        rw [hbl] at this
        rw [this, M.bytes])
      have HQ : Hid (v / 256 ^ (k + 1) = v / 256 ^ k / 256) := Lib.hid (by rw [Int.pow_succ, Int.ediv_ediv_of_nonneg (Int.le_of_lt (Int.pow_pos (by decide)))])
      have hu0 : 0 ≤ v / 256 ^ k := Int.ediv_nonneg hv0 (Int.le_of_lt (Int.pow_pos (by decide)))
      have hu1 : v / 256 ^ k < 4294967296 := Int.lt_of_le_of_lt (Int.ediv_le_self _ hv0) hv
      clear hr hwl hbl hfrs
      have hi1 : (0 : Int) ≤ (a : Int) + k ∧ (a : Int) + k < xs.length := by omega
      generalize (M.wr xs a (M.bytes v k)).getD (a + k) 0 = old at *
      generalize v / 256 ^ k = u at *
      go_wp2
      exact ⟨⟨k + 1, by omega, by go_num, by rw [HQ.out], by rw [← HE.out]; exact HR.out.1, HR.out.2⟩, by simp [intOf]; omega⟩
    · have : k = n := by omega
      subst this
      obtain ⟨A', c', rfl, hb⟩ := Bs.of_own hwl.symm (HX.out.2.1.wr (M.bytes_by v k)) hr
      rw [hwl]
      have HB := Lib.hid hb
      clear hr hbl hwl hb
      go_wp2
      go_ret2
      exact ⟨_, _, rfl, HB.out, hd⟩

set_option maxRecDepth 100000 in
theorem rstore_no (A : Option Addr) (c : Nat) (xs : List Int) (a n : Nat) (v : Int) (W : World) (hl : xs.length ≤ 100000) (ha : a < 4294967296) (hn : 1 ≤ n) (hn4 : n ≤ 4) (h : ¬ a + n ≤ xs.length) :
    Calls Try.prog 12 #[.slice A xs.length c, .int .u32 (a : Int), .int .i64 (n : Int), .int .u32 v] W fun e W' => e = .returned (.tuple #[.slice A xs.length c, .bool false]) ∧ W = W' := by
  have C := there xs.length a n W (by omega) (by omega) (by omega)
  rw [decide_eq_false h] at C
  go_enter Try.func12, Try.ntmps12
  go_wp2_with (go_at_call 18; refine C.mono ?_; rintro e w1 ⟨rfl, rfl⟩)
  go_ret2
  exact ⟨rfl, rfl⟩
theorem rstore (A : Option Addr) (c : Nat) (xs : List Int) (a n : Nat) (v : Int) (W : World) (hx : Bs W A c xs) (hl : xs.length ≤ 100000) (ha : a < 4294967296) (hn : 1 ≤ n) (hn4 : n ≤ 4) (hv0 : 0 ≤ v) (hv : v < 4294967296) :
    Calls Try.prog 12 #[.slice A xs.length c, .int .u32 (a : Int), .int .i64 (n : Int), .int .u32 v] W fun e W' => ∃ A' c', e = .returned (.tuple #[.slice A' xs.length c', .bool (decide (a + n ≤ xs.length))]) ∧ Bs W' A' c' (M.st xs a n v) ∧ Dn W W' := by
  unfold M.st
  by_cases h : a + n ≤ xs.length
  · rw [if_pos h, decide_eq_true h]
    exact rstore_yes A c xs a n v W hx hl hn hn4 h hv0 hv
  · rw [if_neg h, decide_eq_false h]
    refine (rstore_no A c xs a n v W hl ha hn hn4 h).mono ?_
    rintro e w ⟨rfl, rfl⟩
    exact ⟨A, c, rfl, hx, Dn.refl _⟩

def LayRel (W : World) (r : Value) (xs bs : List Int) (a : Nat) (i : Value) (w : World) : Prop :=
  ∃ k : Nat, k ≤ bs.length ∧ i = .int .i64 k ∧ w.ownsRow W.heap.size 5 1 r xs.length ((M.wr xs a (bs.take k)).map (Value.int .u8)) ∧ Dn W w

set_option maxRecDepth 100000 in
set_option maxHeartbeats 1000000 in
theorem lay_yes (A B : Option Addr) (c d : Nat) (xs bs : List Int) (a : Nat) (W : World) (hx : Bs W A c xs) (hb : Bs W B d bs) (hl : xs.length ≤ 100000) (h : a + bs.length ≤ xs.length) :
    Calls Try.prog 14 #[.slice A xs.length c, .int .u32 (a : Int), .slice B bs.length d] W fun e W' => ∃ A' c', e = .returned (.tuple #[.slice A' xs.length c', .bool true]) ∧ Bs W' A' c' (M.wr xs a bs) ∧ Dn W W' := by
  have h1 : ¬ (xs.length : Int) - bs.length < a := by omega
  have hbl : bs.length ≤ 100000 := by omega
  have HX := Lib.hid hx
  have HB := Lib.hid hb
  have OWN := Lib.hid (own_zero W)
  have D0 : Hid (Dn W (W.alloc (Obj.cells #[] 5))) := Lib.hid ((Dn.refl W).alloc _)
  clear hx hb
  go_enter Try.func14, Try.ntmps14
  go_wp2_with (at_builtin; (refine wpList_append8 rfl _ _ rfl W.heap.size (.slice (some ⟨W.heap.size, 0, none⟩) 0 0) 0 [] rfl OWN.out A c xs rfl (HX.out.dn D0.out) (by omega) D0.out.size ?_); intro r w2 own1 gr1; have OWN1 := Lib.hid own1; have GR1 := Lib.hid gr1; clear own1 gr1)
  have hown : w2.ownsRow W.heap.size 5 1 r xs.length (xs.map (Value.int .u8)) := by simpa using OWN1.out
  have hd2 : Dn W w2 := below_keep D0.out GR1.out D0.out.size (fun q e => (OWN.out.lt q e).1)
  clear OWN1 GR1 OWN D0
  go_loopw [9] (fun i w => LayRel W r xs bs a i w) (fun i _ => bs.length - (intOf i).toNat)
  case atStart => exact ⟨0, Nat.zero_le _, rfl, by rw [List.take_zero, M.wr_nil]; exact hown, hd2⟩
  case round =>
    obtain ⟨k, hk, rfl, hr, hd⟩ := hrel
    clear hown hd2
    have htl : (bs.take k).length = k := by simp; omega
    have hwl : (M.wr xs a (bs.take k)).length = xs.length := M.wr_len (by omega)
    by_cases hlt : k < bs.length
    · have hlt1 : (k : Int) < bs.length := by omega
      obtain ⟨g, cap, rfl, hg, hfrs⟩ := own_shape hr (by omega)
      obtain ⟨bd, rfl, hbb, hcs⟩ := (HB.out.dn hd).cells (by omega)
      have hcb := hcs k hlt
      have hck := own_cell hr (a + k) (by omega)
      have hfr := hfrs (a + k)
      have HR := Lib.hid (own_put hr hd hg (a + k) (bs.getD k 0))
      have HE : Hid ((M.wr xs a (bs.take k)).set (a + k) (bs.getD k 0) = M.wr xs a (bs.take (k + 1))) := Lib.hid (by
        have := M.wr_step (xs := xs) (bs := bs.take k) (a := a) (bs.getD k 0) (by omega)
        rw [htl] at this
        rw [this, List.take_succ_eq_append_getElem hlt]
        simp [List.getD, hlt])
      clear hr hwl htl hfrs hcs
      have hi1 : (0 : Int) ≤ (a : Int) + k ∧ (a : Int) + k < xs.length := by omega
      generalize (M.wr xs a (bs.take k)).getD (a + k) 0 = old at *
      generalize bs.getD k 0 = x at *
      go_wp2
      exact ⟨⟨k + 1, by omega, by go_num, by rw [← HE.out]; exact HR.out.1, HR.out.2⟩, by simp [intOf]; omega⟩
    · have hkb : k = bs.length := by omega
      rw [List.take_of_length_le (by omega)] at hr hwl
      obtain ⟨A', c', rfl, hb⟩ := Bs.of_own hwl.symm (HX.out.2.1.wr HB.out.2.1) hr
      rw [hwl]
      have HZ := Lib.hid hb
      clear hr hwl hb htl
      go_wp2
      go_ret2
      exact ⟨_, _, rfl, HZ.out, hd⟩

set_option maxRecDepth 100000 in
theorem lay_no (A B : Option Addr) (c d : Nat) (xs bs : List Int) (a : Nat) (W : World) (hl : xs.length ≤ 100000) (hbl : bs.length ≤ 100000) (ha : a < 4294967296) (h : ¬ a + bs.length ≤ xs.length) :
    Calls Try.prog 14 #[.slice A xs.length c, .int .u32 (a : Int), .slice B bs.length d] W fun e W' => e = .returned (.tuple #[.slice A xs.length c, .bool false]) ∧ W = W' := by
  have h1 : (xs.length : Int) - bs.length < a := by omega
  go_enter Try.func14, Try.ntmps14
  go_wp2
  go_ret2
  exact ⟨rfl, rfl⟩
theorem lay (A B : Option Addr) (c d : Nat) (xs bs : List Int) (a : Nat) (W : World) (hx : Bs W A c xs) (hb : Bs W B d bs) (hl : xs.length ≤ 100000) (hbl : bs.length ≤ 100000) (ha : a < 4294967296) :
    Calls Try.prog 14 #[.slice A xs.length c, .int .u32 (a : Int), .slice B bs.length d] W fun e W' => ∃ A' c', e = .returned (.tuple #[.slice A' xs.length c', .bool (decide (a + bs.length ≤ xs.length))]) ∧ Bs W' A' c' (M.wa xs a bs) ∧ Dn W W' := by
  unfold M.wa
  by_cases h : a + bs.length ≤ xs.length
  · rw [if_pos h, decide_eq_true h]
    exact lay_yes A B c d xs bs a W hx hb hl h
  · rw [if_neg h, decide_eq_false h]
    refine (lay_no A B c d xs bs a W hl hbl ha h).mono ?_
    rintro e w ⟨rfl, rfl⟩
    exact ⟨A, c, rfl, hx, Dn.refl _⟩

def CutRel (W : World) (xs : List Int) (a n : Nat) (r i : Value) (w : World) : Prop :=
  ∃ k : Nat, k ≤ n ∧ i = .int .i64 k ∧ w.ownsRow W.heap.size 5 1 r k ((M.rd xs a k).map (Value.int .u8)) ∧ Dn W w
theorem one_bs (w : World) (x : Int) (h0 : 0 ≤ x) (h1 : x ≤ 255) : Bs (w.alloc (.cells #[.int .u8 x] 5)) (some ⟨w.heap.size, 0, none⟩) 1 [x] := by
  have h : Row (w.alloc (.cells (ints .u8 [x]) 5)) w.heap.size 5 .u8 [x] := Row.new w 5 .u8 [x]
  exact Bs.of_row h (fun y hy => by simp at hy; omega)

set_option maxRecDepth 100000 in
set_option maxHeartbeats 1000000 in
theorem cut_yes (A : Option Addr) (c : Nat) (xs : List Int) (a n : Nat) (W : World) (hx : Bs W A c xs) (hl : xs.length ≤ 100000) (h : a + n ≤ xs.length) :
    Calls Try.prog 16 #[.slice A xs.length c, .int .u32 (a : Int), .int .u32 (n : Int)] W fun e W' => ∃ A' c', e = .returned (.tuple #[.slice A' n c', .bool true]) ∧ Bs W' A' c' (M.rd xs a n) ∧ Dn W W' := by
  have h1 : ¬ (xs.length : Int) < a + n := by omega
  have HX := Lib.hid hx
  clear hx
  go_enter Try.func16, Try.ntmps16
  go_wp2
  go_loopw [8, 9] (fun r i w => CutRel W xs a n r i w) (fun _ i _ => n - (intOf i).toNat)
  case atStart => exact ⟨0, Nat.zero_le _, rfl, by rw [M.rd_zero]; exact World.ownsRow_nil _ _ _ _, Dn.refl _⟩
  case round =>
    obtain ⟨k, hk, rfl, hr, hd⟩ := hrel
    have hrl : (M.rd xs a k).length = k := M.rd_len (by omega)
    by_cases hlt : k < n
    · have hlt1 : (k : Int) < n := by omega
      obtain ⟨ad, rfl, hab, hcs⟩ := (HX.out.dn hd).cells (by omega)
      have hck := hcs (a + k) (by omega)
      have hx0 := (HX.out.2.1.getD (a + k)).1
      have hx1 := (HX.out.2.1.getD (a + k)).2
      have HE : Hid (M.rd xs a (k + 1) = M.rd xs a k ++ [xs.getD (a + k) 0]) := Lib.hid (M.rd_succ (by omega))
      clear hcs hrl
      have hi1 : (0 : Int) ≤ (a : Int) + k ∧ (a : Int) + k < xs.length := by omega
      generalize xs.getD (a + k) 0 = x at *
      have HO := Lib.hid hr
      have HD := Lib.hid hd
      clear hr hd
      go_wp2_with (at_builtin; (refine wpList_append8 rfl _ _ rfl W.heap.size _ k _ rfl (HO.out.alloc _) _ 1 [x] rfl (one_bs wr x hx0 hx1) (by simp; omega) (Nat.le_trans HD.out.size (by simp)) ?_); intro r2 w2 own1 gr1; have OWN1 := Lib.hid own1; have GR1 := Lib.hid gr1; clear own1 gr1)
      exact ⟨⟨k + 1, by omega, by go_num, by rw [HE.out, List.map_append]; simpa using OWN1.out, below_keep (HD.out.alloc _) GR1.out (Nat.le_trans HD.out.size (by simp)) (fun q e => (HO.out.lt q e).1)⟩, by simp [intOf]; omega⟩
    · have : k = n := by omega
      subst this
      obtain ⟨A', c', rfl, hb⟩ := Bs.of_own hrl.symm (HX.out.2.1.rd) hr
      rw [hrl]
      have HB := Lib.hid hb
      clear hr hrl hb
      go_wp2
      go_ret2
      exact ⟨_, _, rfl, HB.out, hd⟩

set_option maxRecDepth 100000 in
theorem cut_no (A : Option Addr) (c : Nat) (xs : List Int) (a n : Nat) (W : World) (hl : xs.length ≤ 100000) (ha : a < 4294967296) (hn : n < 4294967296) (h : ¬ a + n ≤ xs.length) :
    Calls Try.prog 16 #[.slice A xs.length c, .int .u32 (a : Int), .int .u32 (n : Int)] W fun e W' => e = .returned (.tuple #[.slice none 0 0, .bool false]) ∧ W = W' := by
  have h1 : (xs.length : Int) < a + n := by omega
  go_enter Try.func16, Try.ntmps16
  go_wp2
  go_ret2
  exact ⟨rfl, rfl⟩
theorem cut (A : Option Addr) (c : Nat) (xs : List Int) (a n : Nat) (W : World) (hx : Bs W A c xs) (hl : xs.length ≤ 100000) (ha : a < 4294967296) (hn : n < 4294967296) :
    Calls Try.prog 16 #[.slice A xs.length c, .int .u32 (a : Int), .int .u32 (n : Int)] W fun e W' => ∃ A' c', e = .returned (.tuple #[.slice A' (M.ra xs a n).length c', .bool (decide (a + n ≤ xs.length))]) ∧ Bs W' A' c' (M.ra xs a n) ∧ Dn W W' := by
  unfold M.ra
  by_cases h : a + n ≤ xs.length
  · rw [if_pos h, decide_eq_true h, M.rd_len h]
    exact cut_yes A c xs a n W hx hl h
  · rw [if_neg h, decide_eq_false h]
    refine (cut_no A c xs a n W hl ha hn h).mono ?_
    rintro e w ⟨rfl, rfl⟩
    exact ⟨none, 0, rfl, ⟨Nat.le_refl _, fun x hx => absurd hx (by simp), fun hx => absurd rfl hx⟩, Dn.refl _⟩
end Go.Proofs.Ytcnjbjicljicjaa
