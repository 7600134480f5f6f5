/-
  What Store, Lay and Cut of package gaolerref05 return when called: contracts over the translated program. Conditions: the memories lie in memory and have at most 100000 bytes, cells have 1 to 4 bytes.
-/
import Derived.Test.YtchekfipdhoejaaMemRefs
namespace Go.Proofs.Ytchekfipdhoejaa
open Go.ChangeShapes Go.WideShapes Go.ChangeAt Go.RowKit Go.Sort
open Go.Proofs.Ytchekfipdhoejaa.M (By)
set_option linter.unusedVariables false

theorem own_zero (W : World) : (W.alloc (Obj.cells #[] 5)).ownsRow W.heap.size 5 1 (.slice (some ⟨W.heap.size, 0, none⟩) 0 0) 0 [] :=
  ⟨rfl, .inr ⟨W.heap.size, 0, #[], rfl, Nat.le_refl _, heap_alloc_new W _, Nat.le_refl _, by decide, rfl, rfl⟩⟩
theorem own_shape {w : World} {base : Nat} {v : Value} {n : Nat} {xs : List Value} (h : w.ownsRow base 5 1 v n xs) (h0 : 0 < n) : ∃ g cap, v = .slice (some ⟨g, 0, none⟩) n cap ∧ base ≤ g ∧ ∀ j, w.frozen? ⟨g, j, none⟩ = false := by
  rcases h.2 with ⟨_, h1⟩ | ⟨g, cap, cur, rfl, hb, hg, _⟩
  · omega
  · exact ⟨g, cap, rfl, hb, fun j => frozen_of_row w g j cur _ hg⟩
theorem own_cell {w : World} {base g cap n : Nat} {ys : List Int} (h : w.ownsRow base 5 1 (.slice (some ⟨g, 0, none⟩) n cap) n (ys.map (Value.int .u8))) (j : Nat) (hj : j < ys.length) : w.cell? ⟨g, j, none⟩ = some (.int .u8 (ys.getD j 0)) := by
  have := h.cells (g := g) rfl j (.int .u8 (ys.getD j 0)) (by rw [List.getElem?_map, M.getD_at hj]; rfl)
  rw [add0] at this
  exact this
theorem own_put {W w : World} {g cap n : Nat} {ys : List Int} (h : w.ownsRow W.heap.size 5 1 (.slice (some ⟨g, 0, none⟩) n cap) n (ys.map (Value.int .u8))) (hd : Dn W w) (hg : W.heap.size ≤ g) (j : Nat) (x : Int) :
    (w.setCell ⟨g, j, none⟩ (.int .u8 x)).ownsRow W.heap.size 5 1 (.slice (some ⟨g, 0, none⟩) n cap) n ((ys.set j x).map (Value.int .u8)) ∧ Dn W (w.setCell ⟨g, j, none⟩ (.int .u8 x)) := by
  refine ⟨?_, hd.setCell hg _⟩
  rw [List.map_set]
  exact (h.stored j (.int .u8 x)).1

def RStoreRel (W : World) (v0 : Int) (r : Value) (xs : List Int) (a n : Nat) (v i : Value) (w : World) : Prop :=
  ∃ k : Nat, k ≤ n ∧ i = .int .i64 k ∧ v = .int .u32 (v0 / 256 ^ k) ∧ w.ownsRow W.heap.size 5 1 r xs.length ((M.wr xs a (M.bytes v0 k)).map (Value.int .u8)) ∧ Dn W w

set_option maxRecDepth 100000 in
set_option maxHeartbeats 1000000 in
theorem rstore_yes (A : Option Addr) (c : Nat) (xs : List Int) (a n : Nat) (v : Int) (W : World) (hx : Bs W A c xs) (hl : xs.length ≤ 100000) (hn : 1 ≤ n) (hn4 : n ≤ 4) (h : a + n ≤ xs.length) (hv0 : 0 ≤ v) (hv : v < 4294967296) :
    Calls Try.prog 31 #[.slice A xs.length c, .int .u32 (a : Int), .int .i64 (n : Int), .int .u32 v] W fun e W' => ∃ A' c', e = .returned (.tuple #[.slice A' xs.length c', .bool true]) ∧ Bs W' A' c' (M.wr xs a (M.bytes v n)) ∧ Dn W W' := by
  have C := there xs.length a n W (by omega) (by omega) (by omega)
  rw [decide_eq_true h] at C
  have HX := Lib.hid hx
  have OWN := Lib.hid (own_zero W)
  have D0 : Hid (Dn W (W.alloc (Obj.cells #[] 5))) := Lib.hid ((Dn.refl W).alloc _)
  clear hx
  go_enter Try.func31, Try.ntmps31
  go_wp2_with (first
    | (go_at_call 40; refine C.mono ?_; rintro e w1 ⟨rfl, rfl⟩)
    | (at_builtin; (refine wpList_append8 rfl _ _ rfl W.heap.size (.slice (some ⟨W.heap.size, 0, none⟩) 0 0) 0 [] rfl OWN.out A c xs rfl (HX.out.dn D0.out) (by omega) D0.out.size ?_); intro r w2 own1 gr1; have OWN1 := Lib.hid own1; have GR1 := Lib.hid gr1; clear own1 gr1))
  have hown : w2.ownsRow W.heap.size 5 1 r xs.length (xs.map (Value.int .u8)) := by simpa using OWN1.out
  have hd2 : Dn W w2 := below_keep D0.out GR1.out D0.out.size (fun q e => (OWN.out.lt q e).1)
  clear OWN1 GR1 OWN D0 C
  go_loopw [3, 11] (fun v' i w => RStoreRel W v r xs a n v' i w) (fun _ i _ => n - (intOf i).toNat)
  case atStart => exact ⟨0, Nat.zero_le _, rfl, by simp, by rw [M.bytes, M.wr_nil]; exact hown, hd2⟩
  case round =>
    obtain ⟨k, hk, rfl, rfl, hr, hd⟩ := hrel
    clear hown hd2
    have hbl := M.bytes_len v k
    have hwl : (M.wr xs a (M.bytes v k)).length = xs.length := M.wr_len (by omega)
    by_cases hlt : k < n
    · have hlt1 : (k : Int) < n := by omega
      obtain ⟨g, cap, rfl, hg, hfrs⟩ := own_shape hr (by omega)
      have hck := own_cell hr (a + k) (by omega)
      have hfr := hfrs (a + k)
      have HR := Lib.hid (own_put hr hd hg (a + k) (v / 256 ^ k % 256))
      have HE : Hid ((M.wr xs a (M.bytes v k)).set (a + k) (v / 256 ^ k % 256) = M.wr xs a (M.bytes v (k + 1))) := Lib.hid (by
        have := M.wr_step (xs := xs) (bs := M.bytes v k) (a := a) (v / 256 ^ k % 256) (by omega)
        rw [hbl] at this
        rw [this, M.bytes])
      have HQ : Hid (v / 256 ^ (k + 1) = v / 256 ^ k / 256) := Lib.hid (by rw [Int.pow_succ, Int.ediv_ediv_of_nonneg (Int.le_of_lt (Int.pow_pos (by decide)))])
      have hu0 : 0 ≤ v / 256 ^ k := Int.ediv_nonneg hv0 (Int.le_of_lt (Int.pow_pos (by decide)))
      have hu1 : v / 256 ^ k < 4294967296 := Int.lt_of_le_of_lt (Int.ediv_le_self _ hv0) hv
      clear hr hwl hbl hfrs
      have hi1 : (0 : Int) ≤ (a : Int) + k ∧ (a : Int) + k < xs.length := by omega
      generalize (M.wr xs a (M.bytes v k)).getD (a + k) 0 = old at *
      generalize v / 256 ^ k = u at *
      go_wp2
      exact ⟨⟨k + 1, by omega, by go_num, by rw [HQ.out], by rw [← HE.out]; exact HR.out.1, HR.out.2⟩, by simp [intOf]; omega⟩
    · have : k = n := by omega
      subst this
      obtain ⟨A', c', rfl, hb⟩ := Bs.of_own hwl.symm (HX.out.2.1.wr (M.bytes_by v k)) hr
      rw [hwl]
      have HB := Lib.hid hb
      clear hr hbl hwl hb
      go_wp2
      go_ret2
      exact ⟨_, _, rfl, HB.out, hd⟩

set_option maxRecDepth 100000 in
theorem rstore_no (A : Option Addr) (c : Nat) (xs : List Int) (a n : Nat) (v : Int) (W : World) (hl : xs.length ≤ 100000) (ha : a < 4294967296) (hn : 1 ≤ n) (hn4 : n ≤ 4) (h : ¬ a + n ≤ xs.length) :
    Calls Try.prog 31 #[.slice A xs.length c, .int .u32 (a : Int), .int .i64 (n : Int), .int .u32 v] W fun e W' => e = .returned (.tuple #[.slice A xs.length c, .bool false]) ∧ W = W' := by
  have C := there xs.length a n W (by omega) (by omega) (by omega)
  rw [decide_eq_false h] at C
  go_enter Try.func31, Try.ntmps31
  go_wp2_with (go_at_call 40; refine C.mono ?_; rintro e w1 ⟨rfl, rfl⟩)
  go_ret2
  exact ⟨rfl, rfl⟩
theorem rstore (A : Option Addr) (c : Nat) (xs : List Int) (a n : Nat) (v : Int) (W : World) (hx : Bs W A c xs) (hl : xs.length ≤ 100000) (ha : a < 4294967296) (hn : 1 ≤ n) (hn4 : n ≤ 4) (hv0 : 0 ≤ v) (hv : v < 4294967296) :
    Calls Try.prog 31 #[.slice A xs.length c, .int .u32 (a : Int), .int .i64 (n : Int), .int .u32 v] W fun e W' => ∃ A' c', e = .returned (.tuple #[.slice A' xs.length c', .bool (decide (a + n ≤ xs.length))]) ∧ Bs W' A' c' (M.st xs a n v) ∧ Dn W W' := by
  unfold M.st
  by_cases h : a + n ≤ xs.length
  · rw [if_pos h, decide_eq_true h]
    exact rstore_yes A c xs a n v W hx hl hn hn4 h hv0 hv
  · rw [if_neg h, decide_eq_false h]
    refine (rstore_no A c xs a n v W hl ha hn hn4 h).mono ?_
    rintro e w ⟨rfl, rfl⟩
    exact ⟨A, c, rfl, hx, Dn.refl _⟩

def LayRel (W : World) (r : Value) (xs bs : List Int) (a : Nat) (i : Value) (w : World) : Prop :=
  ∃ k : Nat, k ≤ bs.length ∧ i = .int .i64 k ∧ w.ownsRow W.heap.size 5 1 r xs.length ((M.wr xs a (bs.take k)).map (Value.int .u8)) ∧ Dn W w

def CutRel (W : World) (xs : List Int) (a n : Nat) (r i : Value) (w : World) : Prop :=
  ∃ k : Nat, k ≤ n ∧ i = .int .i64 k ∧ w.ownsRow W.heap.size 5 1 r k ((M.rd xs a k).map (Value.int .u8)) ∧ Dn W w
theorem one_bs (w : World) (x : Int) (h0 : 0 ≤ x) (h1 : x ≤ 255) : Bs (w.alloc (.cells #[.int .u8 x] 5)) (some ⟨w.heap.size, 0, none⟩) 1 [x] := by
  have h : Row (w.alloc (.cells (ints .u8 [x]) 5)) w.heap.size 5 .u8 [x] := Row.new w 5 .u8 [x]
  exact Bs.of_row h (fun y hy => by simp at hy; omega)

end Go.Proofs.Ytchekfipdhoejaa
