/-
  What each function of package mem returns when called: contracts over the translated program. Conditions: the memories lie in memory and have at most 100000 bytes, cells have 1 to 4 bytes.
-/
import Derived.Test.YtchekfipdhoejaaMemBase
namespace Go.Proofs.Ytchekfipdhoejaa
open Go.ChangeShapes Go.WideShapes Go.ChangeAt Go.RowKit Go.Sort
open Go.Proofs.Ytchekfipdhoejaa.M (By)
set_option linter.unusedVariables false

set_option maxRecDepth 100000 in
theorem fits (s a n : Int) (W : World) (hs0 : 0 ≤ s) (hs : s ≤ 9223372036854775807) (ha0 : 0 ≤ a) (ha : a ≤ 9223372036854775807) :
    Calls Try.prog 45 #[.int .i64 s, .int .i64 a, .int .i64 n] W fun e W' => e = .returned (.bool (decide (a + n ≤ s ∧ a ≤ s))) ∧ W = W' := by
  by_cases h1 : a ≤ s
  · by_cases h2 : n ≤ s - a
    · rw [show decide (a + n ≤ s ∧ a ≤ s) = true from decide_eq_true ⟨by omega, h1⟩]
      go_enter Try.func45, Try.ntmps45
      go_wp2
      go_ret
      exact ⟨rfl, rfl⟩
    · rw [show decide (a + n ≤ s ∧ a ≤ s) = false from decide_eq_false (by omega)]
      go_enter Try.func45, Try.ntmps45
      go_wp2
      go_ret
      exact ⟨rfl, rfl⟩
  · rw [show decide (a + n ≤ s ∧ a ≤ s) = false from decide_eq_false (by omega)]
    go_enter Try.func45, Try.ntmps45
    go_wp2
    go_ret
    exact ⟨rfl, rfl⟩

/-- the cell lies within the memory -/
theorem inRange (s a n : Nat) (W : World) (hs : s ≤ 9223372036854775807) (ha : a < 4294967296) (hn : 1 ≤ n) (hn4 : n ≤ 4) :
    Calls Try.prog 39 #[.int .i64 (s : Int), .int .u32 (a : Int), .int .i64 (n : Int)] W fun e W' => e = .returned (.bool (decide (a + n ≤ s))) ∧ W = W' := by
  have e : decide ((a : Int) + n ≤ s ∧ (a : Int) ≤ s) = decide (a + n ≤ s) := decide_eq_decide.2 ⟨fun h => by omega, fun h => by omega⟩
  have C := fits s a n W (by omega) (by omega) (by omega) (by omega)
  rw [e] at C
  generalize decide (a + n ≤ s) = b at *
  clear e
  go_enter Try.func39, Try.ntmps39
  go_wp2_with fail
  refine C.mono ?_
  rintro e w1 ⟨rfl, rfl⟩
  go_wp2
  go_ret
  exact ⟨rfl, rfl⟩

set_option maxRecDepth 100000 in
set_option maxHeartbeats 1000000 in
/-- a memory of its own with the same bytes -/
theorem clone (A : Option Addr) (c : Nat) (xs : List Int) (W : World) (hx : Bs W A c xs) (hn : xs.length ≤ 100000) :
    Calls Try.prog 41 #[.slice A xs.length c] W fun e W' => e = .returned (.slice (some ⟨W.heap.size, 0, none⟩) xs.length xs.length) ∧ Row W' W.heap.size 5 .u8 xs ∧ Dn W W' := by
  have HD : Hid (Dn W _) := Lib.hid ((Dn.refl W).alloc (.cells (ints .u8 (List.replicate xs.length 0)) 5))
  have HR := Lib.hid (Row.new W 5 .u8 (List.replicate xs.length 0))
  have HX := Lib.hid (hx.dn HD.out)
  clear hx
  go_enter Try.func41, Try.ntmps41
  go_wp2_with (first
    | ((with_reducible refine wpList_make8 hn ?_ ?_ ?_ ?_); rfl; rfl; rfl)
    | ((with_reducible refine wpList_copy8 (off := 0) (dp := some ⟨W.heap.size, 0, none⟩) (dLen := xs.length) (dCap := xs.length) HR HX HD (Lib.hid (Nat.le_refl W.heap.size)) (Lib.hid (by simp)) (Lib.hid (Nat.le_refl xs.length)) (Lib.hid (fun _ => rfl)) ?_ ?_ ?_); rfl; rfl; intro w1 H1 B1))
  rw [M.wr_full _ _ (by simp)] at H1
  go_wp2
  go_ret
  exact ⟨rfl, H1.out, B1.out⟩

end Go.Proofs.Ytchekfipdhoejaa
