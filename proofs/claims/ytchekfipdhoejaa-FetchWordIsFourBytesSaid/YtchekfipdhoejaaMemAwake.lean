/-
  The contracts of package mem at numbers as a walk spells them, and what awake and size of the laws return when called: contracts over the translated program. No conditions on awake.
-/
import Derived.Test.YtchekfipdhoejaaMemRefs2
namespace Go.Proofs.Ytchekfipdhoejaa
open Go.ChangeShapes Go.WideShapes Go.ChangeAt Go.RowKit Go.Sort
open Go.Proofs.Ytchekfipdhoejaa.M (By)
set_option linter.unusedVariables false

theorem load_at {A : Option Addr} {c len : Nat} {xs : List Int} {W : World} (a n : Nat) {a' n' v : Int} {b : Bool} (hx : Bs W A c xs) (hl : xs.length ≤ 100000) (ha : a < 4294967296) (hn : 1 ≤ n) (hn4 : n ≤ 4)
    (e1 : len = xs.length) (e2 : a' = (a : Int)) (e3 : n' = (n : Int)) (e4 : M.ld xs a n = v) (e5 : decide (a + n ≤ xs.length) = b) :
    Calls Try.prog 28 #[.slice A len c, .int .u32 a', .int .i64 n'] W fun e W' => e = .returned (.tuple #[.int .u32 v, .bool b]) ∧ W = W' := by
  subst e1 e2 e3 e4 e5
  exact load A c xs a n W hx hl ha hn hn4
theorem store_at {A : Option Addr} {c len : Nat} {xs ys : List Int} {W : World} (a n : Nat) {a' n' v : Int} {b : Bool} (hx : Bs W A c xs) (hl : xs.length ≤ 100000) (ha : a < 4294967296) (hn : 1 ≤ n) (hn4 : n ≤ 4) (hv0 : 0 ≤ v) (hv : v < 4294967296)
    (e1 : len = xs.length) (e2 : a' = (a : Int)) (e3 : n' = (n : Int)) (e4 : M.st xs a n v = ys) (e5 : decide (a + n ≤ xs.length) = b) :
    Calls Try.prog 30 #[.slice A len c, .int .u32 a', .int .i64 n', .int .u32 v] W fun e W' => ∃ A' c', e = .returned (.tuple #[.slice A' len c', .bool b]) ∧ Hid (Bs W' A' c' ys) ∧ Hid (Dn W W') := by
  subst e1 e2 e3 e4 e5
  exact store A c xs a n v W hx hl ha hn hn4 hv0 hv
theorem inRange_at {W : World} (s a n : Nat) {s' a' n' : Int} {b : Bool} (hs : s ≤ 9223372036854775807) (ha : a < 4294967296) (hn : 1 ≤ n) (hn4 : n ≤ 4)
    (e1 : s' = (s : Int)) (e2 : a' = (a : Int)) (e3 : n' = (n : Int)) (e5 : decide (a + n ≤ s) = b) :
    Calls Try.prog 39 #[.int .i64 s', .int .u32 a', .int .i64 n'] W fun e W' => e = .returned (.bool b) ∧ W = W' := by
  subst e1 e2 e3 e5
  exact inRange s a n W hs ha hn hn4
theorem lit_bs (w : World) (ys : List Int) (h : By ys) : Bs (w.alloc (.cells (ints .u8 ys) 5)) (some ⟨w.heap.size, 0, none⟩) ys.length ys := Bs.of_row (Row.new w 5 .u8 ys) h
theorem by_lit {ys : List Int} (h : (ys.all fun x => decide (0 ≤ x ∧ x ≤ 255)) = true) : By ys := fun x hx => by
  have := List.all_eq_true.1 h x hx
  exact of_decide_eq_true this

end Go.Proofs.Ytchekfipdhoejaa
