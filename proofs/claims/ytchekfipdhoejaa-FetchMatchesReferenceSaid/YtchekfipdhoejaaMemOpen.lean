/-
  The contracts of package gaolerref05 at numbers as a walk spells them, and a slice of bytes that came in: no statement of the program by itself.
-/
import Derived.Test.YtchekfipdhoejaaMemAwake
namespace Go.Proofs.Ytchekfipdhoejaa
open Go.ChangeShapes Go.WideShapes Go.ChangeAt Go.RowKit Go.Sort
open Go.Proofs.Ytchekfipdhoejaa.M (By)
set_option linter.unusedVariables false

/-- a slice of bytes that came in -/
theorem open_row {w : World} {a : Option Addr} {len cap : Nat} {zs : List Int} (h : (a = none ∧ len = 0 ∧ cap = 0 ∧ zs = []) ∨
  ∃ x, a = some x ∧ len ≤ cap ∧ cap ≤ maxLen ∧ zs.length = cap ∧ (∀ i, i < zs.length → w.cell? (x.add i) = some (.int .u8 (zs.getD i 0))) ∧ ∀ n ∈ zs, (Lit.int .u8 n).wf = true) :
    ∃ xs : List Int, len = xs.length ∧ Hid (Bs w a cap xs) ∧ xs.length ≤ 9223372036854775807 := by
  rcases h with ⟨rfl, rfl, rfl, rfl⟩ | ⟨x, rfl, hlc, hcm, hz, hc, hw⟩
  · exact ⟨[], rfl, Lib.hid ⟨Nat.le_refl _, fun x hx => absurd hx (by simp), fun hx => absurd rfl hx⟩, by simp⟩
  · have hl : (zs.take len).length = len := by simp; omega
    refine ⟨zs.take len, hl.symm, Lib.hid ⟨by omega, fun y hy => ?_, fun hx => ⟨x, rfl, ?_, fun j y hj => ?_⟩⟩, by unfold maxLen at hcm; omega⟩
    · have := hw y (List.mem_of_mem_take hy)
      have e1 : IntKind.u8.min = 0 := rfl
      have e2 : IntKind.u8.max = 255 := rfl
      simp [Lit.wf] at this
      omega
    · have h0 : 0 < zs.length := by
        rcases Nat.eq_zero_or_pos zs.length with h0 | h0
        · have : zs = [] := List.length_eq_zero_iff.1 h0
          subst this
          simp at hx
        · exact h0
      have := lt_of_cell (hc 0 h0)
      rwa [block_add] at this
    · have hjl := (List.getElem?_eq_some_iff.1 hj).1
      rw [List.getElem?_take, if_pos (by omega)] at hj
      have hj2 := (List.getElem?_eq_some_iff.1 hj).1
      rw [hc j hj2]
      rw [M.getD_at hj2] at hj
      cases hj
      rfl
/-- a word that came in -/
theorem open_word {a : Int} (h : (Lit.int .u32 a).wf = true) : ∃ n : Nat, a = (n : Int) ∧ n < 4294967296 := by
  have e1 : IntKind.u32.min = 0 := rfl
  have e2 : IntKind.u32.max = 4294967295 := rfl
  simp [Lit.wf] at h
  exact ⟨a.toNat, by omega, by omega⟩

theorem rload_at {A : Option Addr} {c len : Nat} {xs : List Int} {W : World} (a n : Nat) {a' n' v : Int} {b : Bool} (hx : Bs W A c xs) (hl : xs.length ≤ 100000) (ha : a < 4294967296) (hn : 1 ≤ n) (hn4 : n ≤ 4)
    (e1 : len = xs.length) (e2 : a' = (a : Int)) (e3 : n' = (n : Int)) (e4 : M.ld xs a n = v) (e5 : decide (a + n ≤ xs.length) = b) :
    Calls Try.prog 29 #[.slice A len c, .int .u32 a', .int .i64 n'] W fun e W' => e = .returned (.tuple #[.int .u32 v, .bool b]) ∧ W = W' := by
  subst e1 e2 e3 e4 e5
  exact rload A c xs a n W hx hl ha hn hn4
theorem rstore_at {A : Option Addr} {c len : Nat} {xs ys : List Int} {W : World} (a n : Nat) {a' n' v : Int} {b : Bool} (hx : Bs W A c xs) (hl : xs.length ≤ 100000) (ha : a < 4294967296) (hn : 1 ≤ n) (hn4 : n ≤ 4) (hv0 : 0 ≤ v) (hv : v < 4294967296)
    (e1 : len = xs.length) (e2 : a' = (a : Int)) (e3 : n' = (n : Int)) (e4 : M.st xs a n v = ys) (e5 : decide (a + n ≤ xs.length) = b) :
    Calls Try.prog 31 #[.slice A len c, .int .u32 a', .int .i64 n', .int .u32 v] W fun e W' => ∃ A' c', e = .returned (.tuple #[.slice A' len c', .bool b]) ∧ Hid (Bs W' A' c' ys) ∧ Hid (Dn W W') := by
  subst e1 e2 e3 e4 e5
  exact rstore A c xs a n v W hx hl ha hn hn4 hv0 hv
theorem there_at {W : World} (s a n : Nat) {s' a' n' : Int} {b : Bool} (hs : s ≤ 9223372036854775807) (ha : a < 4294967296) (hn : n ≤ 9223372036854775807)
    (e1 : s' = (s : Int)) (e2 : a' = (a : Int)) (e3 : n' = (n : Int)) (e5 : decide (a + n ≤ s) = b) :
    Calls Try.prog 40 #[.int .i64 s', .int .u32 a', .int .i64 n'] W fun e W' => e = .returned (.bool b) ∧ W = W' := by
  subst e1 e2 e3 e5
  exact there s a n W hs ha hn
end Go.Proofs.Ytchekfipdhoejaa
