/-
  What Load of package mem returns when called: contract over the translated program. Conditions: the memory lies in memory and has at most 100000 bytes, cells have 1 to 4 bytes.
-/
import Derived.Test.YtchekfipdhoejaaMemCalls
namespace Go.Proofs.Ytchekfipdhoejaa
open Go.ChangeShapes Go.WideShapes Go.ChangeAt Go.RowKit Go.Sort
open Go.Proofs.Ytchekfipdhoejaa.M (By)
set_option linter.unusedVariables false

def LoadRel (W : World) (xs : List Int) (a n : Nat) (v i : Value) (w : World) : Prop :=
  ∃ k : Nat, k ≤ n ∧ i = .int .i64 k ∧ v = .int .u32 (M.leval (M.rd xs a k)) ∧ w = W

set_option maxRecDepth 100000 in
set_option maxHeartbeats 1000000 in
theorem load_yes (A : Option Addr) (c : Nat) (xs : List Int) (a n : Nat) (W : World) (hx : Bs W A c xs) (hl : xs.length ≤ 100000) (hn : 1 ≤ n) (hn4 : n ≤ 4) (h : a + n ≤ xs.length) :
    Calls Try.prog 28 #[.slice A xs.length c, .int .u32 (a : Int), .int .i64 (n : Int)] W fun e W' => e = .returned (.tuple #[.int .u32 (M.leval (M.rd xs a n)), .bool true]) ∧ W = W' := by
  have C := inRange xs.length a n W (by omega) (by omega) hn hn4
  rw [decide_eq_true h] at C
  have hla : a ≤ xs.length := by omega
  have HX := Lib.hid hx
  have hlc := hx.1
  clear hx
  go_enter Try.func28, Try.ntmps28
  go_wp2_with (first
    | (go_at_call 39; refine C.mono ?_; rintro e w1 ⟨rfl, rfl⟩)
    | ((with_reducible refine wpList_from (A := A) (len := xs.length) (c := c) (l := a) (k := .u32) hla hlc ?_ ?_ ?_ ?_); rfl; rfl; rfl; intro A' hA'))
  have hB := HX.out.drop hla hA'
  obtain ⟨ad, rfl, hab, hcs⟩ := hB.cells (by simp; omega)
  have HC := Lib.hid hcs
  have HY := Lib.hid HX.out.2.1
  clear hcs hB hA' HX C
  go_loopw [9, 21] (fun v i w => LoadRel W xs a n v i w) (fun _ i _ => n - (intOf i).toNat)
  case atStart => exact ⟨0, Nat.zero_le _, rfl, by simp [M.rd_zero, M.leval], rfl⟩
  case round =>
    obtain ⟨k, hk, rfl, rfl, rfl⟩ := hrel
    by_cases hlt : k < n
    · have hlt1 : (k : Int) < n := by omega
      have hck : wr.cell? (ad.add k) = some (.int .u8 (xs.getD (a + k) 0)) := by
        have := HC.out k (by simp; omega)
        rw [this]
        simp [List.getD]
      have hx0 := (HY.out.getD (a + k)).1
      have hx1 := (HY.out.getD (a + k)).2
      have hu0 := (M.leval_range (HY.out.rd (a := a) (n := k))).1
      have hu1 := (M.leval_range (HY.out.rd (a := a) (n := k))).2
      rw [M.rd_len (by omega)] at hu1
      have HE : Hid (M.leval (M.rd xs a (k + 1)) = M.leval (M.rd xs a k) + 256 ^ k * xs.getD (a + k) 0) := Lib.hid (by rw [M.rd_succ (by omega), M.leval_snoc, M.rd_len (by omega)])
      generalize xs.getD (a + k) 0 = x at *
      generalize M.leval (M.rd xs a k) = u at *
      have HO : Hid (bits .or .u32 u (x * 2 ^ (8 * k) % 4294967296) = u + 256 ^ k * x) := Lib.hid (M.or_byte u x k hu0 hu1 hx0 hx1 (by omega))
      go_wp2
      exact ⟨⟨k + 1, by omega, by go_num, by rw [HE.out, HO.out], rfl⟩, by simp [intOf]; omega⟩
    · have : k = n := by omega
      subst this
      go_wp2
      go_ret2
      exact ⟨rfl, rfl⟩

set_option maxRecDepth 100000 in
theorem load_no (A : Option Addr) (c : Nat) (xs : List Int) (a n : Nat) (W : World) (hl : xs.length ≤ 100000) (ha : a < 4294967296) (hn : 1 ≤ n) (hn4 : n ≤ 4) (h : ¬ a + n ≤ xs.length) :
    Calls Try.prog 28 #[.slice A xs.length c, .int .u32 (a : Int), .int .i64 (n : Int)] W fun e W' => e = .returned (.tuple #[.int .u32 0, .bool false]) ∧ W = W' := by
  have C := inRange xs.length a n W (by omega) (by omega) hn hn4
  rw [decide_eq_false h] at C
  go_enter Try.func28, Try.ntmps28
  go_wp2_with (go_at_call 39; refine C.mono ?_; rintro e w1 ⟨rfl, rfl⟩)
  go_ret2
  exact ⟨rfl, rfl⟩

/-- the value of a cell; 0 out of range -/
def M.ld (xs : List Int) (a n : Nat) : Int := if a + n ≤ xs.length then M.leval (M.rd xs a n) else 0
theorem load (A : Option Addr) (c : Nat) (xs : List Int) (a n : Nat) (W : World) (hx : Bs W A c xs) (hl : xs.length ≤ 100000) (ha : a < 4294967296) (hn : 1 ≤ n) (hn4 : n ≤ 4) :
    Calls Try.prog 28 #[.slice A xs.length c, .int .u32 (a : Int), .int .i64 (n : Int)] W fun e W' => e = .returned (.tuple #[.int .u32 (M.ld xs a n), .bool (decide (a + n ≤ xs.length))]) ∧ W = W' := by
  unfold M.ld
  by_cases h : a + n ≤ xs.length
  · rw [if_pos h, decide_eq_true h]
    exact load_yes A c xs a n W hx hl hn hn4 h
  · rw [if_neg h, decide_eq_false h]
    exact load_no A c xs a n W hl ha hn hn4 h
end Go.Proofs.Ytchekfipdhoejaa
