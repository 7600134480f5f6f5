/-
  Plain mathematics of control and status registers, with no program in sight: names, write masks, what a read and a write give. Conditions: none but those that stand in each lemma.
-/
import Derived.WalkKit
namespace Go.Proofs.YthfhidgahdoglaaDoor.M
open Go.RowKit

/-- a cell of a list, by an integer place -/
def at_ (c : List Int) (i : Int) : Int := c.getD i.toNat 0

def maskL : List Int := [14, 4294967292, 4294967295, 4294967295, 4294967292, 4294967292, 4294967295, 0, 0, 4294967295, 4294967295, 4294967295]
def nameL : List (List UInt8) := [[115, 116, 97, 116, 117, 115], [101, 112, 99], [99, 97, 117, 115, 101], [116, 118, 97, 108], [116, 118, 101, 99], [98, 97, 115, 101], [98, 111, 117, 110, 100], [116, 105, 109, 101], [116, 105, 109, 101, 104], [99, 109, 112], [99, 109, 112, 104], [115, 99, 114, 97, 116, 99, 104]]
/-- the number is one of a register -/
def ex (n : Int) : Bool := decide (0 ≤ n) && decide (n < 12)
def mask (n : Int) : Int := if ex n = true then maskL.getD n.toNat 0 else 0
def name (n : Int) : List UInt8 := if ex n = true then nameL.getD n.toNat [] else []
/-- the number of a name: the place in the list, or what is not there -/
def has (s : List UInt8) : Bool := nameL.contains s
def num (s : List UInt8) : Int := if has s = true then (nameL.idxOf s : Int) else 0
/-- the bits of m from v, the others from o -/
def mix (o m v : Int) : Int := (((o.toNat &&& (4294967295 - m.toNat)) ||| (v.toNat &&& m.toNat) : Nat) : Int)
def rd (c : List Int) (time n : Int) : Int := if n = 7 then time % 4294967296 else if n = 8 then time / 4294967296 else if ex n = true then at_ c n else 0
def wr (c : List Int) (n v : Int) : List Int := if ex n = true then c.set n.toNat (mix (at_ c n) (mask n) v) else c
def cmp (c : List Int) : Int := at_ c 10 * 4294967296 + at_ c 9
def reset : List Int := [1, 0, 0, 0, 0, 0, 0, 0, 0, 4294967295, 4294967295, 0]

/-- twelve words of 32 bits -/
structure Ok (c : List Int) : Prop where
  len : c.length = 12
  rng : ∀ i : Int, 0 ≤ at_ c i ∧ at_ c i < 4294967296

theorem ok_of {c : List Int} (hl : c.length = 12) (h : ∀ x ∈ c, 0 ≤ x ∧ x < 4294967296) : Ok c := by
  refine ⟨hl, fun i => ?_⟩
  unfold at_
  rw [List.getD_eq_getElem?_getD]
  cases hx : c[i.toNat]? with
  | none => simp
  | some x => exact h x (List.mem_of_getElem? hx)

theorem ex_iff (n : Int) : ex n = true ↔ 0 ≤ n ∧ n < 12 := by unfold ex; simp
theorem ex_no (n : Int) : ex n = false ↔ n < 0 ∨ 12 ≤ n := by
  unfold ex
  by_cases h0 : 0 ≤ n <;> by_cases h1 : n < 12 <;> simp [h0, h1] <;> omega

theorem mask_rng (n : Int) : 0 ≤ mask n ∧ mask n < 4294967296 := by
  unfold mask
  split
  · have h : ∀ x ∈ maskL, 0 ≤ x ∧ x < 4294967296 := by unfold maskL; simp
    rw [List.getD_eq_getElem?_getD]
    cases hx : maskL[n.toNat]? with
    | none => simp
    | some x => exact h x (List.mem_of_getElem? hx)
  · decide

theorem and_lt {a b k : Nat} (h : b < 2 ^ k) : a &&& b < 2 ^ k := Nat.and_lt_two_pow a h
theorem mix_rng (o m v : Int) (h0 : 0 ≤ m) (h : m < 4294967296) : 0 ≤ mix o m v ∧ mix o m v < 4294967296 := by
  unfold mix
  have h1 : o.toNat &&& (4294967295 - m.toNat) < 2 ^ 32 := and_lt (by omega)
  have h2 : v.toNat &&& m.toNat < 2 ^ 32 := and_lt (by omega)
  have h3 := Nat.or_lt_two_pow h1 h2
  omega

theorem wr_ok {c : List Int} (h : Ok c) (n v : Int) : Ok (wr c n v) := by
  unfold wr
  split
  · rename_i he
    have hb := (ex_iff n).1 he
    refine ⟨by rw [List.length_set]; exact h.len, fun i => ?_⟩
    have hm := mask_rng n
    have hx := mix_rng (at_ c n) (mask n) v hm.1 hm.2
    have hr := h.rng i
    unfold at_ at hr ⊢
    rw [List.getD_eq_getElem?_getD] at hr ⊢
    rw [List.getElem?_set]
    split
    · split
      · exact hx
      · simp
    · exact hr
  · exact h

theorem reset_ok : Ok reset := ok_of rfl (by unfold reset; simp)

theorem rd_rng {c : List Int} (h : Ok c) (time n : Int) (h0 : 0 ≤ time) (h1 : time < 18446744073709551616) : 0 ≤ rd c time n ∧ rd c time n < 4294967296 := by
  unfold rd
  split
  · omega
  · split
    · omega
    · split
      · exact h.rng n
      · omega

theorem mix_eq (o m v : Int) (o0 : 0 ≤ o) (o1 : o < 4294967296) (m0 : 0 ≤ m) (m1 : m < 4294967296) (v0 : 0 ≤ v) (v1 : v < 4294967296) :
    bits .or .u32 (bits .andNot .u32 o m) (bits .and .u32 v m) = mix o m v := by
  obtain ⟨o, rfl⟩ := Int.eq_ofNat_of_zero_le o0
  obtain ⟨m, rfl⟩ := Int.eq_ofNat_of_zero_le m0
  obtain ⟨v, rfl⟩ := Int.eq_ofNat_of_zero_le v0
  rw [u32_andNot_nat _ _ (by omega) (by omega), u32_and_nat _ _ (by omega) (by omega), u32_or_nat _ _ (Nat.lt_of_le_of_lt Nat.and_le_left (by omega)) (Nat.lt_of_le_of_lt Nat.and_le_left (by omega))]
  rfl

theorem or_add (a b : Nat) (hb : b < 4294967296) : (a * 4294967296) ||| b = a * 4294967296 + b := by
  have h := Nat.shiftLeft_add_eq_or_of_lt (i := 32) (b := b) (by simpa using hb) a
  rw [Nat.shiftLeft_eq] at h
  exact h.symm

theorem cmp_eq (c : List Int) (h : Ok c) : bits .or .u64 (at_ c 10 * 4294967296) (at_ c 9) = cmp c := by
  have r9 := h.rng 9
  have r10 := h.rng 10
  unfold cmp
  generalize at_ c 9 = x at *
  generalize at_ c 10 = y at *
  obtain ⟨x, rfl⟩ := Int.eq_ofNat_of_zero_le r9.1
  obtain ⟨y, rfl⟩ := Int.eq_ofNat_of_zero_le r10.1
  rw [show ((y : Int) * 4294967296) = ((y * 4294967296 : Nat) : Int) by omega, u64_or_nat _ _ (by omega) (by omega), or_add _ _ (by omega)]
  omega

theorem has_at (k : Nat) (hk : k < 12) : nameL.getD k [] ∈ nameL := by
  rw [List.getD_eq_getElem?_getD, List.getElem?_eq_getElem (show k < nameL.length from hk)]
  exact List.getElem_mem _
theorem names_apart : ∀ i, i < 12 → ∀ j, j < 12 → nameL.getD i [] = nameL.getD j [] → i = j := by decide
theorem idx_at : ∀ k, k < 12 → nameL.idxOf (nameL.getD k []) = k := by decide
theorem num_at (k : Nat) (hk : k < 12) (z : List UInt8) (hz : z = nameL.getD k []) (_ : ∀ j, j < k → nameL.getD j [] ≠ z) : num z = k ∧ has z = true := by
  have h : has z = true := by unfold has; rw [hz]; simpa using has_at k hk
  refine ⟨?_, h⟩
  unfold num
  rw [if_pos h, hz, idx_at k hk]
theorem num_none (s : List UInt8) (h : ∀ j, j < 12 → nameL.getD j [] ≠ s) : num s = 0 ∧ has s = false := by
  have e : has s = false := by
    unfold has
    rw [Bool.eq_false_iff]
    intro hc
    obtain ⟨j, hj, he⟩ := List.getElem_of_mem (List.contains_iff_mem.1 hc)
    refine h j hj ?_
    rw [List.getD_eq_getElem?_getD, List.getElem?_eq_getElem hj]
    exact he
  exact ⟨by unfold num; rw [e]; rfl, e⟩

end Go.Proofs.YthfhidgahdoglaaDoor.M
