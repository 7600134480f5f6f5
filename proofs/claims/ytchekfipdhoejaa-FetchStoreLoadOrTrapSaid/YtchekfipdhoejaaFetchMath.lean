/-
  Plain mathematics of memory accesses of a machine, with no program in sight. Conditions: none but those that stand in each lemma.
-/
import Derived.Test.YtchekfipdhoejaaRelMath
import Derived.Test.YtchekfipdhoejaaMemMath
import Derived.Test.YtchekfipdhoejaaTrapMath
import Derived.Test.YtchekfipdhoejaaMemLoad
import Derived.Test.YtchekfipdhoejaaMemStore
namespace Go.Proofs.Ytchekfipdhoejaa.M
open Go.RowKit
set_option linter.unusedVariables false

/-- the cause of the trap of an access, 0 for none -/
def acz (c : List Int) (s a n : Int) : Int := if n = 4 ∧ a % 4 ≠ 0 then 4 else if hit (ub c) (un c s) s a n = true then 0 else 3
/-- its value -/
def atv (c : List Int) (s a n : Int) : Int := if acz c s a n = 0 then 0 else a
/-- the physical address, or 0 -/
def apa (c : List Int) (s a n : Int) : Int := if acz c s a n = 0 then ub c + a else 0
/-- what is loaded -/
def alv (c xs : List Int) (a n : Int) : Int := if acz c xs.length a n = 0 then ld xs (ub c + a).toNat n.toNat else 0
/-- the memory after a store -/
def asv (c xs : List Int) (a n v : Int) : List Int := if acz c xs.length a n = 0 then st xs (ub c + a).toNat n.toNat v else xs
/-- the timer compare value -/
def tcmp (c : List Int) : Int := csr c 10 * 4294967296 + csr c 9
/-- the timer interrupt is pending -/
def due (c : List Int) (t : Int) : Bool := ien c && decide (tcmp c ≤ t)

theorem acz_mis {c : List Int} {s a n : Int} (h : n = 4) (h2 : a % 4 ≠ 0) : acz c s a n = 4 := by unfold acz; rw [if_pos ⟨h, h2⟩]
theorem acz_yes {c : List Int} {s a n : Int} (h : ¬ (n = 4 ∧ a % 4 ≠ 0)) (h2 : hit (ub c) (un c s) s a n = true) : acz c s a n = 0 := by unfold acz; rw [if_neg h, if_pos h2]
theorem acz_no {c : List Int} {s a n : Int} (h : ¬ (n = 4 ∧ a % 4 ≠ 0)) (h2 : hit (ub c) (un c s) s a n = false) : acz c s a n = 3 := by unfold acz; rw [if_neg h, h2]; rfl
theorem acz_three (c : List Int) (s a n : Int) : acz c s a n = 0 ∨ acz c s a n = 3 ∨ acz c s a n = 4 := by
  unfold acz; split
  · exact .inr (.inr rfl)
  · split
    · exact .inl rfl
    · exact .inr (.inl rfl)
theorem acz_hit {c : List Int} {s a n : Int} (h : acz c s a n = 0) : ¬ (n = 4 ∧ a % 4 ≠ 0) ∧ a + n ≤ un c s ∧ ub c + a + n ≤ s := by
  unfold acz at h
  split at h
  · cases h
  · rename_i h1
    split at h
    · rename_i h2
      exact ⟨h1, (hit_iff _ _ _ _ _).1 h2⟩
    · cases h
theorem acz_iff (c : List Int) (s a n : Int) : acz c s a n = 0 ↔ ¬ (n = 4 ∧ a % 4 ≠ 0) ∧ a + n ≤ un c s ∧ ub c + a + n ≤ s :=
  ⟨acz_hit, fun h => acz_yes h.1 ((hit_iff _ _ _ _ _).2 h.2)⟩
theorem atv_yes {c : List Int} {s a n : Int} (h : acz c s a n = 0) : atv c s a n = 0 := by unfold atv; rw [if_pos h]
theorem atv_no {c : List Int} {s a n : Int} (h : acz c s a n ≠ 0) : atv c s a n = a := by unfold atv; rw [if_neg h]
theorem apa_yes {c : List Int} {s a n : Int} (h : acz c s a n = 0) : apa c s a n = ub c + a := by unfold apa; rw [if_pos h]
theorem apa_no {c : List Int} {s a n : Int} (h : acz c s a n ≠ 0) : apa c s a n = 0 := by unfold apa; rw [if_neg h]
theorem alv_no {c xs : List Int} {a n : Int} (h : acz c xs.length a n ≠ 0) : alv c xs a n = 0 := by unfold alv; rw [if_neg h]
theorem asv_no {c xs : List Int} {a n v : Int} (h : acz c xs.length a n ≠ 0) : asv c xs a n v = xs := by unfold asv; rw [if_neg h]
theorem asv_len (c xs : List Int) (a n v : Int) : (asv c xs a n v).length = xs.length := by
  unfold asv; split
  · exact st_len _ _ _ _
  · rfl
theorem apa_rng {c : List Int} (hc : Core c) {s a n : Int} (a0 : 0 ≤ a) (n0 : 1 ≤ n) (s1 : s < 4294967296) : 0 ≤ apa c s a n ∧ apa c s a n < 4294967296 := by
  unfold apa; split
  · rename_i h
    have := acz_hit h
    have := (ub_rng hc).1
    omega
  · decide
theorem atv_rng {c : List Int} {s a n : Int} (a0 : 0 ≤ a) (a1 : a < 4294967296) : 0 ≤ atv c s a n ∧ atv c s a n < 4294967296 := by
  unfold atv; split
  · decide
  · exact ⟨a0, a1⟩
theorem tcmp_eq (c : List Int) (h : Core c) : bits .or .u64 (csr c 10 * 4294967296) (csr c 9) = tcmp c := by
  have h9 := h.csr 9
  have h10 := h.csr 10
  unfold tcmp
  generalize csr c 9 = x at *
  generalize csr c 10 = y at *
  obtain ⟨X, rfl⟩ := Int.eq_ofNat_of_zero_le h9.1
  obtain ⟨Y, rfl⟩ := Int.eq_ofNat_of_zero_le h10.1
  have e : ((Y : Int) * 4294967296) = ((2 ^ 32 * Y : Nat) : Int) := by omega
  rw [e, u64_or_nat _ _ (by omega) (by omega)]
  have := Nat.two_pow_add_eq_or_of_lt (i := 32) (b := X) (by omega) Y
  omega
end Go.Proofs.Ytchekfipdhoejaa.M
