/-
  Plain mathematics of base-and-bound relocation, with no program in sight. Conditions: none but those that stand in each lemma.
-/
import Derived.WalkKit
namespace Go.Proofs.Ytchekfipdhoejaa.M
set_option linter.unusedVariables false

/-- the words of a processor: sixteen registers, the program counter, twelve control registers -/
structure Core (c : List Int) : Prop where
  len : c.length = 29
  rng : ∀ i : Nat, 0 ≤ c.getD i 0 ∧ c.getD i 0 < 4294967296

theorem core_of {c : List Int} (hl : c.length = 29) (h : ∀ x ∈ c, 0 ≤ x ∧ x < 4294967296) : Core c := by
  refine ⟨hl, fun i => ?_⟩
  rw [List.getD_eq_getElem?_getD]
  cases hx : c[i]? with
  | none => simp
  | some x => exact h x (List.mem_of_getElem? hx)
theorem Core.set {c : List Int} (h : Core c) (i : Nat) (x : Int) (h0 : 0 ≤ x) (h1 : x < 4294967296) : Core (c.set i x) := by
  refine ⟨by simp [h.len], fun j => ?_⟩
  have hj := h.rng j
  rw [List.getD_eq_getElem?_getD] at hj ⊢
  rw [List.getElem?_set]
  split
  · split
    · exact ⟨h0, h1⟩
    · simp
  · exact hj
theorem core_zero : Core (List.replicate 29 0) := core_of (by simp) fun x hx => by
  have := List.eq_of_mem_replicate hx
  omega

/-- the control register with that number -/
def csr (c : List Int) (i : Nat) : Int := c.getD (17 + i) 0
theorem Core.csr {c : List Int} (h : Core c) (i : Nat) : 0 ≤ M.csr c i ∧ M.csr c i < 4294967296 := h.rng _
theorem csr_set {c : List Int} (h : Core c) (i j : Nat) (x : Int) (hi : i < 12) : M.csr (c.set (17 + i) x) j = if i = j then x else M.csr c j := by
  unfold M.csr
  rw [List.getD_eq_getElem?_getD, List.getElem?_set, List.getD_eq_getElem?_getD]
  by_cases e : i = j
  · subst e
    rw [if_pos rfl, if_pos rfl, if_pos (by have := h.len; omega)]
    rfl
  · rw [if_neg (by omega), if_neg e]
/-- supervisor mode -/
def sup (c : List Int) : Bool := csr c 0 % 2 == 1

/-- the cell of n bytes at a is inside -/
def hit (base bound size a n : Int) : Bool := decide (a + n ≤ bound) && decide (base + a + n ≤ size)
/-- its physical address, or 0 -/
def phys (base bound size a n : Int) : Int := if hit base bound size a n = true then base + a else 0
theorem hit_iff (base bound size a n : Int) : hit base bound size a n = true ↔ a + n ≤ bound ∧ base + a + n ≤ size := by unfold hit; simp
theorem phys_hit {base bound size a n : Int} (h : hit base bound size a n = true) : phys base bound size a n = base + a := by unfold phys; rw [if_pos h]
theorem phys_miss {base bound size a n : Int} (h : hit base bound size a n = false) : phys base bound size a n = 0 := by unfold phys; rw [h]; rfl

/-- the base and the bound that a processor uses in a memory of that size -/
def ub (c : List Int) : Int := if sup c = true then 0 else csr c 5
def un (c : List Int) (size : Int) : Int := if sup c = true then size else csr c 6
/-- what is left of size bytes from b on -/
def rest (size b : Int) : Int := if b > size then 0 else size - b
/-- the composed bound and base -/
def cn (ps : Int) (c : List Int) : Int := if sup c = true then ps else min (csr c 6) (rest ps (csr c 5))
def cb (pb ps : Int) (c : List Int) : Int := if sup c = true then pb else if cn ps c = 0 then 0 else (pb + csr c 5) % 4294967296

theorem ub_rng {c : List Int} (h : Core c) : 0 ≤ ub c ∧ ub c < 4294967296 := by
  unfold ub; split
  · decide
  · exact h.csr 5
theorem un_rng {c : List Int} (h : Core c) {size : Int} (h0 : 0 ≤ size) (h1 : size < 4294967296) : 0 ≤ un c size ∧ un c size < 4294967296 := by
  unfold un; split
  · exact ⟨h0, h1⟩
  · exact h.csr 6
theorem rest_rng {size b : Int} (h0 : 0 ≤ size) (h1 : size < 4294967296) (b0 : 0 ≤ b) : 0 ≤ rest size b ∧ rest size b < 4294967296 := by
  unfold rest; split <;> omega
theorem cn_rng {ps : Int} {c : List Int} (h : Core c) (h0 : 0 ≤ ps) (h1 : ps < 4294967296) : 0 ≤ cn ps c ∧ cn ps c < 4294967296 := by
  have a := h.csr 6
  have b := rest_rng h0 h1 (h.csr 5).1
  unfold cn; split <;> omega
theorem cb_rng {pb ps : Int} {c : List Int} (h : Core c) (h0 : 0 ≤ pb) (h1 : pb < 4294967296) : 0 ≤ cb pb ps c ∧ cb pb ps c < 4294967296 := by
  unfold cb; split
  · omega
  · split <;> omega
theorem phys_rng {base bound size a n : Int} (b0 : 0 ≤ base) (a0 : 0 ≤ a) (n0 : 1 ≤ n) (s1 : size < 4294967296) : 0 ≤ phys base bound size a n ∧ phys base bound size a n < 4294967296 := by
  unfold phys; split
  · rename_i h
    have := (hit_iff _ _ _ _ _).1 h
    omega
  · decide

/-- the composed translation is the guest's, and its address is larger by the partition's base -/
theorem composed {pb ps size a n : Int} {c : List Int} (h : Core c) (p0 : 0 ≤ pb) (s0 : 0 ≤ ps) (hf : pb + ps ≤ 2147483648) (hm : pb + ps ≤ size) (a0 : 0 ≤ a) (n0 : 1 ≤ n) :
    hit (cb pb ps c) (cn ps c) size a n = hit (ub c) (un c ps) ps a n ∧ (hit (ub c) (un c ps) ps a n = true → cb pb ps c = pb + ub c ∧ ub c + a + n ≤ ps) := by
  have r5 := h.csr 5
  have r6 := h.csr 6
  rw [Bool.eq_iff_iff, hit_iff, hit_iff]
  cases hs : sup c
  · have e1 : ub c = csr c 5 := by unfold ub; rw [hs]; rfl
    have e2 : un c ps = csr c 6 := by unfold un; rw [hs]; rfl
    have e3 : cn ps c = min (csr c 6) (rest ps (csr c 5)) := by unfold cn; rw [hs]; rfl
    have e4 : cb pb ps c = if cn ps c = 0 then 0 else (pb + csr c 5) % 4294967296 := by unfold cb; rw [hs]; rfl
    rw [e1, e2]
    have e5 : rest ps (csr c 5) = if csr c 5 > ps then 0 else ps - csr c 5 := rfl
    generalize csr c 5 = b at *
    generalize csr c 6 = k at *
    generalize cn ps c = u at *
    generalize cb pb ps c = v at *
    generalize rest ps b = l at *
    split at e4 <;> split at e5 <;> omega
  · have e1 : ub c = 0 := by unfold ub; rw [hs]; rfl
    have e2 : un c ps = ps := by unfold un; rw [hs]; rfl
    have e3 : cn ps c = ps := by unfold cn; rw [hs]; rfl
    have e4 : cb pb ps c = pb := by unfold cb; rw [hs]; rfl
    rw [e1, e2, e3, e4]
    omega
end Go.Proofs.Ytchekfipdhoejaa.M
