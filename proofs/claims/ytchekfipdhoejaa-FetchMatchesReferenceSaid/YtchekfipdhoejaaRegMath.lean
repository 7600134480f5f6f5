/-
  Plain mathematics of the register file, with no program in sight. Conditions: none but those that stand in each lemma.
-/
import Derived.WalkKit
namespace Go.Proofs.Ytchekfipdhoejaa.M
set_option linter.unusedVariables false

/-- sixteen words -/
structure Regs (c : List Int) : Prop where
  len : c.length = 16
  rng : ∀ i : Nat, 0 ≤ c.getD i 0 ∧ c.getD i 0 < 4294967296

theorem regs_of {c : List Int} (hl : c.length = 16) (h : ∀ x ∈ c, 0 ≤ x ∧ x < 4294967296) : Regs c := by
  refine ⟨hl, fun i => ?_⟩
  rw [List.getD_eq_getElem?_getD]
  cases hx : c[i]? with
  | none => simp
  | some x => exact h x (List.mem_of_getElem? hx)
theorem getD_set (c : List Int) (i j : Nat) (x : Int) : (c.set i x).getD j 0 = if i = j ∧ j < c.length then x else c.getD j 0 := by
  rw [List.getD_eq_getElem?_getD, List.getElem?_set, List.getD_eq_getElem?_getD]
  by_cases e : i = j
  · subst e
    by_cases h : i < c.length
    · simp [h]
    · simp [h]
  · simp [e]
theorem Regs.set {c : List Int} (h : Regs c) (i : Nat) (x : Int) (h0 : 0 ≤ x) (h1 : x < 4294967296) : Regs (c.set i x) := by
  refine ⟨by simp [h.len], fun j => ?_⟩
  rw [getD_set]
  split
  · exact ⟨h0, h1⟩
  · exact h.rng j
theorem same_of {c d : List Int} (hl : c.length = d.length) (h : ∀ j : Nat, j < c.length → c.getD j 0 = d.getD j 0) : c = d := by
  apply List.ext_getElem hl
  intro j h1 h2
  have := h j h1
  rwa [List.getD_eq_getElem?_getD, List.getD_eq_getElem?_getD, List.getElem?_eq_getElem h1, List.getElem?_eq_getElem h2] at this

/-- the register has the value at its index -/
def stored (i : Int) : Bool := decide (0 < i) && decide (i < 16)
theorem stored_iff (i : Int) : stored i = true ↔ 0 < i ∧ i < 16 := by simp [stored]
theorem stored_no (i : Int) : stored i = false ↔ i ≤ 0 ∨ 16 ≤ i := by
  rw [Bool.eq_false_iff, ne_eq, stored_iff]; omega
/-- what register i reads -/
def reg (c : List Int) (i : Int) : Int := if stored i = true then c.getD i.toNat 0 else 0
/-- v stored in register i -/
def setreg (c : List Int) (i v : Int) : List Int := if stored i = true then c.set i.toNat v else c
/-- 0 stored at index 0 -/
def clr0 (c : List Int) : List Int := c.set 0 0

theorem reg_in {c : List Int} {i : Int} (h : stored i = true) : reg c i = c.getD i.toNat 0 := by unfold reg; rw [if_pos h]
theorem reg_out {c : List Int} {i : Int} (h : stored i = false) : reg c i = 0 := by unfold reg; rw [h]; rfl
theorem setreg_in {c : List Int} {i v : Int} (h : stored i = true) : setreg c i v = c.set i.toNat v := by unfold setreg; rw [if_pos h]
theorem setreg_out {c : List Int} {i v : Int} (h : stored i = false) : setreg c i v = c := by unfold setreg; rw [h]; rfl
theorem setreg_len (c : List Int) (i v : Int) : (setreg c i v).length = c.length := by unfold setreg; split <;> simp
theorem clr0_len (c : List Int) : (clr0 c).length = c.length := by simp [clr0]
theorem Regs.reg {c : List Int} (h : Regs c) (i : Int) : 0 ≤ M.reg c i ∧ M.reg c i < 4294967296 := by
  unfold M.reg
  split
  · exact h.rng _
  · simp
theorem Regs.setreg {c : List Int} (h : Regs c) (i x : Int) (h0 : 0 ≤ x) (h1 : x < 4294967296) : Regs (M.setreg c i x) := by
  unfold M.setreg
  split
  · exact h.set _ _ h0 h1
  · exact h
theorem Regs.clr0 {c : List Int} (h : Regs c) : Regs (M.clr0 c) := h.set 0 0 (by decide) (by decide)

/-- what is stored, one index at a time -/
theorem getD_setreg {c : List Int} (h : c.length = 16) (i v : Int) (j : Nat) : (setreg c i v).getD j 0 = if stored i = true ∧ i = j then v else c.getD j 0 := by
  cases hs : stored i
  · rw [setreg_out hs]; simp
  · have hb := (stored_iff i).1 hs
    rw [setreg_in hs, getD_set]
    by_cases e : i = j
    · rw [if_pos (by omega), if_pos ⟨rfl, e⟩]
    · rw [if_neg (by omega), if_neg (fun h => e h.2)]
theorem getD_clr0 {c : List Int} (h : c.length = 16) (j : Nat) : (clr0 c).getD j 0 = if j = 0 then 0 else c.getD j 0 := by
  unfold clr0
  rw [getD_set]
  by_cases e : j = 0
  · rw [if_pos (by omega), if_pos e]
  · rw [if_neg (by omega), if_neg e]

theorem reg_setreg_same {c : List Int} (h : c.length = 16) (i v : Int) : reg (setreg c i v) i = if stored i = true then v else 0 := by
  cases hs : stored i
  · rw [reg_out hs]; rfl
  · have hb := (stored_iff i).1 hs
    rw [reg_in hs, getD_setreg h, if_pos ⟨hs, by omega⟩]; rfl
theorem reg_setreg_other {c : List Int} (h : c.length = 16) {i k : Int} (v : Int) (hk : i ≠ k) : reg (setreg c i v) k = reg c k := by
  cases hs : stored k
  · rw [reg_out hs, reg_out hs]
  · have hb := (stored_iff k).1 hs
    rw [reg_in hs, reg_in hs, getD_setreg h, if_neg (by omega)]
theorem setreg_twice {c : List Int} (h : c.length = 16) (i u v : Int) : setreg (setreg c i v) i u = setreg c i u := by
  refine same_of (by simp [setreg_len]) fun j _ => ?_
  rw [getD_setreg (by simp [setreg_len, h]), getD_setreg h, getD_setreg h]
  split
  · rfl
  · rfl
theorem setreg_back {c : List Int} (h : c.length = 16) (i v : Int) : setreg (setreg c i v) i (reg c i) = c := by
  refine same_of (by simp [setreg_len]) fun j _ => ?_
  rw [getD_setreg (by simp [setreg_len, h]), getD_setreg h]
  split
  · next e => rw [reg_in e.1]; congr 1; omega
  · rfl
theorem setreg_swap {c : List Int} (h : c.length = 16) {i k : Int} (u v : Int) (hk : i ≠ k) : setreg (setreg c i v) k u = setreg (setreg c k u) i v := by
  refine same_of (by simp [setreg_len]) fun j _ => ?_
  rw [getD_setreg (by simp [setreg_len, h]), getD_setreg h, getD_setreg (by simp [setreg_len, h]), getD_setreg h]
  by_cases e1 : stored k = true ∧ k = j
  · rw [if_pos e1, if_neg (by omega), if_pos e1]
  · rw [if_neg e1, if_neg e1]
theorem reg_clr0 {c : List Int} (h : c.length = 16) (i : Int) : reg (clr0 c) i = reg c i := by
  cases hs : stored i
  · rw [reg_out hs, reg_out hs]
  · have hb := (stored_iff i).1 hs
    rw [reg_in hs, reg_in hs, getD_clr0 h, if_neg (by omega)]
theorem clr0_twice {c : List Int} : clr0 (clr0 c) = clr0 c := by simp [clr0]
theorem clr0_setreg {c : List Int} (h : c.length = 16) (i v : Int) : clr0 (setreg c i v) = setreg (clr0 c) i v := by
  refine same_of (by simp [setreg_len, clr0_len]) fun j _ => ?_
  rw [getD_clr0 (by simp [setreg_len, h]), getD_setreg h, getD_setreg (by simp [clr0_len, h]), getD_clr0 h]
  by_cases e : j = 0
  · rw [if_pos e, if_neg (fun h => by have := (stored_iff i).1 h.1; omega), if_pos e]
  · rw [if_neg e, if_neg e]
/-- cleared files are the same where all registers read the same -/
theorem clr0_same {c d : List Int} (hc : c.length = 16) (hd : d.length = 16) : clr0 c = clr0 d ↔ ∀ k : Nat, k < 16 → reg c k = reg d k := by
  constructor
  · intro e k hk
    rw [← reg_clr0 hc, ← reg_clr0 hd, e]
  · intro h
    refine same_of (by simp [clr0_len, hc, hd]) fun j hj => ?_
    rw [clr0_len, hc] at hj
    rw [getD_clr0 hc, getD_clr0 hd]
    by_cases e : j = 0
    · rw [if_pos e, if_pos e]
    · have := h j hj
      have hs : stored (j : Int) = true := (stored_iff _).2 (by omega)
      rw [reg_in hs, reg_in hs] at this
      rw [if_neg e, if_neg e]
      simpa using this
end Go.Proofs.Ytchekfipdhoejaa.M
