/-
  The laws of trap entry and trap return: plain facts on lists of 29 words, no program in sight. Conditions: those that stand in each lemma.
-/
import Derived.Test.YtnbedmjchgfknaaTrapMath
import Derived.Test.YtnbedmjchgfknaaRegMath
namespace Go.Proofs.Ytnbedmjchgfknaa.M
set_option linter.unusedVariables false

theorem goTo_at {c : List Int} (h : Core c) (p s : Int) (j : Nat) : (goTo c p s).getD j 0 = if j = 16 then p else if j = 17 then s else c.getD j 0 := by
  unfold goTo
  have hl := h.len
  rw [getD_set, getD_set, List.length_set, hl]
  by_cases h16 : j = 16
  · subst h16; simp
  · by_cases h17 : j = 17
    · subst h17; simp
    · rw [if_neg (by omega), if_neg (by omega), if_neg h16, if_neg h17]
theorem enter_at {c : List Int} (h : Core c) {k v : Int} (hk : k ≠ 0) (v0 : 0 ≤ v) (v1 : v < 4294967296) (j : Nat) : (enter c k v).getD j 0 = if j = 16 then csr c 4 else if j = 17 then ent (csr c 0) else if j = 18 then pc c else if j = 19 then k % 4294967296 else if j = 20 then v else c.getD j 0 := by
  have hl := h.len
  have h3 : Core (((c.set 18 (pc c)).set 19 (k % 4294967296)).set 20 v) := ((h.set 18 _ h.pc.1 h.pc.2).set 19 _ (by omega) (by omega)).set 20 v v0 v1
  unfold enter
  rw [if_neg hk, goTo_at h3, getD_set, getD_set, getD_set, List.length_set, List.length_set, hl]
  by_cases h16 : j = 16
  · subst h16; simp
  by_cases h17 : j = 17
  · subst h17; simp
  rw [if_neg h16, if_neg h17, if_neg h16, if_neg h17]
  by_cases h18 : j = 18
  · subst h18; simp
  by_cases h19 : j = 19
  · subst h19; simp
  by_cases h20 : j = 20
  · subst h20; simp
  rw [if_neg (by omega), if_neg (by omega), if_neg (by omega), if_neg h18, if_neg h19, if_neg h20]
theorem leave_at {c : List Int} (h : Core c) (j : Nat) : (leave c).getD j 0 = if j = 16 then csr c 1 else if j = 17 then rtn (csr c 0) else c.getD j 0 := goTo_at h _ _ j

theorem same29 {c d : List Int} (hc : Core c) (hd : Core d) (h : ∀ j : Nat, c.getD j 0 = d.getD j 0) : c = d := same_of (by rw [hc.len, hd.len]) fun j _ => h j
theorem take16 {c d : List Int} (hc : Core c) (hd : Core d) (h : ∀ j : Nat, j < 16 → c.getD j 0 = d.getD j 0) : c.take 16 = d.take 16 := by
  refine same_of (by simp [hc.len, hd.len]) fun j hj => ?_
  have hj : j < 16 := by simp at hj; omega
  have := h j hj
  rw [List.getD_eq_getElem?_getD, List.getD_eq_getElem?_getD] at this ⊢
  rw [List.getElem?_take_of_lt hj, List.getElem?_take_of_lt hj]
  exact this

theorem ent_facts (s : Int) : ent s / 16 = s / 16 ∧ ent s % 2 = 1 ∧ ent s / 2 % 2 = 0 ∧ ent s / 4 % 2 = s % 2 ∧ ent s / 8 % 2 = s / 2 % 2 := by
  obtain ⟨q, d3, d2, d1, d0, h3, h2, h1, h0, e, eq, e3, e2, e1, e0⟩ := bt_bits s
  unfold ent
  rw [← eq, ← e1, ← e0]
  clear e eq e3 e2 e1 e0
  omega
theorem rtn_facts (s : Int) : rtn s / 16 = s / 16 ∧ rtn s % 2 = s / 4 % 2 ∧ rtn s / 2 % 2 = s / 8 % 2 ∧ rtn s / 4 % 2 = s / 4 % 2 ∧ rtn s / 8 % 2 = s / 8 % 2 := by
  obtain ⟨q, d3, d2, d1, d0, h3, h2, h1, h0, e, eq, e3, e2, e1, e0⟩ := bt_bits s
  unfold rtn
  rw [← eq, ← e3, ← e2]
  clear e eq e3 e2 e1 e0
  omega
theorem rtn_rtn (s : Int) : rtn (rtn s) = rtn s := by
  obtain ⟨h1, h2, h3, h4, h5⟩ := rtn_facts s
  have e : rtn (rtn s) = rtn s / 16 * 16 + rtn s / 4 % 2 + 2 * (rtn s / 8 % 2) + 4 * (rtn s / 4 % 2) + 8 * (rtn s / 8 % 2) := rfl
  rw [e, h1, h4, h5]
  rfl

theorem sup_def (c : List Int) : sup c = decide (csr c 0 % 2 = 1) := by rw [sup_bt]; unfold bt; rw [Int.ediv_one]
theorem ien_def (c : List Int) : ien c = decide (csr c 0 / 2 % 2 = 1) := rfl
theorem en_csr {c : List Int} (h : Core c) {k v : Int} (hk : k ≠ 0) (v0 : 0 ≤ v) (v1 : v < 4294967296) (i : Nat) : csr (enter c k v) i = if i = 0 then ent (csr c 0) else if i = 1 then pc c else if i = 2 then k % 4294967296 else if i = 3 then v else csr c i := by
  have e : csr (enter c k v) i = (enter c k v).getD (17 + i) 0 := rfl
  rw [e, enter_at h hk v0 v1, if_neg (by omega)]
  by_cases h0 : i = 0
  · subst h0; rfl
  by_cases h1 : i = 1
  · subst h1; rfl
  by_cases h2 : i = 2
  · subst h2; rfl
  by_cases h3 : i = 3
  · subst h3; rfl
  rw [if_neg (by omega), if_neg (by omega), if_neg (by omega), if_neg (by omega), if_neg h0, if_neg h1, if_neg h2, if_neg h3]
  rfl
theorem en_pc {c : List Int} (h : Core c) {k v : Int} (hk : k ≠ 0) (v0 : 0 ≤ v) (v1 : v < 4294967296) : pc (enter c k v) = csr c 4 := by unfold pc; rw [enter_at h hk v0 v1, if_pos rfl]
theorem en_sup {c : List Int} (h : Core c) {k v : Int} (hk : k ≠ 0) (v0 : 0 ≤ v) (v1 : v < 4294967296) : sup (enter c k v) = true := by
  rw [sup_def, en_csr h hk v0 v1, if_pos rfl, (ent_facts _).2.1]; rfl
theorem en_ien {c : List Int} (h : Core c) {k v : Int} (hk : k ≠ 0) (v0 : 0 ≤ v) (v1 : v < 4294967296) : ien (enter c k v) = false := by
  rw [ien_def, en_csr h hk v0 v1, if_pos rfl, (ent_facts _).2.2.1]; rfl
theorem en_regs {c : List Int} (h : Core c) {k v : Int} (hk : k ≠ 0) (v0 : 0 ≤ v) (v1 : v < 4294967296) : (enter c k v).take 16 = c.take 16 := by
  refine take16 (h.enter v0 v1) h fun j hj => ?_
  rw [enter_at h hk v0 v1, if_neg (by omega), if_neg (by omega), if_neg (by omega), if_neg (by omega), if_neg (by omega)]
theorem le_csr {c : List Int} (h : Core c) (i : Nat) : csr (leave c) i = if i = 0 then rtn (csr c 0) else csr c i := by
  have e : csr (leave c) i = (leave c).getD (17 + i) 0 := rfl
  rw [e, leave_at h, if_neg (by omega)]
  by_cases h0 : i = 0
  · subst h0; rfl
  rw [if_neg (by omega), if_neg h0]
  rfl
theorem le_pc {c : List Int} (h : Core c) : pc (leave c) = csr c 1 := by unfold pc; rw [leave_at h, if_pos rfl]
theorem le_sup {c : List Int} (h : Core c) : sup (leave c) = decide (csr c 0 / 4 % 2 = 1) := by rw [sup_def, le_csr h, if_pos rfl, (rtn_facts _).2.1]
theorem le_ien {c : List Int} (h : Core c) : ien (leave c) = decide (csr c 0 / 8 % 2 = 1) := by rw [ien_def, le_csr h, if_pos rfl, (rtn_facts _).2.2.1]
theorem le_regs {c : List Int} (h : Core c) : (leave c).take 16 = c.take 16 := by
  refine take16 h.leave h fun j hj => ?_
  rw [leave_at h, if_neg (by omega), if_neg (by omega)]
theorem le_le {c : List Int} (h : Core c) : pc c = csr c 1 → csr c 0 = rtn (csr c 0) → leave c = c := by
  intro h1 h2
  refine same29 h.leave h fun j => ?_
  rw [leave_at h]
  by_cases h16 : j = 16
  · subst h16; rw [if_pos rfl, ← h1]; rfl
  by_cases h17 : j = 17
  · subst h17; rw [if_neg h16, if_pos rfl, ← h2]; rfl
  rw [if_neg h16, if_neg h17]
/-- a return behind a trap -/
theorem back {c : List Int} (h : Core c) {k v : Int} (hk : k ≠ 0) (v0 : 0 ≤ v) (v1 : v < 4294967296) :
    pc (leave (enter c k v)) = pc c ∧ sup (leave (enter c k v)) = sup c ∧ ien (leave (enter c k v)) = ien c ∧ (leave (enter c k v)).take 16 = c.take 16 ∧
    csr (leave (enter c k v)) 0 / 16 = csr c 0 / 16 ∧ csr (enter c k v) 0 / 16 = csr c 0 / 16 ∧ csr (leave (enter c k v)) 1 = csr (enter c k v) 1 ∧
    ∀ i, 3 < i → csr (enter c k v) i = csr c i ∧ csr (leave (enter c k v)) i = csr c i := by
  have hA := h.enter (k := k) v0 v1
  have e0 := en_csr h hk v0 v1 0
  rw [if_pos rfl] at e0
  refine ⟨?_, ?_, ?_, ?_, ?_, ?_, ?_, ?_⟩
  · rw [le_pc hA, en_csr h hk v0 v1]; rfl
  · rw [le_sup hA, e0, (ent_facts _).2.2.2.1, sup_def]
  · rw [le_ien hA, e0, (ent_facts _).2.2.2.2, ien_def]
  · rw [le_regs hA, en_regs h hk v0 v1]
  · rw [le_csr hA, if_pos rfl, (rtn_facts _).1, e0, (ent_facts _).1]
  · rw [e0, (ent_facts _).1]
  · rw [le_csr hA]; rfl
  · intro i hi
    have e1 : csr (enter c k v) i = csr c i := by rw [en_csr h hk v0 v1, if_neg (by omega), if_neg (by omega), if_neg (by omega), if_neg (by omega)]
    exact ⟨e1, by rw [le_csr hA, if_neg (by omega), e1]⟩
/-- a trap within a trap -/
theorem nested {c : List Int} (h : Core c) {k v j u : Int} (hk : k ≠ 0) (v0 : 0 ≤ v) (v1 : v < 4294967296) (hj : j ≠ 0) (u0 : 0 ≤ u) (u1 : u < 4294967296) :
    sup (leave (enter (enter c k v) j u)) = true ∧ ien (leave (enter (enter c k v) j u)) = false ∧ pc (leave (enter (enter c k v) j u)) = csr c 4 ∧
    leave (leave (enter (enter c k v) j u)) = leave (enter (enter c k v) j u) ∧ csr (leave (enter (enter c k v) j u)) 2 = j % 4294967296 ∧ csr (leave (enter (enter c k v) j u)) 3 = u := by
  have hA := h.enter (k := k) v0 v1
  have hB := hA.enter (k := j) u0 u1
  have b := back hA hj u0 u1
  refine ⟨?_, ?_, ?_, ?_, ?_, ?_⟩
  · rw [b.2.1, en_sup h hk v0 v1]
  · rw [b.2.2.1, en_ien h hk v0 v1]
  · rw [b.1, en_pc h hk v0 v1]
  · refine le_le hB.leave ?_ ?_
    · rw [b.1, b.2.2.2.2.2.2.1, en_csr hA hj u0 u1]; rfl
    · rw [le_csr hB, if_pos rfl, rtn_rtn]
  · rw [le_csr hB, if_neg (by decide), en_csr hA hj u0 u1]; rfl
  · rw [le_csr hB, if_neg (by decide), en_csr hA hj u0 u1]; rfl
/-- other registers, and another saved state -/
theorem other {c g : List Int} (h : Core c) (hg : Regs g) {k v s : Int} (hk : k ≠ 0) (v0 : 0 ≤ v) (v1 : v < 4294967296) (o : Int) (o0 : 0 ≤ o) (o1 : o < 4) (hs : s = csr c 0 / 16 * 16 + o * 4 + csr c 0 % 4) :
    Core ((g ++ c.drop 16).set 17 s) ∧ c.take 16 ++ (enter ((g ++ c.drop 16).set 17 s) k v).drop 16 = enter c k v ∧
    sup (leave ((g ++ c.drop 16).set 17 s)) = decide (o % 2 = 1) ∧ ien (leave ((g ++ c.drop 16).set 17 s)) = decide (o / 2 % 2 = 1) ∧
    pc (leave ((g ++ c.drop 16).set 17 s)) = csr ((g ++ c.drop 16).set 17 s) 1 ∧ (leave ((g ++ c.drop 16).set 17 s)).take 16 = g := by
  have hl := h.len
  have gl := hg.len
  have s0 := h.csr 0
  have at1 : ∀ j : Nat, (g ++ c.drop 16).getD j 0 = if j < 16 then g.getD j 0 else c.getD j 0 := by
    intro j
    rw [List.getD_eq_getElem?_getD]
    by_cases hj : j < 16
    · rw [List.getElem?_append_left (by omega), if_pos hj, List.getD_eq_getElem?_getD]
    · rw [List.getElem?_append_right (by omega), if_neg hj, List.getD_eq_getElem?_getD, List.getElem?_drop, gl, show 16 + (j - 16) = j by omega]
  have hC : Core (g ++ c.drop 16) := ⟨by simp [gl, hl], fun j => by
    rw [at1]
    split
    · exact hg.rng j
    · exact h.rng j⟩
  have hD : Core ((g ++ c.drop 16).set 17 s) := hC.set 17 s (by omega) (by omega)
  have at2 : ∀ j : Nat, ((g ++ c.drop 16).set 17 s).getD j 0 = if j = 17 then s else if j < 16 then g.getD j 0 else c.getD j 0 := by
    intro j
    rw [getD_set, hC.len]
    by_cases hj : j = 17
    · subst hj; simp
    · rw [if_neg (by omega), if_neg hj, at1]
  have c0 : csr ((g ++ c.drop 16).set 17 s) 0 = s := by unfold csr; rw [at2]; rfl
  have c4 : csr ((g ++ c.drop 16).set 17 s) 4 = csr c 4 := by unfold csr; rw [at2]; rfl
  have cp : pc ((g ++ c.drop 16).set 17 s) = pc c := by unfold pc; rw [at2]; rfl
  have q1 : s / 16 = csr c 0 / 16 := by omega
  have q2 : s % 2 = csr c 0 % 2 := by omega
  have q3 : s / 2 % 2 = csr c 0 / 2 % 2 := by omega
  have q4 : s / 4 % 2 = o % 2 := by omega
  have q5 : s / 8 % 2 = o / 2 % 2 := by omega
  generalize (g ++ c.drop 16).set 17 s = d at *
  have hE := hD.enter (k := k) v0 v1
  have hA := h.enter (k := k) v0 v1
  refine ⟨hD, ?_, ?_, ?_, ?_, ?_⟩
  · refine same_of (by simp [hl, hE.len, hA.len]) fun j _ => ?_
    have e : (c.take 16 ++ (enter d k v).drop 16).getD j 0 = if j < 16 then c.getD j 0 else (enter d k v).getD j 0 := by
      rw [List.getD_eq_getElem?_getD]
      by_cases hj : j < 16
      · rw [List.getElem?_append_left (by simp; omega), if_pos hj, List.getD_eq_getElem?_getD, List.getElem?_take_of_lt hj]
      · rw [List.getElem?_append_right (by simp; omega), if_neg hj, List.getD_eq_getElem?_getD, List.getElem?_drop, List.length_take, hl, show 16 + (j - min 16 29) = j by omega]
    rw [e, enter_at hD hk v0 v1, enter_at h hk v0 v1, c0, c4, cp, at2]
    have en : ent s = ent (csr c 0) := by unfold ent; rw [q1, q2, q3]
    rw [en]
    by_cases hj : j < 16
    · rw [if_pos hj, if_neg (by omega), if_neg (by omega), if_neg (by omega), if_neg (by omega), if_neg (by omega)]
    · rw [if_neg hj]
      by_cases h17 : j = 17
      · subst h17; rfl
      · rw [if_neg h17, if_neg hj]
        simp only [if_neg h17]
  · rw [le_sup hD, c0, q4]
  · rw [le_ien hD, c0, q5]
  · exact le_pc hD
  · rw [le_regs hD]
    refine same_of (by simp [hD.len, gl]) fun j hj => ?_
    have hj : j < 16 := by simp [hD.len] at hj; omega
    have := at2 j
    rw [if_neg (by omega), if_pos hj] at this
    rw [← this, List.getD_eq_getElem?_getD, List.getElem?_take_of_lt hj, List.getD_eq_getElem?_getD]
end Go.Proofs.Ytnbedmjchgfknaa.M
