/-
  Texts and lines as plain lists of bytes: a line belongs to one word, a text to one list of words; and what Assemble returns at the text of a list of words.
-/
import Derived.Test.YtokhipjpppfkgaaGreatDoorAsmWords
namespace Go.Proofs.YtokhipjpppfkgaaGreatDoor
open Go.ChangeShapes Go.WideShapes Go.ChangeAt Go.RowKit Go.Sort
set_option linter.unusedVariables false

theorem join_no (c : UInt8) (hc : c ≠ 32) : ∀ (r : List (List UInt8)) (x : List UInt8), (∀ y ∈ x :: r, c ∉ y) → c ∉ Lib.join (x :: r) [32]
  | [], x, h => by
    have : Lib.join [x] [32] = x := by rw [Lib.join_cons]; simp [Lib.joinTail]
    rw [this]
    exact h x List.mem_cons_self
  | y :: r, x, h => by
    rw [M.join_cons2]
    intro hm
    rcases List.mem_append.1 hm with h1 | h1
    · exact h x List.mem_cons_self h1
    · rcases List.mem_cons.1 h1 with h2 | h2
      · exact hc h2
      · exact join_no c hc r y (fun z hz => h z (List.mem_cons_of_mem _ hz)) h2

theorem mnem_no10 (op : Int) : (10 : UInt8) ∉ M.mnem op := by
  unfold M.mnem
  by_cases h : op.toNat < 26
  · have : ∀ n : Nat, n < 26 → (10 : UInt8) ∉ M.mnems.getD n [] := by decide
    exact this _ h
  · have e : M.mnems.getD op.toNat [] = [] := by
      rw [List.getD_eq_getElem?_getD, List.getElem?_eq_none (by unfold M.mnems; simp; omega)]; rfl
    rw [e]; simp

theorem opsT_no10 (op rd ra rb imm : Int) : ∀ x ∈ M.opsT op rd ra rb imm, (10 : UInt8) ∉ x := by
  have hn : ∀ n : Int, (10 : UInt8) ∉ Lib.itoa n := fun n => M.itoa_no n 10 (by decide)
  have hr : ∀ n : Int, (10 : UInt8) ∉ M.regT n := fun n hm => by
    unfold M.regT at hm
    rcases List.mem_cons.1 hm with e | e
    · exact absurd e (by decide)
    · exact hn n e
  have hc : ∀ n : Int, (10 : UInt8) ∉ M.csrT n := fun n hm => by
    unfold M.csrT at hm
    rcases List.mem_cons.1 hm with e | e
    · exact absurd e (by decide)
    · exact hn n e
  unfold M.opsT
  repeat' split
  all_goals
    intro x hx
    simp only [List.mem_cons, or_false, List.not_mem_nil] at hx
    try (rcases hx with rfl | rfl | rfl)
    try (rcases hx with rfl | rfl)
    try subst hx
    all_goals first | exact hr _ | exact hc _ | exact hn _

theorem text_no10 (op rd ra rb imm : Int) : (10 : UInt8) ∉ M.text op rd ra rb imm := by
  unfold M.text
  refine join_no 10 (by decide) _ _ fun y hy => ?_
  rcases List.mem_cons.1 hy with rfl | h
  · exact mnem_no10 op
  · exact opsT_no10 _ _ _ _ _ y h

theorem hexd_no : ∀ d : Nat, d < 16 → M.hexd d ≠ 10 := by decide
theorem hex_no (u : Nat) : (10 : UInt8) ∉ M.hexDigits u := by
  induction u using Nat.strongRecOn with
  | _ u ih =>
    by_cases h : u < 16
    · rw [M.hex_small h]
      intro hm
      exact hexd_no u h (List.mem_singleton.1 hm).symm
    · rw [M.hex_big h]
      intro hm
      rcases List.mem_append.1 hm with h1 | h1
      · exact ih (u / 16) (by omega) h1
      · exact hexd_no (u % 16) (by omega) (List.mem_singleton.1 h1).symm
theorem rep_no : ∀ k : Nat, (10 : UInt8) ∉ Lib.repeatL [48] k := by
  intro k
  induction k with
  | zero => simp [Lib.repeatL]
  | succ k ih =>
    intro hm
    have e : Lib.repeatL [48] (k + 1) = [48] ++ Lib.repeatL [48] k := by simp [Lib.repeatL]
    rw [e] at hm
    rcases List.mem_append.1 hm with h1 | h1
    · exact absurd (List.mem_singleton.1 h1) (by decide)
    · exact ih h1
theorem lineT_no10 (x : Int) : (10 : UInt8) ∉ M.lineT x := by
  cases hd : M.dok x
  · rw [lineT_no hd]
    intro hm
    rcases List.mem_append.1 hm with h1 | h1
    · revert h1; decide
    · unfold M.hex8 at h1
      rcases List.mem_append.1 h1 with h2 | h2
      · exact rep_no _ h2
      · exact hex_no _ h2
  · rw [lineT_yes hd]; exact text_no10 _ _ _ _ _

theorem text_inj {op rd ra rb imm op' rd' ra' rb' imm' : Int} (h : M.ok op rd ra rb imm = true) (k : M.ok op' rd' ra' rb' imm' = true) (e : M.text op rd ra rb imm = M.text op' rd' ra' rb' imm') :
    op = op' ∧ rd = rd' ∧ ra = ra' ∧ rb = rb' ∧ imm = imm' := by
  have e1 := congrArg M.fields e
  rw [M.fields_text, M.fields_text] at e1
  injection e1 with e2 e3
  obtain ⟨ho, _⟩ := M.ok_rng _ _ _ _ _ h
  obtain ⟨ho', _⟩ := M.ok_rng _ _ _ _ _ k
  have hop : op = op' := by
    have := M.OpOf_uniq (.inl ⟨by omega, by omega, e2⟩) (M.OpOf_mnem op' (by omega) (by omega))
    exact this
  subst hop
  obtain ⟨a1, a2, a3, a4⟩ := M.read_text _ _ _ _ _ h
  obtain ⟨b1, b2, b3, b4⟩ := M.read_text _ _ _ _ _ k
  rw [e3] at a1 a2 a3 a4
  exact ⟨rfl, a1.symm.trans b1, a2.symm.trans b2, a3.symm.trans b3, a4.symm.trans b4⟩

theorem lineT_inj {x y : Int} (hx : 0 ≤ x ∧ x < 4294967296) (hy : 0 ≤ y ∧ y < 4294967296) (e : M.lineT x = M.lineT y) : x = y := by
  cases hd : M.dok x
  · cases hk : M.dok y
    · rw [lineT_no hd, lineT_no hk] at e
      have e2 := List.append_cancel_left e
      have h1 := pu16_hex8 x hx.1 hx.2
      rw [e2, pu16_hex8 y hy.1 hy.2] at h1
      injection h1 with h1
      omega
    · rw [lineT_no hd, lineT_yes hk] at e
      have h1 := text_no_word _ _ _ _ _ (dok_ok hk).1
      rw [← e] at h1
      rw [show [119, 111, 114, 100, 32] ++ M.hex8 x = wordM ++ M.hex8 x from rfl, wordM_prefix] at h1
      cases h1
  · cases hk : M.dok y
    · rw [lineT_yes hd, lineT_no hk] at e
      have h1 := text_no_word _ _ _ _ _ (dok_ok hd).1
      rw [e] at h1
      rw [show [119, 111, 114, 100, 32] ++ M.hex8 y = wordM ++ M.hex8 y from rfl, wordM_prefix] at h1
      cases h1
    · rw [lineT_yes hd, lineT_yes hk] at e
      obtain ⟨h1, h2, h3, h4, h5⟩ := text_inj (dok_ok hd).1 (dok_ok hk).1 e
      rw [← (dok_ok hd).2, ← (dok_ok hk).2, h1, h2, h3, h4, h5]

theorem ln_line {b : List UInt8} (t : List UInt8) (h : (10 : UInt8) ∉ b) : M.ln (b ++ 10 :: t) = (b, true) :: M.ln t := by
  rw [ln_cons (by simp), cut_at t h]
theorem ln_dis (xs : List Int) (t : List UInt8) : M.ln (M.disT xs ++ t) = xs.map gd ++ M.ln t := by
  induction xs with
  | nil => rfl
  | cons x r ih =>
    have e : M.disT (x :: r) ++ t = M.lineT x ++ 10 :: (M.disT r ++ t) := by
      unfold M.disT; simp
    rw [e, ln_line _ (lineT_no10 x), ih]
    rfl
theorem ln_disT (xs : List Int) : M.ln (M.disT xs) = xs.map gd := by
  have := ln_dis xs []
  rw [List.append_nil, ln_nil, List.append_nil] at this
  exact this
theorem ln_whole : ∀ (n : Nat) (s : List UInt8), s.length ≤ n → ((M.ln s).map fun z => z.1 ++ if z.2 = true then [10] else []).flatten = s
  | 0, s, h => by
    have e := List.eq_nil_of_length_eq_zero (Nat.le_zero.1 h)
    subst e; rfl
  | n + 1, s, h => by
    by_cases hs : s = []
    · subst hs; rfl
    · rcases split_at s with h1 | ⟨x, r, rfl, h1⟩
      · rw [ln_cons hs, cut_no h1]
        simp [ln_nil]
      · rw [ln_line r h1]
        have ih := ln_whole n r (by simp at h; omega)
        simp only [List.map_cons, List.flatten_cons, if_true]
        rw [ih]
        simp
theorem dis_of_ln {s : List UInt8} {xs : List Int} (h : M.ln s = xs.map gd) : M.disT xs = s := by
  have := ln_whole s.length s (Nat.le_refl _)
  rw [h, List.map_map] at this
  rw [← this]
  unfold M.disT
  congr 1
theorem gd_inj {xs ys : List Int} (hx : Rng xs) (hy : Rng ys) (e : xs.map gd = ys.map gd) : xs = ys := by
  induction xs generalizing ys with
  | nil => cases ys with
    | nil => rfl
    | cons y r => cases e
  | cons x r ih => cases ys with
    | nil => cases e
    | cons y q =>
      simp only [List.map_cons, List.cons.injEq] at e
      have e1 : M.lineT x = M.lineT y := (Prod.mk.injEq _ _ _ _ ▸ e.1 : M.lineT x = M.lineT y ∧ true = true).1
      rw [lineT_inj (hx x List.mem_cons_self) (hy y List.mem_cons_self) e1, ih (fun z hz => hx z (List.mem_cons_of_mem _ hz)) (fun z hz => hy z (List.mem_cons_of_mem _ hz)) e.2]
theorem dis_inj {xs ys : List Int} (hx : Rng xs) (hy : Rng ys) (e : M.disT xs = M.disT ys) : xs = ys := by
  refine gd_inj hx hy ?_
  rw [← ln_disT, ← ln_disT, e]
theorem gd_good {xs : List Int} (hx : Rng xs) {y : List UInt8 × Bool} (h : y ∈ xs.map gd) : ¬ Bad y := by
  obtain ⟨x, h1, rfl⟩ := List.mem_map.1 h
  exact fun hb => hb ⟨rfl, x, (hx x h1).1, (hx x h1).2, rfl⟩
/-- the first bad line is one line -/
theorem first_bad {xs zs : List Int} (hx : Rng xs) (hz : Rng zs) {y z : List UInt8 × Bool} {r q : List (List UInt8 × Bool)} (hy : Bad y) (hk : Bad z) (e : xs.map gd ++ y :: r = zs.map gd ++ z :: q) : xs.length = zs.length := by
  induction xs generalizing zs with
  | nil => cases zs with
    | nil => rfl
    | cons a b =>
      simp only [List.map_nil, List.nil_append, List.map_cons, List.cons_append, List.cons.injEq] at e
      exact absurd hy (e.1 ▸ gd_good hz (by simp))
  | cons x p ih => cases zs with
    | nil =>
      simp only [List.map_nil, List.nil_append, List.map_cons, List.cons_append, List.cons.injEq] at e
      exact absurd hk (e.1 ▸ gd_good hx (by simp))
    | cons a b =>
      simp only [List.map_cons, List.cons_append, List.cons.injEq] at e
      rw [List.length_cons, List.length_cons, ih (fun z hz => hx z (List.mem_cons_of_mem _ hz)) (fun w hw => hz w (List.mem_cons_of_mem _ hw)) e.2]

theorem assemble_dis (xs : List Int) (hr : Rng xs) (W : World) (E : Env W) (hn : xs.length ≤ 1000) :
    Calls Tryz.prog 13 #[.string ⟨(M.disT xs).toArray⟩] W fun e W' => ∃ A c, e = .returned (.tuple #[.slice A xs.length c, .int .i64 0, .int .i64 0]) ∧ Words W' A xs ∧ Dn W W' := by
  have hl := disT_len xs hr
  refine (assemble _ W E (by omega)).mono ?_
  rintro e W' ⟨h | h, dn⟩
  · obtain ⟨ys, v, hy, hln, rfl, hrow⟩ := h
    rw [ln_disT] at hln
    have exy := gd_inj hr hy hln
    subst exy
    obtain ⟨A, c, rfl, hw⟩ := own_words hy hrow
    exact ⟨A, c, rfl, hw, dn⟩
  · obtain ⟨ys, y, rest, hy, hln, hb, _⟩ := h
    rw [ln_disT] at hln
    exact absurd hb (gd_good hr (by rw [hln]; simp))

theorem assemble_bad (xs : List Int) (hr : Rng xs) (b t s : List UInt8) (hs : s = M.disT xs ++ (b ++ 10 :: t)) (h10 : (10 : UInt8) ∉ b) (hb : ¬ IsLine b) (W : World) (E : Env W) (hn : s.length ≤ 100000) :
    Calls Tryz.prog 13 #[.string ⟨s.toArray⟩] W fun e W' => e = .returned (.tuple #[.slice none 0 0, .int .i64 2, .int .i64 (xs.length : Nat)]) ∧ Dn W W' := by
  have hln0 : M.ln s = xs.map gd ++ (b, true) :: M.ln t := by rw [hs, ln_dis, ln_line t h10]
  have hb2 : Bad (b, true) := fun h => hb h.2
  refine (assemble _ W E hn).mono ?_
  rintro e W' ⟨h | h, dn⟩
  · obtain ⟨ys, v, hy, hln, _⟩ := h
    rw [hln0] at hln
    exact absurd hb2 (gd_good hy (by rw [← hln]; simp))
  · obtain ⟨ys, y, rest, hy, hln, hk, rfl⟩ := h
    rw [hln0] at hln
    rw [first_bad hr hy hb2 hk hln]
    exact ⟨rfl, dn⟩

theorem assemble_half (xs : List Int) (hr : Rng xs) (b s : List UInt8) (hs : s = M.disT xs ++ b) (h10 : (10 : UInt8) ∉ b) (hb : b ≠ []) (W : World) (E : Env W) (hn : s.length ≤ 100000) :
    Calls Tryz.prog 13 #[.string ⟨s.toArray⟩] W fun e W' => e = .returned (.tuple #[.slice none 0 0, .int .i64 2, .int .i64 (xs.length : Nat)]) ∧ Dn W W' := by
  have hln0 : M.ln s = xs.map gd ++ (b, false) :: [] := by rw [hs, ln_dis, ln_cons hb, cut_no h10]; rfl
  have hb2 : Bad (b, false) := fun h => by cases h.1
  refine (assemble _ W E hn).mono ?_
  rintro e W' ⟨h | h, dn⟩
  · obtain ⟨ys, v, hy, hln, _⟩ := h
    rw [hln0] at hln
    exact absurd hb2 (gd_good hy (by rw [← hln]; simp))
  · obtain ⟨ys, y, rest, hy, hln, hk, rfl⟩ := h
    rw [hln0] at hln
    rw [first_bad hr hy hb2 hk hln]
    exact ⟨rfl, dn⟩

/-- at whatever text: the words whose text it is, or none -/
theorem assemble_any (s : List UInt8) (W : World) (E : Env W) (hn : s.length ≤ 100000) :
    Calls Tryz.prog 13 #[.string ⟨s.toArray⟩] W fun e W' => ((∃ xs A c, Rng xs ∧ M.disT xs = s ∧ xs.length ≤ s.length ∧ e = .returned (.tuple #[.slice A xs.length c, .int .i64 0, .int .i64 0]) ∧ Words W' A xs) ∨
      (∃ k : Nat, (∀ xs, Rng xs → M.disT xs ≠ s) ∧ k ≤ s.length ∧ e = .returned (.tuple #[.slice none 0 0, .int .i64 2, .int .i64 k]))) ∧ Dn W W' := by
  have hll := ln_len s
  refine (assemble _ W E hn).mono ?_
  rintro e W' ⟨h | h, dn⟩
  · obtain ⟨ys, v, hy, hln, rfl, hrow⟩ := h
    obtain ⟨A, c, rfl, hw⟩ := own_words hy hrow
    exact ⟨.inl ⟨ys, A, c, hy, dis_of_ln hln, by rw [hln] at hll; simpa using hll, rfl, hw⟩, dn⟩
  · obtain ⟨ys, y, rest, hy, hln, hb, rfl⟩ := h
    refine ⟨.inr ⟨ys.length, fun xs hx e => ?_, by rw [hln] at hll; simp at hll; omega, rfl⟩, dn⟩
    rw [← e, ln_disT] at hln
    exact absurd hb (gd_good hx (by rw [hln]; simp))

end Go.Proofs.YtokhipjpppfkgaaGreatDoor
