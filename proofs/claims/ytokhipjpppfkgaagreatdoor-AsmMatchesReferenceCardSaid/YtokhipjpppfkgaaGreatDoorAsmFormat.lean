/-
  What Format of package asm returns when called: contracts over the translated program. Conditions: the package variables hold what the program's text lays there.
-/
import Derived.Test.YtokhipjpppfkgaaGreatDoorAsmFmt
import Derived.Deep.RegionLawGrows
namespace Go.Proofs.YtokhipjpppfkgaaGreatDoor
open Go.ChangeShapes Go.WideShapes Go.ChangeAt Go.RowKit Go.Sort
set_option linter.unusedVariables false

theorem infoStr : (Tryz.prog.info? 9).map (fun i => (i.zero, i.size, i.bytes)) = some (some (.string ByteArray.empty), 1, 16) := by kernel_rfl

theorem StrRow.of_own {w : World} {B : Nat} {e : TypeId} {v : Value} {n : Nat} {l : List (List UInt8)} (h : w.ownsRow B e 1 v n (l.map fun t => Value.string ⟨t.toArray⟩)) (hn : 0 < n) : StrRow w v l := by
  obtain ⟨hl, hh⟩ := h
  rcases hh with ⟨_, h0⟩ | ⟨g, cap, cur, hv, hB, hb, hc, hm, hs, ht⟩
  · omega
  · have e : n = l.length := by simpa using hl.symm
    subst e
    refine ⟨_, cap, hv, hc, fun _ => ⟨g, rfl, ?_, fun j t hj => ?_⟩⟩
    · rcases Nat.lt_or_ge g w.heap.size with h' | h'
      · exact h'
      · rw [Array.getElem?_eq_none h'] at hb; cases hb
    · have h1 : (l.map fun t => Value.string ⟨t.toArray⟩)[j]? = some (.string ⟨t.toArray⟩) := by simp [hj]
      rw [← ht, List.getElem?_take] at h1
      split at h1
      · simp [World.cell?, hb, ← Array.getElem?_toList, h1]
      · cases h1

theorem Dn.of_grown {w w' : World} (h : w.grownBy w' none) : Dn w w' := ⟨h.os, h.tape, h.output, h.size, fun k hk => h.block k hk (by simp)⟩

theorem add0 (b j : Nat) : (⟨b, 0, none⟩ : Addr).add j = ⟨b, j, none⟩ := by
  unfold Addr.add
  split
  · simp_all
  · simp
theorem news_of {w : World} {b : Nat} {l : List (List UInt8)} (hg : ∀ (j : Nat) t, l[j]? = some t → w.cell? ⟨b, j, none⟩ = some (.string ⟨t.toArray⟩)) :
    ∀ (j : Nat) u, (l.map fun t => Value.string ⟨t.toArray⟩)[j]? = some u → w.cell? ((⟨b, 0, none⟩ : Addr).add j) = some u := by
  intro j u hu
  rw [add0]
  rw [List.getElem?_map] at hu
  cases h : l[j]? with
  | none => rw [h] at hu; cases hu
  | some t =>
    rw [h] at hu
    injection hu with hu
    subst hu
    exact hg j t h
theorem olds_of {w : World} {g : Nat} {x : Value} (h : w.cell? ⟨g, 0, none⟩ = some x) : ∀ b, some (⟨g, 0, none⟩ : Addr) = some b → ∀ (j : Nat) u, [x][j]? = some u → w.cell? (b.add j) = some u := by
  intro b hb j u hu
  injection hb with hb
  subst hb
  rw [add0]
  cases j with
  | zero =>
    injection hu with hu
    subst hu
    exact h
  | succ j => simp at hu
theorem one_strs (l : List (List UInt8)) : ∀ u ∈ (l.map fun t => Value.string ⟨t.toArray⟩), u.oneCell' = true := by
  intro u hu
  obtain ⟨t, _, rfl⟩ := List.mem_map.1 hu
  rfl
theorem new_cell0 (w : World) (x : Value) (t : TypeId) : (w.alloc (.cells #[x] t)).cell? ⟨w.heap.size, 0, none⟩ = some x := by rw [World.cell?_alloc_new]; rfl

theorem StrRow.one {w : World} {g : Nat} {t : List UInt8} (h : w.cell? ⟨g, 0, none⟩ = some (.string ⟨t.toArray⟩)) : StrRow w (.slice (some ⟨g, 0, none⟩) 1 1) [t] :=
  ⟨_, 1, rfl, Nat.le_refl _, fun _ => ⟨g, rfl, lt_of_cell h, fun j u hu => by
    cases j with
    | zero => simp at hu; subst hu; exact h
    | succ j => simp at hu⟩⟩

theorem join_any {w : World} {v : Value} {l : List (List UInt8)} (row : StrRow w v l) (hne : l ≠ []) (hn : l.length ≤ 100) (hlen : (Lib.join l [32]).length ≤ 100000) :
    Calls Tryz.prog 22 #[v, .string ⟨#[32]⟩] w fun e w' => e = .returned (.string ⟨(Lib.join l [32]).toArray⟩) ∧ Dn w w' := by
  obtain ⟨A, c, rfl, hc, hA⟩ := row
  obtain ⟨b, rfl, hb, hg⟩ := hA hne
  have em : (l.map fun t => (⟨t.toArray⟩ : ByteArray)).map (·.data.toList) = l := by simp [List.map_map, Function.comp_def]
  have := Tryz.strings_Join b 0 c (l.map fun t => (⟨t.toArray⟩ : ByteArray)) ⟨#[32]⟩ w (fun j x hx => by
    rw [List.getElem?_map] at hx
    cases h : l[j]? with
    | none => rw [h] at hx; cases hx
    | some t =>
      rw [h] at hx
      injection hx with hx
      subst hx
      rw [Nat.zero_add]; exact hg j t h) hb (by rw [List.length_map]; omega) (by rw [List.length_map]; exact hc) (by rw [em]; exact Nat.le_trans hlen (by decide))
  rw [List.length_map, em] at this
  exact this

set_option maxRecDepth 100000 in
set_option maxHeartbeats 2000000 in
theorem format_yes (op rd ra rb imm : Int) (W : World) (E : Env W) (h : M.ok op rd ra rb imm = true) (hne : M.opsT op rd ra rb imm ≠ []) :
    Calls Tryz.prog 9 #[.agg #[.int .i64 op, .int .i64 rd, .int .i64 ra, .int .i64 rb, .int .i32 imm]] W fun e W' => e = .returned (.tuple #[.string ⟨(M.text op rd ra rb imm).toArray⟩, .int .i64 0]) ∧ Dn W W' := by
  obtain ⟨⟨o1, o2⟩, ⟨d1, d2⟩, ⟨a1, a2⟩, ⟨b1, b2⟩, ⟨i1, i2⟩⟩ := M.ok_rng _ _ _ _ _ h
  obtain ⟨i0, hi, hz0, hz1, hz2⟩ := info_parts infoStr
  have C : ∀ w, Env w → Calls Tryz.prog 21 #[.agg #[.int .i64 op, .int .i64 rd, .int .i64 ra, .int .i64 rb, .int .i32 imm]] w (OpRet w (M.opsT op rd ra rb imm)) := fun w e => operandTexts op rd ra rb imm w e h
  have HC := Lib.hid C
  clear C
  have hlen := M.opsT_len op rd ra rb imm
  have hpos := List.length_pos_iff.2 hne
  have p0 : 0 ≤ op := by omega
  have p1 : op < 26 := by omega
  go_enter Tryz.func9, Tryz.ntmps9
  go_wp2_with (go_at_call 20; refine (valid _ _ _ _ _ _ (E.tabs.up ((Up.refl _).alloc _)) (by omega) (by omega)).mono ?_; rintro e w1 ⟨rfl, up1⟩)
  have bx := (Box.new W (.int .i64 op) (.int .i64 rd) (.int .i64 ra) (.int .i64 rb) (.int .i32 imm) 23).up up1
  have dn := ((Dn.refl W).alloc _).trans up1.dn
  have E1 := E.dn dn
  clear up1
  have cm := E1.mnem op (by omega) (by omega)
  obtain ⟨c0, c1, c2, c3, c4, c5⟩ := bx.open
  have hl := E1.lt
  go_region_held3 (fun w' => w'.cell? ⟨W.heap.size, 0, none⟩ = some (.int .i64 op) ∧ w'.cell? ⟨W.heap.size, 1, none⟩ = some (.int .i64 rd) ∧ w'.cell? ⟨W.heap.size, 2, none⟩ = some (.int .i64 ra) ∧ w'.cell? ⟨W.heap.size, 3, none⟩ = some (.int .i64 rb) ∧ w'.cell? ⟨W.heap.size, 4, none⟩ = some (.int .i32 imm) ∧ w'.cell? ⟨0, op.toNat, none⟩ = some (.string ⟨(M.mnem op).toArray⟩))
    (first
      | exact ⟨c0, c1, c2, c3, c4, cm⟩
      | exact ⟨Dn.keep (((Dn.refl _).alloc _).drew) c0, Dn.keep (((Dn.refl _).alloc _).drew) c1, Dn.keep (((Dn.refl _).alloc _).drew) c2, Dn.keep (((Dn.refl _).alloc _).drew) c3, Dn.keep (((Dn.refl _).alloc _).drew) c4, Dn.keep (((Dn.refl _).alloc _).drew) cm⟩
      | exact ⟨bx2.c0, bx2.c1, bx2.c2, bx2.c3, bx2.c4, cm2⟩
      | exact ⟨Dn.keep ((Dn.refl _).alloc _) bx2.c0, Dn.keep ((Dn.refl _).alloc _) bx2.c1, Dn.keep ((Dn.refl _).alloc _) bx2.c2, Dn.keep ((Dn.refl _).alloc _) bx2.c3, Dn.keep ((Dn.refl _).alloc _) bx2.c4, Dn.keep ((Dn.refl _).alloc _) cm2⟩
      | exact ⟨Dn.keep dn3 bx2.c0, Dn.keep dn3 bx2.c1, Dn.keep dn3 bx2.c2, Dn.keep dn3 bx2.c3, Dn.keep dn3 bx2.c4, Dn.keep dn3 cm2⟩)
    (first
      | (go_at_call 21; refine (HC.out _ (E1.dn (((Dn.refl _).alloc _).drew))).mono ?_; rintro e w2 ⟨v, rfl, ⟨A, c, rfl, hc, hA⟩, dn2⟩; obtain ⟨b, rfl, hb, hg⟩ := hA hne; have bx2 := (bx.dn (((Dn.refl _).alloc _).drew)).dn dn2; have cm2 := Dn.keep dn2 (Dn.keep (((Dn.refl _).alloc _).drew) cm); have old2 := Dn.keep (dn2.trans (Dn.refl _)) (Dn.keep ((Dn.refl _).drew) (new_cell0 w1 (.string ⟨(M.mnem op).toArray⟩) 9)))
      | (go_at_call 21; refine (HC.out _ (E1.dn ((Dn.refl _).drew))).mono ?_; rintro e w2 ⟨v, rfl, ⟨A, c, rfl, hc, hA⟩, dn2⟩; obtain ⟨b, rfl, hb, hg⟩ := hA hne; have bx2 := (bx.dn ((Dn.refl _).drew)).dn dn2; have cm2 := Dn.keep dn2 (Dn.keep ((Dn.refl _).drew) cm))
      | (refine step_append_grows rfl _ _ 49 rfl 9 i0 _ 1 16 Tryz.underlying49 hi hz0 hz1 hz2 rfl (by decide) _ 1 1 [.string ⟨(M.mnem op).toArray⟩] rfl (fun h => by cases h) rfl (olds_of old2) ⟨b, 0, none⟩ _ c _ rfl (by simp) (news_of hg) (one_strs _) (by omega) (by unfold maxLen; omega) (by omega) ?_; intro v' w3 own gr; have dn3 := Dn.of_grown gr)
      | (refine step_append_grows rfl _ _ 49 rfl 9 i0 _ 1 16 Tryz.underlying49 hi hz0 hz1 hz2 rfl (by decide) _ 1 1 [.string ⟨(M.mnem op).toArray⟩] rfl (fun h => by cases h) rfl (olds_of (new_cell0 w2 _ 9)) ⟨b, 0, none⟩ _ c _ rfl (by simp) (news_of (fun j t ht => Dn.keep ((Dn.refl _).alloc _) (hg j t ht))) (one_strs _) (by omega) (by unfold maxLen; omega) (by omega) ?_; intro v' w3 own gr; have dn3 := ((Dn.refl _).alloc _).trans (Dn.of_grown gr)))
  · have row := StrRow.of_own (l := M.mnem op :: M.opsT op rd ra rb imm) own (by omega)
    have dd : Dn W w3 := ((dn.trans (((Dn.refl _).alloc _).drew)).trans dn2).trans dn3
    go_wp2_with (go_at_call 22; refine (join_any row (by simp) (by simp; omega) (Nat.le_trans (M.text_len _ _ _ _ _ h) (by decide))).mono ?_; rintro e w4 ⟨rfl, dn4⟩)
    go_ret2
    exact ⟨rfl, dd.trans dn4⟩
  · have row := StrRow.of_own (l := M.mnem op :: M.opsT op rd ra rb imm) own (by omega)
    have dd : Dn W w3 := ((dn.trans ((Dn.refl _).drew)).trans dn2).trans dn3
    go_wp2_with (go_at_call 22; refine (join_any row (by simp) (by simp; omega) (Nat.le_trans (M.text_len _ _ _ _ _ h) (by decide))).mono ?_; rintro e w4 ⟨rfl, dn4⟩)
    go_ret2
    exact ⟨rfl, dd.trans dn4⟩

set_option maxHeartbeats 1000000 in
theorem operandTexts4n (op rd ra rb imm : Int) (W : World) (E : Env W) (hf : M.form op = 4) :
    Calls Tryz.prog 21 #[.agg #[.int .i64 op, .int .i64 rd, .int .i64 ra, .int .i64 rb, .int .i32 imm]] W fun e W' => e = .returned (.slice none 0 0) ∧ Dn W W' := by
  go_enter Tryz.func21, Tryz.ntmps21
  go_wp2_with (go_at_call 41; refine (formatOf _ _ (E.tabs.up ((Up.refl _).alloc _))).mono ?_; rintro e w' ⟨rfl, rfl⟩)
  go_ret
  exact ⟨rfl, (Dn.refl _).alloc _⟩

set_option maxRecDepth 100000 in
set_option maxHeartbeats 2000000 in
theorem format_n (op rd ra rb imm : Int) (W : World) (E : Env W) (h : M.ok op rd ra rb imm = true) (hf : M.form op = 4) :
    Calls Tryz.prog 9 #[.agg #[.int .i64 op, .int .i64 rd, .int .i64 ra, .int .i64 rb, .int .i32 imm]] W fun e W' => e = .returned (.tuple #[.string ⟨(M.text op rd ra rb imm).toArray⟩, .int .i64 0]) ∧ Dn W W' := by
  obtain ⟨⟨o1, o2⟩, ⟨d1, d2⟩, ⟨a1, a2⟩, ⟨b1, b2⟩, ⟨i1, i2⟩⟩ := M.ok_rng _ _ _ _ _ h
  have C : ∀ w, Env w → Calls Tryz.prog 21 #[.agg #[.int .i64 op, .int .i64 rd, .int .i64 ra, .int .i64 rb, .int .i32 imm]] w fun e W' => e = .returned (.slice none 0 0) ∧ Dn w W' := fun w e => operandTexts4n op rd ra rb imm w e hf
  have HC := Lib.hid C
  have HT : Hid (M.text op rd ra rb imm = Lib.join [M.mnem op] [32]) := by
    have : M.opsT op rd ra rb imm = [] := by unfold M.opsT; simp [hf]
    unfold M.text; rw [this]; exact Lib.hid rfl
  clear C
  have p0 : 0 ≤ op := by omega
  have p1 : op < 26 := by omega
  have hml := M.mnem_len op
  go_enter Tryz.func9, Tryz.ntmps9
  go_wp2_with (go_at_call 20; refine (valid _ _ _ _ _ _ (E.tabs.up ((Up.refl _).alloc _)) (by omega) (by omega)).mono ?_; rintro e w1 ⟨rfl, up1⟩)
  have bx := (Box.new W (.int .i64 op) (.int .i64 rd) (.int .i64 ra) (.int .i64 rb) (.int .i32 imm) 23).up up1
  have dn := ((Dn.refl W).alloc _).trans up1.dn
  have E1 := E.dn dn
  clear up1 hf
  have cm := E1.mnem op (by omega) (by omega)
  obtain ⟨c0, c1, c2, c3, c4, c5⟩ := bx.open
  have hl := E1.lt
  go_region_held3 (fun w' => w'.cell? ⟨W.heap.size, 0, none⟩ = some (.int .i64 op) ∧ w'.cell? ⟨W.heap.size, 1, none⟩ = some (.int .i64 rd) ∧ w'.cell? ⟨W.heap.size, 2, none⟩ = some (.int .i64 ra) ∧ w'.cell? ⟨W.heap.size, 3, none⟩ = some (.int .i64 rb) ∧ w'.cell? ⟨W.heap.size, 4, none⟩ = some (.int .i32 imm) ∧ w'.cell? ⟨0, op.toNat, none⟩ = some (.string ⟨(M.mnem op).toArray⟩))
    (first
      | exact ⟨c0, c1, c2, c3, c4, cm⟩
      | exact ⟨Dn.keep (((Dn.refl _).alloc _).drew) c0, Dn.keep (((Dn.refl _).alloc _).drew) c1, Dn.keep (((Dn.refl _).alloc _).drew) c2, Dn.keep (((Dn.refl _).alloc _).drew) c3, Dn.keep (((Dn.refl _).alloc _).drew) c4, Dn.keep (((Dn.refl _).alloc _).drew) cm⟩
      | exact ⟨bx2.c0, bx2.c1, bx2.c2, bx2.c3, bx2.c4, cm2⟩
      | exact ⟨Dn.keep ((Dn.refl _).alloc _) bx2.c0, Dn.keep ((Dn.refl _).alloc _) bx2.c1, Dn.keep ((Dn.refl _).alloc _) bx2.c2, Dn.keep ((Dn.refl _).alloc _) bx2.c3, Dn.keep ((Dn.refl _).alloc _) bx2.c4, Dn.keep ((Dn.refl _).alloc _) cm2⟩)
    (first
      | (go_at_call 21; refine (HC.out _ (E1.dn (((Dn.refl _).alloc _).drew))).mono ?_; rintro e w2 ⟨rfl, dn2⟩; have bx2 := (bx.dn (((Dn.refl _).alloc _).drew)).dn dn2; have cm2 := Dn.keep dn2 (Dn.keep (((Dn.refl _).alloc _).drew) cm); have old2 := Dn.keep (dn2.trans (Dn.refl _)) (Dn.keep ((Dn.refl _).drew) (new_cell0 w1 (.string ⟨(M.mnem op).toArray⟩) 9)))
      | (go_at_call 21; refine (HC.out _ (E1.dn ((Dn.refl _).drew))).mono ?_; rintro e w2 ⟨rfl, dn2⟩; have bx2 := (bx.dn ((Dn.refl _).drew)).dn dn2; have cm2 := Dn.keep dn2 (Dn.keep ((Dn.refl _).drew) cm)))
  · have row := StrRow.one old2
    have dd : Dn W w2 := (dn.trans (((Dn.refl _).alloc _).drew)).trans dn2
    go_wp2_with (go_at_call 22; refine (join_any row (by simp) (by simp) (by rw [← HT.out]; exact Nat.le_trans (M.text_len _ _ _ _ _ h) (by decide))).mono ?_; rintro e w4 ⟨rfl, dn4⟩)
    go_ret2
    rw [HT.out]
    exact ⟨rfl, dd.trans dn4⟩
  · have row := StrRow.new w2 [M.mnem op] _ 9 rfl
    have dd : Dn W w2 := (dn.trans ((Dn.refl _).drew)).trans dn2
    go_wp2_with (go_at_call 22; refine (join_any row (by simp) (by simp) (by rw [← HT.out]; exact Nat.le_trans (M.text_len _ _ _ _ _ h) (by decide))).mono ?_; rintro e w4 ⟨rfl, dn4⟩)
    go_ret2
    rw [HT.out]
    exact ⟨rfl, (dd.alloc _).trans dn4⟩

set_option maxHeartbeats 400000 in
theorem format_no (op rd ra rb imm : Int) (W : World) (E : Env W) (h : M.ok op rd ra rb imm = false) (hx0 : -2147483648 ≤ imm) (hx : imm < 2147483648) :
    Calls Tryz.prog 9 #[.agg #[.int .i64 op, .int .i64 rd, .int .i64 ra, .int .i64 rb, .int .i32 imm]] W fun e W' => e = .returned (.tuple #[.string ⟨#[]⟩, .int .i64 1]) ∧ Dn W W' := by
  go_enter Tryz.func9, Tryz.ntmps9
  go_wp2_with (go_at_call 20; refine (valid _ _ _ _ _ _ (E.tabs.up ((Up.refl _).alloc _)) (by omega) (by omega)).mono ?_; rintro e w1 ⟨rfl, up1⟩)
  go_ret2
  exact ⟨rfl, ((Dn.refl W).alloc _).trans up1.dn⟩

/-- what Format returns -/
def fmtT (op rd ra rb imm : Int) : List UInt8 := if M.ok op rd ra rb imm = true then M.text op rd ra rb imm else []
def fmtE (op rd ra rb imm : Int) : Int := if M.ok op rd ra rb imm = true then 0 else 1
theorem fmt_ok {op rd ra rb imm : Int} (h : M.ok op rd ra rb imm = true) : fmtT op rd ra rb imm = M.text op rd ra rb imm ∧ fmtE op rd ra rb imm = 0 := ⟨if_pos h, if_pos h⟩
theorem fmt_no {op rd ra rb imm : Int} (h : M.ok op rd ra rb imm = false) : fmtT op rd ra rb imm = [] ∧ fmtE op rd ra rb imm = 1 := by unfold fmtT fmtE; rw [h]; exact ⟨rfl, rfl⟩

theorem format_ok (op rd ra rb imm : Int) (W : World) (E : Env W) (h : M.ok op rd ra rb imm = true) :
    Calls Tryz.prog 9 #[.agg #[.int .i64 op, .int .i64 rd, .int .i64 ra, .int .i64 rb, .int .i32 imm]] W fun e W' => e = .returned (.tuple #[.string ⟨(M.text op rd ra rb imm).toArray⟩, .int .i64 0]) ∧ Dn W W' := by
  by_cases hn : M.opsT op rd ra rb imm = []
  · refine format_n op rd ra rb imm W E h ?_
    have hz := (M.ok_parts _ _ _ _ _ h).1
    unfold M.opsT at hn
    rcases forms _ (M.form_rng op) with e | e | e | e | e | e | e | e
    · exact absurd e hz
    · simp [e] at hn
    · simp [e] at hn
    · simp [e] at hn
    · exact e
    · simp [e] at hn
    · simp [e] at hn
    · simp [e] at hn
  · exact format_yes op rd ra rb imm W E h hn

theorem format (op rd ra rb imm : Int) (W : World) (E : Env W) (hx0 : -2147483648 ≤ imm) (hx : imm < 2147483648) :
    Calls Tryz.prog 9 #[.agg #[.int .i64 op, .int .i64 rd, .int .i64 ra, .int .i64 rb, .int .i32 imm]] W fun e W' => e = .returned (.tuple #[.string ⟨(fmtT op rd ra rb imm).toArray⟩, .int .i64 (fmtE op rd ra rb imm)]) ∧ Dn W W' := by
  cases h : M.ok op rd ra rb imm
  · rw [(fmt_no h).1, (fmt_no h).2]; exact format_no op rd ra rb imm W E h hx0 hx
  · rw [(fmt_ok h).1, (fmt_ok h).2]; exact format_ok op rd ra rb imm W E h

end Go.Proofs.YtokhipjpppfkgaaGreatDoor
