/-
  What the functions of package asm that write operands return when called: contracts over the translated program. Conditions: those that stand in each theorem.
-/
import Derived.Test.YtokhipjpppfkgaaGreatDoorAsmEnv
import Derived.Deep.RegionHeld3
namespace Go.Proofs.YtokhipjpppfkgaaGreatDoor
open Go.ChangeShapes Go.WideShapes Go.ChangeAt Go.RowKit Go.Sort
set_option linter.unusedVariables false

theorem ret_str {a b : List UInt8} (h : a = b) : Ending.returned (.string ⟨a.toArray⟩) = .returned (.string ⟨b.toArray⟩) := by rw [h]

set_option maxHeartbeats 400000 in
theorem registerText (r : Int) (W : World) (h0 : 0 ≤ r) (h1 : r ≤ 15) :
    Calls Tryz.prog 44 #[.int .i64 r] W fun e W' => e = .returned (.string ⟨(M.regT r).toArray⟩) ∧ W = W' := by
  obtain ⟨n, rfl⟩ := Int.eq_ofNat_of_zero_le h0
  have hl := M.itoa_len n (by omega) (by omega)
  rw [M.itoa_nat] at hl
  have HE : Hid (M.regT n = 114 :: Lib.decDigits n) := by unfold M.regT; rw [M.itoa_nat]; exact Lib.hid rfl
  go_enter Tryz.func44, Tryz.ntmps44
  go_wp2_with (go_at_call 64; refine (Tryz.strconv_Itoa_small n (by omega) _).mono ?_; rintro e w' ⟨rfl, rfl⟩)
  go_ret
  exact ⟨ret_str HE.out.symm, rfl⟩

set_option maxHeartbeats 400000 in
theorem numberText (n : Int) (W : World) (E : Env W) (h0 : -2147483648 ≤ n) (h1 : n < 2147483648) :
    Calls Tryz.prog 45 #[.int .i32 n] W fun e W' => e = .returned (.string ⟨(Lib.itoa n).toArray⟩) ∧ Dn W W' := by
  go_enter Tryz.func45, Tryz.ntmps45
  go_wp2_with (go_at_call 65; refine (Tryz.strconv_FormatInt_10 _ (by omega) (by omega) _ E.pow10).mono ?_; rintro e w' ⟨rfl, k, os, rfl⟩)
  go_ret
  exact ⟨rfl, Dn.of_grow _ _ _⟩

set_option maxHeartbeats 400000 in
theorem csrText (n : Int) (W : World) (E : Env W) (h0 : -2147483648 ≤ n) (h1 : n < 2147483648) :
    Calls Tryz.prog 46 #[.int .i32 n] W fun e W' => e = .returned (.string ⟨(M.csrT n).toArray⟩) ∧ Dn W W' := by
  have hl := M.itoa_len n (by omega) (by omega)
  have HE : Hid (M.csrT n = 99 :: Lib.itoa n) := by unfold M.csrT; exact Lib.hid rfl
  go_enter Tryz.func46, Tryz.ntmps46
  go_wp2_with (go_at_call 45; refine (numberText _ _ E (by omega) (by omega)).mono ?_; rintro e w' ⟨rfl, dn⟩)
  go_ret
  exact ⟨ret_str HE.out.symm, dn⟩

/-- a list of strings in memory -/
def StrRow (w : World) (v : Value) (l : List (List UInt8)) : Prop :=
  ∃ A c, v = .slice A l.length c ∧ l.length ≤ c ∧ (l ≠ [] → ∃ b, A = some ⟨b, 0, none⟩ ∧ b < w.heap.size ∧ ∀ (j : Nat) t, l[j]? = some t → w.cell? ⟨b, j, none⟩ = some (.string ⟨t.toArray⟩))

def OpRet (W : World) (l : List (List UInt8)) (e : Ending) (W' : World) : Prop := ∃ v, e = .returned v ∧ StrRow W' v l ∧ Dn W W'

theorem StrRow.dn {w w' : World} {v : Value} {l : List (List UInt8)} (h : StrRow w v l) (k : Dn w w') : StrRow w' v l := by
  obtain ⟨A, c, hv, hc, hA⟩ := h
  exact ⟨A, c, hv, hc, fun hl => by
    obtain ⟨b, e, hb, hg⟩ := hA hl
    exact ⟨b, e, Nat.lt_of_lt_of_le hb k.size, fun j t ht => k.keep (hg j t ht)⟩⟩

theorem StrRow.new (w : World) (l : List (List UInt8)) (cs : Array Value) (t : TypeId) (hcs : cs = (l.map fun t => Value.string ⟨t.toArray⟩).toArray) :
    StrRow (w.alloc (.cells cs t)) (.slice (some ⟨w.heap.size, 0, none⟩) l.length l.length) l :=
  ⟨_, _, rfl, Nat.le_refl _, fun _ => ⟨_, rfl, by simp, fun j u hu => by
    rw [World.cell?_alloc_new]
    subst hcs
    simp [hu]⟩⟩

theorem StrRow.new_at (w : World) (l : List (List UInt8)) (cs : Array Value) (t : TypeId) (n : Nat) (hcs : cs = (l.map fun t => Value.string ⟨t.toArray⟩).toArray) (hn : w.heap.size = n) :
    StrRow (w.alloc (.cells cs t)) (.slice (some ⟨n, 0, none⟩) l.length l.length) l := by
  subst hn
  exact StrRow.new w l cs t hcs

theorem StrRow.nil (w : World) : StrRow w (.slice none 0 0) [] := ⟨none, 0, rfl, Nat.le_refl _, fun h => absurd rfl h⟩

set_option maxHeartbeats 1000000 in
theorem operandTexts1 (op rd ra rb imm : Int) (W : World) (E : Env W) (h : M.ok op rd ra rb imm = true) (hf : M.form op = 1) :
    Calls Tryz.prog 21 #[.agg #[.int .i64 op, .int .i64 rd, .int .i64 ra, .int .i64 rb, .int .i32 imm]] W (OpRet W [M.regT rd, M.regT ra, M.regT rb]) := by
  obtain ⟨⟨o1, o2⟩, ⟨d1, d2⟩, ⟨a1, a2⟩, ⟨b1, b2⟩, ⟨i1, i2⟩⟩ := M.ok_rng _ _ _ _ _ h
  clear h
  go_enter Tryz.func21, Tryz.ntmps21
  go_wp2_with (go_at_call 41; refine (formatOf _ _ (E.tabs.up ((Up.refl _).alloc _))).mono ?_; rintro e w' ⟨rfl, rfl⟩)
  have bx := Box.new W (.int .i64 op) (.int .i64 rd) (.int .i64 ra) (.int .i64 rb) (.int .i32 imm) 23
  have dn := (Dn.refl W).alloc (.cells #[.int .i64 op, .int .i64 rd, .int .i64 ra, .int .i64 rb, .int .i32 imm] 23)
  generalize W.alloc (.cells #[.int .i64 op, .int .i64 rd, .int .i64 ra, .int .i64 rb, .int .i32 imm] 23) = w1 at *
  have E1 := E.dn dn
  obtain ⟨c0, c1, c2, c3, c4, c5⟩ := bx.open
  go_region_held3 (fun w' => w'.cell? ⟨W.heap.size, 1, none⟩ = some (.int .i64 rd) ∧ w'.cell? ⟨W.heap.size, 2, none⟩ = some (.int .i64 ra) ∧ w'.cell? ⟨W.heap.size, 3, none⟩ = some (.int .i64 rb))
    (first | exact ⟨c1, c2, c3⟩ | exact ⟨Dn.keep ((Dn.refl _).alloc _) bx.c1, Dn.keep ((Dn.refl _).alloc _) bx.c2, Dn.keep ((Dn.refl _).alloc _) bx.c3⟩ | exact ⟨Dn.keep (((Dn.refl _).alloc _).drew) bx.c1, Dn.keep (((Dn.refl _).alloc _).drew) bx.c2, Dn.keep (((Dn.refl _).alloc _).drew) bx.c3⟩ | exact ⟨bx2.c1, bx2.c2, bx2.c3⟩ | exact ⟨Dn.keep ((Dn.refl _).alloc _) bx2.c1, Dn.keep ((Dn.refl _).alloc _) bx2.c2, Dn.keep ((Dn.refl _).alloc _) bx2.c3⟩ | exact ⟨Dn.keep (((Dn.refl _).alloc _).drew) bx2.c1, Dn.keep (((Dn.refl _).alloc _).drew) bx2.c2, Dn.keep (((Dn.refl _).alloc _).drew) bx2.c3⟩)
    (first
    | (go_at_call 44; refine (registerText _ _ (by omega) (by omega)).mono ?_; rintro e w' ⟨rfl, rfl⟩))
  go_wp2
  go_ret
  exact ⟨_, rfl, (StrRow.new _ [M.regT rd, M.regT ra, M.regT rb] _ _ rfl).dn ((Dn.refl _).drew), (dn.alloc _).drew⟩

set_option maxHeartbeats 1000000 in
theorem operandTexts2 (op rd ra rb imm : Int) (W : World) (E : Env W) (h : M.ok op rd ra rb imm = true) (hf : M.form op = 2) :
    Calls Tryz.prog 21 #[.agg #[.int .i64 op, .int .i64 rd, .int .i64 ra, .int .i64 rb, .int .i32 imm]] W (OpRet W [M.regT rd, M.regT ra, Lib.itoa imm]) := by
  obtain ⟨⟨o1, o2⟩, ⟨d1, d2⟩, ⟨a1, a2⟩, ⟨b1, b2⟩, ⟨i1, i2⟩⟩ := M.ok_rng _ _ _ _ _ h
  clear h
  go_enter Tryz.func21, Tryz.ntmps21
  go_wp2_with (go_at_call 41; refine (formatOf _ _ (E.tabs.up ((Up.refl _).alloc _))).mono ?_; rintro e w' ⟨rfl, rfl⟩)
  have bx := Box.new W (.int .i64 op) (.int .i64 rd) (.int .i64 ra) (.int .i64 rb) (.int .i32 imm) 23
  have dn := (Dn.refl W).alloc (.cells #[.int .i64 op, .int .i64 rd, .int .i64 ra, .int .i64 rb, .int .i32 imm] 23)
  generalize W.alloc (.cells #[.int .i64 op, .int .i64 rd, .int .i64 ra, .int .i64 rb, .int .i32 imm] 23) = w1 at *
  have E1 := E.dn dn
  obtain ⟨c0, c1, c2, c3, c4, c5⟩ := bx.open
  go_region_held3 (fun w' => w'.cell? ⟨W.heap.size, 1, none⟩ = some (.int .i64 rd) ∧ w'.cell? ⟨W.heap.size, 2, none⟩ = some (.int .i64 ra) ∧ w'.cell? ⟨W.heap.size, 4, none⟩ = some (.int .i32 imm))
    (first | exact ⟨c1, c2, c4⟩ | exact ⟨Dn.keep ((Dn.refl _).alloc _) bx.c1, Dn.keep ((Dn.refl _).alloc _) bx.c2, Dn.keep ((Dn.refl _).alloc _) bx.c4⟩ | exact ⟨Dn.keep (((Dn.refl _).alloc _).drew) bx.c1, Dn.keep (((Dn.refl _).alloc _).drew) bx.c2, Dn.keep (((Dn.refl _).alloc _).drew) bx.c4⟩ | exact ⟨bx2.c1, bx2.c2, bx2.c4⟩ | exact ⟨Dn.keep ((Dn.refl _).alloc _) bx2.c1, Dn.keep ((Dn.refl _).alloc _) bx2.c2, Dn.keep ((Dn.refl _).alloc _) bx2.c4⟩ | exact ⟨Dn.keep (((Dn.refl _).alloc _).drew) bx2.c1, Dn.keep (((Dn.refl _).alloc _).drew) bx2.c2, Dn.keep (((Dn.refl _).alloc _).drew) bx2.c4⟩)
    (first
    | (go_at_call 44; refine (registerText _ _ (by omega) (by omega)).mono ?_; rintro e w' ⟨rfl, rfl⟩)
    | (go_at_call 45; refine (numberText _ _ (E1.dn ((Dn.refl _).drew)) (by omega) (by omega)).mono ?_; rintro e w2 ⟨rfl, dn2⟩; have bx2 := (bx.dn ((Dn.refl _).drew)).dn dn2))
  go_wp2
  go_ret
  exact ⟨_, rfl, StrRow.new _ [M.regT rd, M.regT ra, Lib.itoa imm] _ _ rfl, ((dn.trans ((Dn.refl _).drew)).trans dn2).alloc _⟩

set_option maxHeartbeats 1000000 in
theorem operandTexts3 (op rd ra rb imm : Int) (W : World) (E : Env W) (h : M.ok op rd ra rb imm = true) (hf : M.form op = 3) :
    Calls Tryz.prog 21 #[.agg #[.int .i64 op, .int .i64 rd, .int .i64 ra, .int .i64 rb, .int .i32 imm]] W (OpRet W [M.regT rd, Lib.itoa imm]) := by
  obtain ⟨⟨o1, o2⟩, ⟨d1, d2⟩, ⟨a1, a2⟩, ⟨b1, b2⟩, ⟨i1, i2⟩⟩ := M.ok_rng _ _ _ _ _ h
  clear h
  go_enter Tryz.func21, Tryz.ntmps21
  go_wp2_with (go_at_call 41; refine (formatOf _ _ (E.tabs.up ((Up.refl _).alloc _))).mono ?_; rintro e w' ⟨rfl, rfl⟩)
  have bx := Box.new W (.int .i64 op) (.int .i64 rd) (.int .i64 ra) (.int .i64 rb) (.int .i32 imm) 23
  have dn := (Dn.refl W).alloc (.cells #[.int .i64 op, .int .i64 rd, .int .i64 ra, .int .i64 rb, .int .i32 imm] 23)
  generalize W.alloc (.cells #[.int .i64 op, .int .i64 rd, .int .i64 ra, .int .i64 rb, .int .i32 imm] 23) = w1 at *
  have E1 := E.dn dn
  obtain ⟨c0, c1, c2, c3, c4, c5⟩ := bx.open
  go_region_held3 (fun w' => w'.cell? ⟨W.heap.size, 1, none⟩ = some (.int .i64 rd) ∧ w'.cell? ⟨W.heap.size, 4, none⟩ = some (.int .i32 imm))
    (first | exact ⟨c1, c4⟩ | exact ⟨Dn.keep ((Dn.refl _).alloc _) bx.c1, Dn.keep ((Dn.refl _).alloc _) bx.c4⟩ | exact ⟨Dn.keep (((Dn.refl _).alloc _).drew) bx.c1, Dn.keep (((Dn.refl _).alloc _).drew) bx.c4⟩ | exact ⟨bx2.c1, bx2.c4⟩ | exact ⟨Dn.keep ((Dn.refl _).alloc _) bx2.c1, Dn.keep ((Dn.refl _).alloc _) bx2.c4⟩ | exact ⟨Dn.keep (((Dn.refl _).alloc _).drew) bx2.c1, Dn.keep (((Dn.refl _).alloc _).drew) bx2.c4⟩)
    (first
    | (go_at_call 44; refine (registerText _ _ (by omega) (by omega)).mono ?_; rintro e w' ⟨rfl, rfl⟩)
    | (go_at_call 45; refine (numberText _ _ (E1.dn ((Dn.refl _).drew)) (by omega) (by omega)).mono ?_; rintro e w2 ⟨rfl, dn2⟩; have bx2 := (bx.dn ((Dn.refl _).drew)).dn dn2))
  go_wp2
  go_ret
  exact ⟨_, rfl, StrRow.new _ [M.regT rd, Lib.itoa imm] _ _ rfl, ((dn.trans ((Dn.refl _).drew)).trans dn2).alloc _⟩

set_option maxHeartbeats 1000000 in
theorem operandTexts5 (op rd ra rb imm : Int) (W : World) (E : Env W) (h : M.ok op rd ra rb imm = true) (hf : M.form op = 5) :
    Calls Tryz.prog 21 #[.agg #[.int .i64 op, .int .i64 rd, .int .i64 ra, .int .i64 rb, .int .i32 imm]] W (OpRet W [M.regT rd, M.csrT imm]) := by
  obtain ⟨⟨o1, o2⟩, ⟨d1, d2⟩, ⟨a1, a2⟩, ⟨b1, b2⟩, ⟨i1, i2⟩⟩ := M.ok_rng _ _ _ _ _ h
  clear h
  go_enter Tryz.func21, Tryz.ntmps21
  go_wp2_with (go_at_call 41; refine (formatOf _ _ (E.tabs.up ((Up.refl _).alloc _))).mono ?_; rintro e w' ⟨rfl, rfl⟩)
  have bx := Box.new W (.int .i64 op) (.int .i64 rd) (.int .i64 ra) (.int .i64 rb) (.int .i32 imm) 23
  have dn := (Dn.refl W).alloc (.cells #[.int .i64 op, .int .i64 rd, .int .i64 ra, .int .i64 rb, .int .i32 imm] 23)
  generalize W.alloc (.cells #[.int .i64 op, .int .i64 rd, .int .i64 ra, .int .i64 rb, .int .i32 imm] 23) = w1 at *
  have E1 := E.dn dn
  obtain ⟨c0, c1, c2, c3, c4, c5⟩ := bx.open
  go_region_held3 (fun w' => w'.cell? ⟨W.heap.size, 1, none⟩ = some (.int .i64 rd) ∧ w'.cell? ⟨W.heap.size, 4, none⟩ = some (.int .i32 imm))
    (first | exact ⟨c1, c4⟩ | exact ⟨Dn.keep ((Dn.refl _).alloc _) bx.c1, Dn.keep ((Dn.refl _).alloc _) bx.c4⟩ | exact ⟨Dn.keep (((Dn.refl _).alloc _).drew) bx.c1, Dn.keep (((Dn.refl _).alloc _).drew) bx.c4⟩ | exact ⟨bx2.c1, bx2.c4⟩ | exact ⟨Dn.keep ((Dn.refl _).alloc _) bx2.c1, Dn.keep ((Dn.refl _).alloc _) bx2.c4⟩ | exact ⟨Dn.keep (((Dn.refl _).alloc _).drew) bx2.c1, Dn.keep (((Dn.refl _).alloc _).drew) bx2.c4⟩)
    (first
    | (go_at_call 44; refine (registerText _ _ (by omega) (by omega)).mono ?_; rintro e w' ⟨rfl, rfl⟩)
    | (go_at_call 46; refine (csrText _ _ (E1.dn ((Dn.refl _).drew)) (by omega) (by omega)).mono ?_; rintro e w2 ⟨rfl, dn2⟩; have bx2 := (bx.dn ((Dn.refl _).drew)).dn dn2))
  go_wp2
  go_ret
  exact ⟨_, rfl, StrRow.new _ [M.regT rd, M.csrT imm] _ _ rfl, ((dn.trans ((Dn.refl _).drew)).trans dn2).alloc _⟩

set_option maxHeartbeats 1000000 in
theorem operandTexts6 (op rd ra rb imm : Int) (W : World) (E : Env W) (h : M.ok op rd ra rb imm = true) (hf : M.form op = 6) :
    Calls Tryz.prog 21 #[.agg #[.int .i64 op, .int .i64 rd, .int .i64 ra, .int .i64 rb, .int .i32 imm]] W (OpRet W [M.csrT imm, M.regT ra]) := by
  obtain ⟨⟨o1, o2⟩, ⟨d1, d2⟩, ⟨a1, a2⟩, ⟨b1, b2⟩, ⟨i1, i2⟩⟩ := M.ok_rng _ _ _ _ _ h
  clear h
  go_enter Tryz.func21, Tryz.ntmps21
  go_wp2_with (go_at_call 41; refine (formatOf _ _ (E.tabs.up ((Up.refl _).alloc _))).mono ?_; rintro e w' ⟨rfl, rfl⟩)
  have bx := Box.new W (.int .i64 op) (.int .i64 rd) (.int .i64 ra) (.int .i64 rb) (.int .i32 imm) 23
  have dn := (Dn.refl W).alloc (.cells #[.int .i64 op, .int .i64 rd, .int .i64 ra, .int .i64 rb, .int .i32 imm] 23)
  generalize W.alloc (.cells #[.int .i64 op, .int .i64 rd, .int .i64 ra, .int .i64 rb, .int .i32 imm] 23) = w1 at *
  have E1 := E.dn dn
  obtain ⟨c0, c1, c2, c3, c4, c5⟩ := bx.open
  go_region_held3 (fun w' => w'.cell? ⟨W.heap.size, 2, none⟩ = some (.int .i64 ra) ∧ w'.cell? ⟨W.heap.size, 4, none⟩ = some (.int .i32 imm))
    (first | exact ⟨c2, c4⟩ | exact ⟨Dn.keep ((Dn.refl _).alloc _) bx.c2, Dn.keep ((Dn.refl _).alloc _) bx.c4⟩ | exact ⟨Dn.keep (((Dn.refl _).alloc _).drew) bx.c2, Dn.keep (((Dn.refl _).alloc _).drew) bx.c4⟩ | exact ⟨bx2.c2, bx2.c4⟩ | exact ⟨Dn.keep ((Dn.refl _).alloc _) bx2.c2, Dn.keep ((Dn.refl _).alloc _) bx2.c4⟩ | exact ⟨Dn.keep (((Dn.refl _).alloc _).drew) bx2.c2, Dn.keep (((Dn.refl _).alloc _).drew) bx2.c4⟩)
    (first
    | (go_at_call 44; refine (registerText _ _ (by omega) (by omega)).mono ?_; rintro e w' ⟨rfl, rfl⟩)
    | (go_at_call 46; refine (csrText _ _ (E1.dn ((Dn.refl _).drew)) (by omega) (by omega)).mono ?_; rintro e w2 ⟨rfl, dn2⟩; have bx2 := (bx.dn ((Dn.refl _).drew)).dn dn2))
  go_wp2
  go_ret
  exact ⟨_, rfl, StrRow.new _ [M.csrT imm, M.regT ra] _ _ rfl, ((dn.trans ((Dn.refl _).drew)).trans dn2).alloc _⟩

set_option maxHeartbeats 1000000 in
theorem operandTexts7 (op rd ra rb imm : Int) (W : World) (E : Env W) (h : M.ok op rd ra rb imm = true) (hf : M.form op = 7) :
    Calls Tryz.prog 21 #[.agg #[.int .i64 op, .int .i64 rd, .int .i64 ra, .int .i64 rb, .int .i32 imm]] W (OpRet W [M.regT ra]) := by
  obtain ⟨⟨o1, o2⟩, ⟨d1, d2⟩, ⟨a1, a2⟩, ⟨b1, b2⟩, ⟨i1, i2⟩⟩ := M.ok_rng _ _ _ _ _ h
  clear h
  go_enter Tryz.func21, Tryz.ntmps21
  go_wp2_with (first
    | (go_at_call 41; refine (formatOf _ _ (E.tabs.up ((Up.refl _).alloc _))).mono ?_; rintro e w' ⟨rfl, rfl⟩)
    | (go_at_call 44; refine (registerText _ _ (by omega) (by omega)).mono ?_; rintro e w' ⟨rfl, rfl⟩))
  go_ret
  exact ⟨_, rfl, StrRow.new_at _ [M.regT ra] _ _ (W.heap.size + 1) rfl (by simp), ((Dn.refl _).alloc _).alloc _⟩

set_option maxHeartbeats 1000000 in
theorem operandTexts4 (op rd ra rb imm : Int) (W : World) (E : Env W) (h : M.ok op rd ra rb imm = true) (hf : M.form op = 4) :
    Calls Tryz.prog 21 #[.agg #[.int .i64 op, .int .i64 rd, .int .i64 ra, .int .i64 rb, .int .i32 imm]] W (OpRet W []) := by
  obtain ⟨⟨o1, o2⟩, ⟨d1, d2⟩, ⟨a1, a2⟩, ⟨b1, b2⟩, ⟨i1, i2⟩⟩ := M.ok_rng _ _ _ _ _ h
  clear h
  go_enter Tryz.func21, Tryz.ntmps21
  go_wp2_with (first
    | (go_at_call 41; refine (formatOf _ _ (E.tabs.up ((Up.refl _).alloc _))).mono ?_; rintro e w' ⟨rfl, rfl⟩)
    | (go_at_call 44; refine (registerText _ _ (by omega) (by omega)).mono ?_; rintro e w' ⟨rfl, rfl⟩))
  go_ret
  exact ⟨_, rfl, StrRow.nil _, (Dn.refl _).alloc _⟩

theorem operandTexts (op rd ra rb imm : Int) (W : World) (E : Env W) (h : M.ok op rd ra rb imm = true) :
    Calls Tryz.prog 21 #[.agg #[.int .i64 op, .int .i64 rd, .int .i64 ra, .int .i64 rb, .int .i32 imm]] W (OpRet W (M.opsT op rd ra rb imm)) := by
  have hz := (M.ok_parts _ _ _ _ _ h).1
  unfold M.opsT
  rcases forms _ (M.form_rng op) with e | e | e | e | e | e | e | e
  · exact absurd e hz
  · rw [if_pos e]; exact operandTexts1 _ _ _ _ _ _ E h e
  · rw [if_neg (by omega), if_pos e]; exact operandTexts2 _ _ _ _ _ _ E h e
  · rw [if_neg (by omega), if_neg (by omega), if_pos e]; exact operandTexts3 _ _ _ _ _ _ E h e
  · rw [if_neg (by omega), if_neg (by omega), if_neg (by omega), if_neg (by omega), if_neg (by omega), if_neg (by omega)]; exact operandTexts4 _ _ _ _ _ _ E h e
  · rw [if_neg (by omega), if_neg (by omega), if_neg (by omega), if_pos e]; exact operandTexts5 _ _ _ _ _ _ E h e
  · rw [if_neg (by omega), if_neg (by omega), if_neg (by omega), if_neg (by omega), if_pos e]; exact operandTexts6 _ _ _ _ _ _ E h e
  · rw [if_neg (by omega), if_neg (by omega), if_neg (by omega), if_neg (by omega), if_neg (by omega), if_pos e]; exact operandTexts7 _ _ _ _ _ _ E h e

end Go.Proofs.YtokhipjpppfkgaaGreatDoor
