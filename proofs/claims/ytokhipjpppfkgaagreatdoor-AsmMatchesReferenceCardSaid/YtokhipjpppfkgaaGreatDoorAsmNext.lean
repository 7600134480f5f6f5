/-
  What opcodeOf and the closures of package asm that read operands return when called: contracts over the translated program. Conditions: those that stand in each theorem.
-/
import Derived.Test.YtokhipjpppfkgaaGreatDoorAsmFormat
import Derived.Test.YtokhipjpppfkgaaGreatDoorAsmRead
namespace Go.Proofs.YtokhipjpppfkgaaGreatDoor
open Go.ChangeShapes Go.WideShapes Go.ChangeAt Go.RowKit Go.Sort
set_option linter.unusedVariables false

/-- the fields that are left, in the variable at block B -/
structure FR (w : World) (B : Nat) (A : Option Addr) (c : Nat) (l : List (List UInt8)) : Prop where
  lt : B < w.heap.size
  fr : w.frozen? ⟨B, 0, none⟩ = false
  cell : w.cell? ⟨B, 0, none⟩ = some (.slice A l.length c)
  cap : l.length ≤ c
  at_ : l ≠ [] → ∃ g o, A = some ⟨g, o, none⟩ ∧ g ≠ B ∧ ∀ (j : Nat) t, l[j]? = some t → w.cell? ⟨g, o + j, none⟩ = some (.string ⟨t.toArray⟩)

def FRs (w : World) (B : Nat) (l : List (List UInt8)) : Prop := ∃ A c, FR w B A c l

/-- what the closure leaves -/
def NextRet (W : World) (B : Nat) (mark : List UInt8) (l : List (List UInt8)) (e : Ending) (W' : World) : Prop :=
  e = .returned (.int .i32 (M.nx mark l)) ∧ FRs W' B (l.drop 1) ∧ W.grownBy W' (some B)

set_option maxHeartbeats 1000000 in
theorem next_nil (mark : List UInt8) (B : Nat) (W : World) (h : FRs W B []) :
    Calls Tryz.prog 68 #[.string ⟨mark.toArray⟩, .pointer (some ⟨B, 0, none⟩)] W (NextRet W B mark []) := by
  obtain ⟨A, c, hf⟩ := h
  have hc : W.cell? ⟨B, 0, none⟩ = some (.slice A 0 c) := hf.cell
  go_enter Tryz.func68, Tryz.ntmps68
  go_wp2
  go_ret
  exact ⟨rfl, ⟨A, c, hf⟩, World.grownBy.refl _ _⟩

theorem cutPrefix (f mark : List UInt8) (W : World) :
    Calls Tryz.prog 54 #[.string ⟨f.toArray⟩, .string ⟨mark.toArray⟩] W fun e W' => e = .returned (.tuple #[.string ⟨(Lib.trimPrefix f mark).toArray⟩, .bool (Lib.hasPrefix f mark)]) ∧ W' = W :=
  Tryz.strings_CutPrefix ⟨f.toArray⟩ ⟨mark.toArray⟩ W

theorem below_bytes (w : World) (t : ByteArray) : Dn w (Lib.bytesWorld w 5 t) := Lib.bytesWorld_below w 5 t

theorem parseInt_ok (t : List UInt8) (W : World) (ht : t.length ≤ 100000) (v : Int) (h : Lib.parseIntB 32 t = .ok v) :
    Calls Tryz.prog 69 #[.string ⟨t.toArray⟩, .int .i64 10, .int .i64 32] W fun e W' => e = .returned (.tuple #[.int .i64 v, .nilIface]) ∧ Dn W W' := by
  refine (Tryz.strconv_ParseInt_10_at32_ok ⟨t.toArray⟩ (Nat.le_trans ht (by decide)) v h W).mono fun e w' hh => ⟨hh.1, ?_⟩
  rcases hh.2 with rfl | ⟨x, rfl⟩
  · exact Dn.refl _
  · exact below_bytes _ _

def ErrRet (W : World) (e : Ending) (W' : World) : Prop := ∃ x N, e = .returned (.tuple #[.int .i64 x, .iface 130 (.pointer (some ⟨N, 0, none⟩))]) ∧ Dn W W'

theorem parseInt_err (t : List UInt8) (W : World) (ht : t.length ≤ 100000) (h : ∀ v, Lib.parseIntB 32 t ≠ .ok v) (hS : ∃ t p, W.cell? ⟨5, 0, none⟩ = some (.iface t p)) (hR : ∃ t p, W.cell? ⟨6, 0, none⟩ = some (.iface t p)) :
    Calls Tryz.prog 69 #[.string ⟨t.toArray⟩, .int .i64 10, .int .i64 32] W (ErrRet W) := by
  obtain ⟨t1, p1, h1⟩ := hS
  obtain ⟨t2, p2, h2⟩ := hR
  cases hp : Lib.parseIntB 32 t with
  | ok v => exact absurd hp (h v)
  | «syntax» => exact (Tryz.strconv_ParseInt_10_at32_syntax ⟨t.toArray⟩ (Nat.le_trans ht (by decide)) hp _ W h1 (.inr ⟨_, _, rfl⟩)).mono fun e w' ⟨N, he, _, _, hb⟩ => ⟨_, N, he, hb⟩
  | range => exact (Tryz.strconv_ParseInt_10_at32_range ⟨t.toArray⟩ (Nat.le_trans ht (by decide)) hp _ W h2 (.inr ⟨_, _, rfl⟩)).mono fun e w' ⟨N, he, _, _, hb⟩ => ⟨_, N, he, hb⟩

theorem trim_len (f mark : List UInt8) : (Lib.trimPrefix f mark).length ≤ f.length := by
  unfold Lib.trimPrefix
  split
  · simp
  · omega

theorem grown_dn {a b c : World} {B : Nat} (h : a.grownBy b (some B)) (k : Dn b c) : a.grownBy c (some B) :=
  ⟨k.os.trans h.os, k.tape.trans h.tape, k.output.trans h.output, Nat.le_trans h.size k.size, fun i hi hn => (k.block i (Nat.lt_of_lt_of_le hi h.size)).trans (h.block i hi hn)⟩

theorem FR.dn {w w' : World} {B : Nat} {A : Option Addr} {c : Nat} {l : List (List UInt8)} (h : FR w B A c l) (k : Dn w w') : FR w' B A c l :=
  ⟨Nat.lt_of_lt_of_le h.lt k.size, (Below.frozen k (p := ⟨B, 0, none⟩) h.lt).trans h.fr, k.keep h.cell, h.cap, fun hl => by
    obtain ⟨g, o, e, hn, hc⟩ := h.at_ hl
    exact ⟨g, o, e, hn, fun j t ht => k.keep (hc j t ht)⟩⟩

theorem grown_set (w : World) (B : Nat) (u : Value) : w.grownBy (w.setCell ⟨B, 0, none⟩ u) (some B) :=
  ⟨rfl, rfl, rfl, by simp [World.setCell], fun i _ hn => Below.heap_setCell w _ u i (fun e => hn (congrArg some e))⟩

theorem cell_set_far {w : World} {B : Nat} {u v : Value} {p : Addr} (h : w.cell? p = some v) (hp : p.block ≠ B) : (w.setCell ⟨B, 0, none⟩ u).cell? p = some v :=
  (World.cell?_setCell_other w ⟨B, 0, none⟩ p u (fun e => hp (congrArg Addr.block e).symm)).trans h

theorem FR.tail {w : World} {B : Nat} {f : List UInt8} {r : List (List UInt8)} {g o c : Nat} {A : Option Addr} (h : FR w B (some ⟨g, o, none⟩) c (f :: r)) (hg : g ≠ B) (hcs : ∀ (j : Nat) t, (f :: r)[j]? = some t → w.cell? ⟨g, o + j, none⟩ = some (.string ⟨t.toArray⟩)) (hA : r ≠ [] → A = some ⟨g, o + 1, none⟩) :
    FR (w.setCell ⟨B, 0, none⟩ (.slice A r.length (c - 1))) B A (c - 1) r := by
  have hcap := h.cap
  simp only [List.length_cons] at hcap
  refine ⟨by have := h.lt; simpa [World.setCell] using this, ?_, ?_, by omega, fun hr => ?_⟩
  · rw [World.frozen?_setCell]; exact h.fr
  · exact World.cell?_setCell_same' _ _ _ (by rw [h.cell]; rfl)
  · refine ⟨g, o + 1, hA hr, hg, fun j t ht => ?_⟩
    refine cell_set_far ?_ hg
    rw [show o + 1 + j = o + (j + 1) by omega]
    exact hcs (j + 1) t (by simpa using ht)

theorem num1_t {mark f : List UInt8} {v : Int} (hm : Lib.hasPrefix f mark = true) (hp : Lib.parseIntB 32 (Lib.trimPrefix f mark) = .ok v) (r : List (List UInt8)) : v = M.nx mark (f :: r) := by
  show v = M.num1 mark f
  unfold M.num1 M.numOf
  rw [if_pos hm, hp]
theorem num1_f {mark f : List UInt8} (hm : Lib.hasPrefix f mark = false) (r : List (List UInt8)) : 0 = M.nx mark (f :: r) := by
  show 0 = M.num1 mark f
  unfold M.num1
  rw [hm]; rfl
theorem num1_e {mark f : List UInt8} (hp : ∀ v, Lib.parseIntB 32 (Lib.trimPrefix f mark) ≠ .ok v) (r : List (List UInt8)) : 0 = M.nx mark (f :: r) := by
  show 0 = M.num1 mark f
  unfold M.num1 M.numOf
  split
  · split
    · rename_i v h; exact absurd h (hp v)
    · rfl
  · rfl

set_option maxHeartbeats 1000000 in
theorem next_cons (mark f : List UInt8) (r : List (List UInt8)) (B : Nat) (W : World) (E : Env W) (hB : 10 < B) (hfl : f.length ≤ 100000) (hr : r.length ≤ 100) (h : FRs W B (f :: r)) :
    Calls Tryz.prog 68 #[.string ⟨mark.toArray⟩, .pointer (some ⟨B, 0, none⟩)] W (NextRet W B mark (f :: r)) := by
  obtain ⟨A, c, hf⟩ := h
  obtain ⟨g, o, rfl, hne, hcs⟩ := hf.at_ (by simp)
  have hcap := hf.cap
  have hc : W.cell? ⟨B, 0, none⟩ = some (.slice (some ⟨g, o, none⟩) (r.length + 1) c) := hf.cell
  have h0 : W.cell? ⟨g, o, none⟩ = some (.string ⟨f.toArray⟩) := hcs 0 f rfl
  have hfr := hf.fr
  have hlt := hf.lt
  have htl := Nat.le_trans (trim_len f mark) hfl
  simp only [List.length_cons] at hcap
  obtain ⟨tS, pS, hS⟩ := E.errS
  obtain ⟨tR, pR, hR⟩ := E.errR
  by_cases hc1 : c = 1
  · have hr0 : r = [] := List.eq_nil_of_length_eq_zero (by omega)
    subst hr0 hc1
    have F1 := hf.tail hne hcs (A := some ⟨g, o, none⟩) (fun h => absurd rfl h)
    have G1 := grown_set W B (.slice (some ⟨g, o, none⟩) 0 0)
    have S1 := cell_set_far (B := B) (u := (.slice (some ⟨g, o, none⟩) 0 0)) hS (by show (5 : Nat) ≠ B; omega)
    have R1 := cell_set_far (B := B) (u := (.slice (some ⟨g, o, none⟩) 0 0)) hR (by show (6 : Nat) ≠ B; omega)
    clear hcs hS hR
    change FR (W.setCell ⟨B, 0, none⟩ (.slice (some ⟨g, o, none⟩) 0 0)) B _ 0 [] at F1
    cases hp : Lib.parseIntB 32 (Lib.trimPrefix f mark) with
    | ok v =>
      have HP := Lib.hid hp
      have hv : -2147483648 ≤ v ∧ v < 2147483648 := by
        have := Lib.parseIntB_bounds hp
        simp at this
        omega
      obtain ⟨hv1, hv2⟩ := hv
      clear hp
      cases hm : Lib.hasPrefix f mark
      · have HM := Lib.hid hm
        go_enter Tryz.func68, Tryz.ntmps68
        go_wp2_with fail
        generalize W.setCell ⟨B, 0, none⟩ (.slice (some ⟨g, o, none⟩) 0 0) = W1 at *
        refine (cutPrefix f mark W1).mono ?_
        rintro e w2 ⟨rfl, rfl⟩
        go_wp2_with (go_at_call 69; refine (parseInt_ok _ _ htl v HP.out).mono ?_; rintro e w3 ⟨rfl, dn⟩)
        go_ret
        exact ⟨ret_int (num1_f HM.out _), ⟨_, _, F1.dn dn⟩, grown_dn G1 dn⟩
      · have HM := Lib.hid hm
        go_enter Tryz.func68, Tryz.ntmps68
        go_wp2_with fail
        generalize W.setCell ⟨B, 0, none⟩ (.slice (some ⟨g, o, none⟩) 0 0) = W1 at *
        refine (cutPrefix f mark W1).mono ?_
        rintro e w2 ⟨rfl, rfl⟩
        go_wp2_with (go_at_call 69; refine (parseInt_ok _ _ htl v HP.out).mono ?_; rintro e w3 ⟨rfl, dn⟩)
        go_ret
        exact ⟨ret_int (num1_t HM.out HP.out _), ⟨_, _, F1.dn dn⟩, grown_dn G1 dn⟩
    | «syntax» =>
      have hno : ∀ v, Lib.parseIntB 32 (Lib.trimPrefix f mark) ≠ .ok v := fun v e => by rw [hp] at e; cases e
      have HN := Lib.hid hno
      clear hno hp
      cases hm : Lib.hasPrefix f mark
      all_goals
        go_enter Tryz.func68, Tryz.ntmps68
        go_wp2_with fail
        generalize W.setCell ⟨B, 0, none⟩ (.slice (some ⟨g, o, none⟩) 0 0) = W1 at *
        refine (cutPrefix f mark W1).mono ?_
        rintro e w2 ⟨rfl, rfl⟩
        go_wp2_with (go_at_call 69; refine (parseInt_err _ _ htl HN.out ⟨_, _, S1⟩ ⟨_, _, R1⟩).mono ?_; rintro e w3 ⟨x, N, rfl, dn⟩)
        go_ret
        exact ⟨ret_int (num1_e HN.out _), ⟨_, _, F1.dn dn⟩, grown_dn G1 dn⟩
    | range =>
      have hno : ∀ v, Lib.parseIntB 32 (Lib.trimPrefix f mark) ≠ .ok v := fun v e => by rw [hp] at e; cases e
      have HN := Lib.hid hno
      clear hno hp
      cases hm : Lib.hasPrefix f mark
      all_goals
        go_enter Tryz.func68, Tryz.ntmps68
        go_wp2_with fail
        generalize W.setCell ⟨B, 0, none⟩ (.slice (some ⟨g, o, none⟩) 0 0) = W1 at *
        refine (cutPrefix f mark W1).mono ?_
        rintro e w2 ⟨rfl, rfl⟩
        go_wp2_with (go_at_call 69; refine (parseInt_err _ _ htl HN.out ⟨_, _, S1⟩ ⟨_, _, R1⟩).mono ?_; rintro e w3 ⟨x, N, rfl, dn⟩)
        go_ret
        exact ⟨ret_int (num1_e HN.out _), ⟨_, _, F1.dn dn⟩, grown_dn G1 dn⟩
  · have hc2 : 1 < c := by omega
    have F1 := hf.tail hne hcs (A := some ⟨g, o + 1, none⟩) (fun _ => rfl)
    have G1 := grown_set W B (.slice (some ⟨g, o + 1, none⟩) r.length (c - 1))
    have S1 := cell_set_far (B := B) (u := (.slice (some ⟨g, o + 1, none⟩) r.length (c - 1))) hS (by show (5 : Nat) ≠ B; omega)
    have R1 := cell_set_far (B := B) (u := (.slice (some ⟨g, o + 1, none⟩) r.length (c - 1))) hR (by show (6 : Nat) ≠ B; omega)
    clear hcs hS hR
    cases hp : Lib.parseIntB 32 (Lib.trimPrefix f mark) with
    | ok v =>
      have HP := Lib.hid hp
      have hv : -2147483648 ≤ v ∧ v < 2147483648 := by
        have := Lib.parseIntB_bounds hp
        simp at this
        omega
      obtain ⟨hv1, hv2⟩ := hv
      clear hp
      cases hm : Lib.hasPrefix f mark
      · have HM := Lib.hid hm
        go_enter Tryz.func68, Tryz.ntmps68
        go_wp2_with fail
        generalize W.setCell ⟨B, 0, none⟩ (.slice (some ⟨g, o + 1, none⟩) r.length (c - 1)) = W1 at *
        refine (cutPrefix f mark W1).mono ?_
        rintro e w2 ⟨rfl, rfl⟩
        go_wp2_with (go_at_call 69; refine (parseInt_ok _ _ htl v HP.out).mono ?_; rintro e w3 ⟨rfl, dn⟩)
        go_ret
        exact ⟨ret_int (num1_f HM.out _), ⟨_, _, F1.dn dn⟩, grown_dn G1 dn⟩
      · have HM := Lib.hid hm
        go_enter Tryz.func68, Tryz.ntmps68
        go_wp2_with fail
        generalize W.setCell ⟨B, 0, none⟩ (.slice (some ⟨g, o + 1, none⟩) r.length (c - 1)) = W1 at *
        refine (cutPrefix f mark W1).mono ?_
        rintro e w2 ⟨rfl, rfl⟩
        go_wp2_with (go_at_call 69; refine (parseInt_ok _ _ htl v HP.out).mono ?_; rintro e w3 ⟨rfl, dn⟩)
        go_ret
        exact ⟨ret_int (num1_t HM.out HP.out _), ⟨_, _, F1.dn dn⟩, grown_dn G1 dn⟩
    | «syntax» =>
      have hno : ∀ v, Lib.parseIntB 32 (Lib.trimPrefix f mark) ≠ .ok v := fun v e => by rw [hp] at e; cases e
      have HN := Lib.hid hno
      clear hno hp
      cases hm : Lib.hasPrefix f mark
      all_goals
        go_enter Tryz.func68, Tryz.ntmps68
        go_wp2_with fail
        generalize W.setCell ⟨B, 0, none⟩ (.slice (some ⟨g, o + 1, none⟩) r.length (c - 1)) = W1 at *
        refine (cutPrefix f mark W1).mono ?_
        rintro e w2 ⟨rfl, rfl⟩
        go_wp2_with (go_at_call 69; refine (parseInt_err _ _ htl HN.out ⟨_, _, S1⟩ ⟨_, _, R1⟩).mono ?_; rintro e w3 ⟨x, N, rfl, dn⟩)
        go_ret
        exact ⟨ret_int (num1_e HN.out _), ⟨_, _, F1.dn dn⟩, grown_dn G1 dn⟩
    | range =>
      have hno : ∀ v, Lib.parseIntB 32 (Lib.trimPrefix f mark) ≠ .ok v := fun v e => by rw [hp] at e; cases e
      have HN := Lib.hid hno
      clear hno hp
      cases hm : Lib.hasPrefix f mark
      all_goals
        go_enter Tryz.func68, Tryz.ntmps68
        go_wp2_with fail
        generalize W.setCell ⟨B, 0, none⟩ (.slice (some ⟨g, o + 1, none⟩) r.length (c - 1)) = W1 at *
        refine (cutPrefix f mark W1).mono ?_
        rintro e w2 ⟨rfl, rfl⟩
        go_wp2_with (go_at_call 69; refine (parseInt_err _ _ htl HN.out ⟨_, _, S1⟩ ⟨_, _, R1⟩).mono ?_; rintro e w3 ⟨x, N, rfl, dn⟩)
        go_ret
        exact ⟨ret_int (num1_e HN.out _), ⟨_, _, F1.dn dn⟩, grown_dn G1 dn⟩

theorem next (mark : List UInt8) (l : List (List UInt8)) (B : Nat) (W : World) (E : Env W) (hB : 10 < B) (hfl : ∀ f ∈ l, f.length ≤ 100000) (hr : l.length ≤ 100) (h : FRs W B l) :
    Calls Tryz.prog 68 #[.string ⟨mark.toArray⟩, .pointer (some ⟨B, 0, none⟩)] W (NextRet W B mark l) := by
  cases l with
  | nil => exact next_nil mark B W h
  | cons f r => exact next_cons mark f r B W E hB (hfl f List.mem_cons_self) (by simp at hr; omega) h

end Go.Proofs.YtokhipjpppfkgaaGreatDoor
