/-
  What words of package gaolerref03 returns when called: contract over the translated program. Conditions: those that stand in each theorem.
-/
import Derived.Test.YtokhipjpppfkgaaGreatDoorRefNum
import Derived.OwnWalk
namespace Go.Proofs.YtokhipjpppfkgaaGreatDoor
open Go.ChangeShapes Go.WideShapes Go.ChangeAt Go.RowKit Go.Sort
set_option linter.unusedVariables false

def strV (l : List UInt8) : Value := .string ⟨l.toArray⟩
/-- the fields that are closed before position a -/
def WFld (s : List UInt8) (L : List (List UInt8)) (a : Nat) : Prop := a ≤ s.length + 1 ∧ (L.map fun x => x ++ [32]).flatten = (s ++ [32]).take a ∧ ∀ x ∈ L, (32 : UInt8) ∉ x
def WRel (s : List UInt8) (W : World) (o p i : Value) (w : World) : Prop :=
  ∃ (L : List (List UInt8)) (a k : Nat), a ≤ k ∧ k ≤ s.length + 1 ∧ i = .int .i64 k ∧ p = .int .i64 a ∧ WFld s L a ∧ (k = s.length + 1 → a = k) ∧ (32 : UInt8) ∉ (s.take k).drop a ∧ L.length ≤ k ∧ w.ownsRow W.heap.size 9 1 o L.length (L.map strV) ∧ Dn W w

theorem wfld_step {s : List UInt8} {L : List (List UInt8)} {a k : Nat} (hak : a ≤ k) (hk : k ≤ s.length) (h32 : (s ++ [32])[k]? = some 32) (hw : WFld s L a) (hno : (32 : UInt8) ∉ (s.take k).drop a) : WFld s (L ++ [(s.take k).drop a]) (k + 1) := by
  obtain ⟨h1, h2, h3⟩ := hw
  refine ⟨by omega, ?_, fun x hx => ?_⟩
  · have hlt : k < (s ++ [32]).length := by simp; omega
    have e1 : (s ++ [(32 : UInt8)]).take (k + 1) = s.take k ++ [32] := by
      rw [List.take_add_one, h32, List.take_append_of_le_length hk]
      rfl
    have e2 : (s ++ [(32 : UInt8)]).take a = (s.take k).take a := by
      rw [List.take_append_of_le_length (by omega), List.take_take, Nat.min_eq_left hak]
    rw [List.map_append, List.flatten_append, h2, e1, e2]
    simp only [List.map_cons, List.map_nil, List.flatten_cons, List.flatten_nil, List.append_nil]
    rw [← List.append_assoc, List.take_append_drop]
  · rcases List.mem_append.1 hx with h | h
    · exact h3 x h
    · rw [List.mem_singleton.1 h]; exact hno
theorem no_step {s : List UInt8} {a k : Nat} (hak : a ≤ k) (hk : k < s.length) (h : s[k] ≠ 32) (hno : (32 : UInt8) ∉ (s.take k).drop a) : (32 : UInt8) ∉ (s.take (k + 1)).drop a := by
  rw [List.take_succ_eq_append_getElem hk, List.drop_append_of_le_length (by rw [List.length_take]; omega)]
  intro hm
  rcases List.mem_append.1 hm with h1 | h1
  · exact hno h1
  · exact h (List.mem_singleton.1 h1).symm
theorem news1 {w : World} {g : Nat} {x : List UInt8} (h : w.cell? ⟨g, 0, none⟩ = some (strV x)) : ∀ (j : Nat) u, [strV x][j]? = some u → w.cell? ((⟨g, 0, none⟩ : Addr).add j) = some u := fun j u hu => by
  cases j with
  | zero => simp at hu; subst hu; rw [add0]; exact h
  | succ j => simp at hu
theorem one1 (x : List UInt8) : ∀ u ∈ [strV x], u.oneCell' = true := fun u hu => by rw [List.mem_singleton.1 hu]; rfl
theorem news4 (w : World) : ∀ (j : Nat) u, [strV [], strV [], strV [], strV []][j]? = some u → (w.alloc (.cells #[strV [], strV [], strV [], strV []] 9)).cell? ((⟨w.heap.size, 0, none⟩ : Addr).add j) = some u := fun j u hu => by
  rw [add0, World.cell?_alloc_new]
  simpa using hu
theorem one4 : ∀ u ∈ [strV [], strV [], strV [], strV []], u.oneCell' = true := fun u hu => by
  simp at hu
  rw [hu]; rfl
theorem extract_eq (s : List UInt8) (a k : Nat) : (⟨s.toArray⟩ : ByteArray).extract a k = ⟨((s.take k).drop a).toArray⟩ := by
  rw [ByteArray.extract_mk, List.drop_take]

def WordsRet (s : List UInt8) (W : World) (e : Ending) (W' : World) : Prop :=
  ∃ (L : List (List UInt8)) (v : Value), WFld s L (s.length + 1) ∧ e = .returned v ∧ W'.ownsRow W.heap.size 9 1 v (L.length + 4) (L.map strV ++ [strV [], strV [], strV [], strV []]) ∧ Dn W W'

set_option maxRecDepth 100000 in
set_option maxHeartbeats 1000000 in
theorem refWords (s : List UInt8) (W : World) (hs : s.length ≤ 100000) :
    Calls Tryz.prog 28 #[.string ⟨s.toArray⟩] W (WordsRet s W) := by
  obtain ⟨i0, hi, hz0, hz1, hz2⟩ := info_parts infoStr
  go_enter Tryz.func28, Tryz.ntmps28
  go_wp2_with fail
  go_loopw [3, 4, 5] (fun o p i w => WRel s W o p i w) (fun _ _ i _ => s.length + 1 - (intOf i).toNat)
  case atStart => exact ⟨[], 0, 0, by omega, by omega, rfl, rfl, ⟨by omega, rfl, fun x hx => by cases hx⟩, fun h => by omega, by simp, by simp, World.ownsRow_nil _ _ _ _, Dn.refl _⟩
  case round =>
    obtain ⟨L, a, k, hak, hk, rfl, rfl, hw, hend, hno, hLk, own, dn⟩ := hrel
    by_cases hle : k ≤ s.length
    · have hle2 : (k : Int) ≤ s.length := by omega
      by_cases hkl : k = s.length
      · have HW := Lib.hid (wfld_step hak hle (by rw [hkl]; simp) hw hno)
        subst hkl
        clear hw hno hend
        have HX := extract_eq s a s.length
        obtain ⟨x, hxx⟩ : ∃ x, x = (s.take s.length).drop a := ⟨_, rfl⟩
        rw [← hxx] at HX HW
        clear hxx
        have hao := own.alloc (.cells #[strV x] 9)
        have hsz : W.heap.size ≤ (wr.alloc (.cells #[strV x] 9)).heap.size := Nat.le_trans dn.size (Dn.alloc (Dn.refl wr) _).size
        have hcell := new_cell0 wr (strV x) 9
        have hak2 : (a : Int) ≤ s.length := by omega
        go_wp2_with (at_builtin; (refine wpList_append_own _ rfl _ _ 49 rfl W.heap.size 9 i0 _ 1 16 Tryz.underlying49 hi hz0 hz1 hz2 rfl (by decide) u3 L.length (L.map strV) rfl hao ⟨wr.heap.size, 0, none⟩ 1 1 [strV x] rfl rfl (news1 hcell) (one1 x) (by unfold maxLen; omega) (by omega) hsz ?_); intro v1 w1 own1 gr1 hv1)
        have dn1 : Dn W w1 := below_keep (dn.alloc _) gr1 hsz (Nat.le_refl _) (fun r e => (own.lt r e).1)
        exact ⟨⟨L ++ [x], s.length + 1, s.length + 1, by omega, by omega, by go_num, by go_num, HW.out, fun _ => rfl, by simp, by simp; omega, by simpa using own1, dn1⟩, by first | (simp [intOf]; done) | (simp [intOf]; omega)⟩
      · have hlt : k < s.length := by omega
        have hne : ((k : Int) == s.length) = false := by rw [beq_eq_false_iff_ne]; omega
        by_cases hc : s[k] = 32
        · have HW := Lib.hid (wfld_step hak hle (by rw [List.getElem?_append_left hlt, List.getElem?_eq_getElem hlt, hc]) hw hno)
          have hg : ∀ h2 : k < (⟨s.toArray⟩ : ByteArray).size, ((((⟨s.toArray⟩ : ByteArray)[k]'h2).toNat : Int) == 32) = true := fun h2 => by rw [at_nat hlt h2, hc]; rfl
          clear hw hno hend hc
          have HX := extract_eq s a k
          obtain ⟨x, hxx⟩ : ∃ x, x = (s.take k).drop a := ⟨_, rfl⟩
          rw [← hxx] at HX HW
          clear hxx
          have hao := own.alloc (.cells #[strV x] 9)
          have hsz : W.heap.size ≤ (wr.alloc (.cells #[strV x] 9)).heap.size := Nat.le_trans dn.size (Dn.alloc (Dn.refl wr) _).size
          have hcell := new_cell0 wr (strV x) 9
          have hak2 : (a : Int) ≤ k := by omega
          go_wp2_with (at_builtin; (refine wpList_append_own _ rfl _ _ 49 rfl W.heap.size 9 i0 _ 1 16 Tryz.underlying49 hi hz0 hz1 hz2 rfl (by decide) u3 L.length (L.map strV) rfl hao ⟨wr.heap.size, 0, none⟩ 1 1 [strV x] rfl rfl (news1 hcell) (one1 x) (by unfold maxLen; omega) (by omega) hsz ?_); intro v1 w1 own1 gr1 hv1)
          have dn1 : Dn W w1 := below_keep (dn.alloc _) gr1 hsz (Nat.le_refl _) (fun r e => (own.lt r e).1)
          exact ⟨⟨L ++ [x], k + 1, k + 1, by omega, by omega, by go_num, by go_num, HW.out, fun _ => rfl, by simp, by simp; omega, by simpa using own1, dn1⟩, by first | (simp [intOf]; done) | (simp [intOf]; omega)⟩
        · have HNO := Lib.hid (no_step hak hlt hc hno)
          have hg : ∀ h2 : k < (⟨s.toArray⟩ : ByteArray).size, ((((⟨s.toArray⟩ : ByteArray)[k]'h2).toNat : Int) == 32) = false := fun h2 => by
            rw [at_nat hlt h2, beq_eq_false_iff_ne]
            intro e
            exact hc (UInt8.toNat_inj.1 (show s[k].toNat = 32 by omega))
          have HW := Lib.hid hw
          clear hw hno hend hc
          go_wp2
          exact ⟨⟨L, a, k + 1, by omega, by omega, by go_num, rfl, HW.out, fun h => by omega, HNO.out, by omega, own, dn⟩, by simp [intOf]; omega⟩
    · have hk2 : k = s.length + 1 := by omega
      have ha := hend hk2
      subst ha
      have HW := Lib.hid hw
      have hgt : ¬ (a : Int) ≤ s.length := by omega
      have hLl : L.length ≤ 100001 := by omega
      clear hw hno hend
      have hao := own.alloc (.cells #[strV [], strV [], strV [], strV []] 9)
      have hsz : W.heap.size ≤ (wr.alloc (.cells #[strV [], strV [], strV [], strV []] 9)).heap.size := Nat.le_trans dn.size (Dn.alloc (Dn.refl wr) _).size
      go_wp2_with (at_builtin; (refine wpList_append_own _ rfl _ _ 49 rfl W.heap.size 9 i0 _ 1 16 Tryz.underlying49 hi hz0 hz1 hz2 rfl (by decide) u3 L.length (L.map strV) rfl hao ⟨wr.heap.size, 0, none⟩ 4 4 [strV [], strV [], strV [], strV []] rfl rfl (news4 wr) one4 (by unfold maxLen; omega) (by omega) hsz ?_); intro v1 w1 own1 gr1 hv1)
      have dn1 : Dn W w1 := below_keep (dn.alloc _) gr1 hsz (Nat.le_refl _) (fun r e => (own.lt r e).1)
      go_ret
      exact ⟨L, v1, by rw [← hk2]; exact HW.out, rfl, own1, dn1⟩
end Go.Proofs.YtokhipjpppfkgaaGreatDoor
