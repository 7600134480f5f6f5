/-
  What Get of package gaolerref03 returns when called: contract over the translated program. Conditions: those that stand in each theorem.
-/
import Derived.Test.YtokhipjpppfkgaaGreatDoorRefOne
import Derived.Test.YtokhipjpppfkgaaGreatDoorAsmSame
import Derived.OwnWalk
namespace Go.Proofs.YtokhipjpppfkgaaGreatDoor
open Go.ChangeShapes Go.WideShapes Go.ChangeAt Go.RowKit Go.Sort
set_option linter.unusedVariables false

def GRel (s : List UInt8) (W : World) (o p k x y : Value) (w : World) : Prop :=
  ∃ (xs : List Int) (t : List UInt8) (a : Nat), Rng xs ∧ s = M.disT xs ++ t ∧ a = (M.disT xs).length ∧ p = .int .i64 a ∧ xs.length ≤ a ∧ w.ownsRow W.heap.size 45 1 o xs.length (xs.map (Value.int .u32)) ∧ Dn W w
def GIn (s : List UInt8) (a : Nat) (W : World) (k : Value) (w : World) : Prop := ∃ j : Nat, a ≤ j ∧ j ≤ s.length ∧ k = .int .i64 j ∧ (10 : UInt8) ∉ (s.take j).drop a ∧ w = W

theorem no10_step {s : List UInt8} {a k : Nat} (hak : a ≤ k) (hk : k < s.length) (h : s[k] ≠ 10) (hno : (10 : UInt8) ∉ (s.take k).drop a) : (10 : UInt8) ∉ (s.take (k + 1)).drop a := by
  rw [List.take_succ_eq_append_getElem hk, List.drop_append_of_le_length (by rw [List.length_take]; omega)]
  intro hm
  rcases List.mem_append.1 hm with h1 | h1
  · exact hno h1
  · exact h (List.mem_singleton.1 h1).symm
/-- where the line ends -/
theorem line_end {s : List UInt8} {a k : Nat} (hak : a ≤ k) (hk : k < s.length) (h : s[k] = 10) : (s.take (k + 1)).drop a = (s.take k).drop a ++ [10] ∧ s = s.take a ++ ((s.take k).drop a ++ 10 :: s.drop (k + 1)) := by
  have e1 : (s.take (k + 1)).drop a = (s.take k).drop a ++ [10] := by
    rw [List.take_succ_eq_append_getElem hk, List.drop_append_of_le_length (by rw [List.length_take]; omega), h]
  refine ⟨e1, ?_⟩
  have e2 : s.take a = (s.take k).take a := by rw [List.take_take, Nat.min_eq_left hak]
  rw [e2, ← List.append_assoc, List.take_append_drop]
  have e3 : s.drop k = 10 :: s.drop (k + 1) := by rw [List.drop_eq_getElem_cons hk, h]
  rw [← e3, List.take_append_drop]

set_option maxRecDepth 100000 in
set_option maxHeartbeats 4000000 in
theorem refGet (s : List UInt8) (W : World) (hs : s.length ≤ 90000) :
    Calls Tryz.prog 14 #[.string ⟨s.toArray⟩] W (AsmRet W s) := by
  obtain ⟨i0, hi, hz0, hz1, hz2⟩ := info_parts infoU32
  go_enter Tryz.func14, Tryz.ntmps14
  go_wp2_with fail
  go_loopw [5, 6, 7, 8, 9] (fun o p k x y w => GRel s W o p k x y w) (fun _ p _ _ _ _ => s.length - (intOf p).toNat)
  case atStart => exact ⟨[], s, 0, (fun x hx => absurd hx (by simp)), rfl, rfl, rfl, Nat.le_refl _, World.ownsRow_nil _ _ _ _, Dn.refl _⟩
  case round =>
    obtain ⟨xs, t, a, hx, hst, ha, rfl, hxa, own, dn⟩ := hrel
    have hsl : s.length = a + t.length := by rw [hst, ha]; simp
    have hta : s.take a = M.disT xs := by rw [hst, ha, List.take_left]
    have htd : s.drop a = t := by rw [hst, ha, List.drop_left]
    have HX := Lib.hid hx
    have HST := Lib.hid hst
    have HSL := Lib.hid hsl
    have HTA := Lib.hid hta
    have HTD := Lib.hid htd
    clear hx hst ha hta htd hsl
    by_cases hlt : a < s.length
    · have hlt2 : (a : Int) < s.length := by omega
      go_wp2_with fail
      go_loopw [7] (fun k w => GIn s a wr k w) (fun k _ => s.length - (intOf k).toNat)
      case atStart => exact ⟨a, Nat.le_refl _, by omega, rfl, by rw [List.drop_eq_nil_of_le (by rw [List.length_take]; omega)]; simp, rfl⟩
      case round =>
        obtain ⟨j, haj, hjs, rfl, hno, rfl⟩ := hrel
        by_cases hjl : j < s.length
        · have hjl2 : (j : Int) < s.length := by omega
          by_cases hc : s[j] = 10
          · have hg : ∀ h2 : j < (⟨s.toArray⟩ : ByteArray).size, ((((⟨s.toArray⟩ : ByteArray)[j]'h2).toNat : Int) != 10) = false := fun h2 => by rw [at_nat hjl h2, hc]; rfl
            obtain ⟨le1, le2⟩ := line_end haj hjl hc
            have hjne : ((j : Int) == s.length) = false := by rw [beq_eq_false_iff_ne]; omega
            have HX1 := extract_eq s a (j + 1)
            rw [le1] at HX1
            obtain ⟨b, hb⟩ : ∃ b, b = (s.take j).drop a := ⟨_, rfl⟩
            rw [← hb] at HX1 le2 hno
            rw [HTA.out] at le2
            have hbl : b.length ≤ 90000 := by rw [hb, List.length_drop, List.length_take]; omega
            have hbj : a + b.length = j := by rw [hb, List.length_drop, List.length_take]; omega
            have ha1 : (a : Int) ≤ (j : Int) + 1 := by omega
            have hj2 : (j : Int) + 1 ≤ s.length := by omega
            have LE := Lib.hid le2
            have HNO := Lib.hid hno
            clear le1 le2 hno hb hc
            go_wp2_with fail
            refine (refOne b _ hbl).mono ?_
            rintro e w1 ⟨h, d1⟩
            rcases h with ⟨x, x0, x1, hlx, rfl⟩ | ⟨hnl, x, rfl⟩
            · have HL := Lib.hid hlx
              clear hlx
              have own1 := own_dn own d1
              have k1 := dn.trans d1
              have hao := own1.alloc (.cells #[.int .u32 x] 45)
              have hsz : W.heap.size ≤ (w1.alloc (.cells #[.int .u32 x] 45)).heap.size := Nat.le_trans k1.size (Dn.alloc (Dn.refl w1) _).size
              have hxs : xs.length ≤ 90000 := by omega
              go_wp2_with (at_builtin; (refine wpList_append_own _ rfl _ _ 24 rfl W.heap.size 45 i0 (.int .u32 0) 1 4 Tryz.underlying24 hi hz0 hz1 hz2 rfl (by decide) u5 xs.length (xs.map (Value.int .u32)) rfl hao ⟨w1.heap.size, 0, none⟩ 1 1 [.int .u32 x] rfl rfl (cell_one_new _ _ _) (by simp [Value.oneCell']) (by unfold maxLen; omega) (by omega) hsz ?_); intro v1 w2 own2 gr2 hv2)
              have dn2 : Dn W w2 := below_keep (k1.alloc _) gr2 hsz (Nat.le_refl _) (fun r e => (own1.lt r e).1)
              refine ⟨⟨xs ++ [x], s.drop (j + 1), j + 1, ?_, ?_, ?_, by go_num, by simp; omega, by simpa using own2, dn2⟩, by simp [intOf]; omega⟩
              · intro z hz
                rcases List.mem_append.1 hz with hz | hz
                · exact HX.out z hz
                · rw [List.mem_singleton.1 hz]; exact ⟨x0, x1⟩
              · rw [disT_snoc, HL.out]
                have := LE.out
                simpa using this
              · rw [disT_snoc, HL.out, List.length_append, List.length_append]
                have h1 := congrArg List.length HTA.out
                rw [List.length_take] at h1
                simp only [List.length_cons, List.length_nil]
                omega
            · have HB : Hid (Bad (b, true)) := Lib.hid (fun h => hnl h.2)
              clear hnl
              obtain ⟨A, cp, rfl⟩ := own_form own
              go_wp2
              refine bodyPost_ret (by simp [results, Tryz.results14, go_sem]; try rfl) rfl ?_
              refine ⟨.inr ⟨xs, (b, true), M.ln (s.drop (j + 1)), HX.out, ?_, HB.out, rfl⟩, dn.trans d1⟩
              rw [← ln_line _ HNO.out, ← ln_dis, ← LE.out]
          · have hg : ∀ h2 : j < (⟨s.toArray⟩ : ByteArray).size, ((((⟨s.toArray⟩ : ByteArray)[j]'h2).toNat : Int) != 10) = true := fun h2 => by
              rw [at_nat hjl h2, bne_iff_ne]
              intro e
              exact hc (UInt8.toNat_inj.1 (show s[j].toNat = 10 by omega))
            have HNO := Lib.hid (no10_step haj hjl hc hno)
            clear hno hc
            go_wp2
            exact ⟨⟨j + 1, by omega, by omega, by go_num, HNO.out, rfl⟩, by simp [intOf]; omega⟩
        · obtain rfl : j = s.length := by omega
          have hnlt : ¬ ((s.length : Int) < s.length) := by omega
          have hjt : ((s.length : Int) == s.length) = true := by simp
          have HNO := Lib.hid hno
          clear hno
          obtain ⟨A, cp, rfl⟩ := own_form own
          go_wp2
          refine bodyPost_ret (by simp [results, Tryz.results14, go_sem]; try rfl) rfl ?_
          have h10 : (10 : UInt8) ∉ t := by
            have := HNO.out
            rw [List.take_of_length_le (Nat.le_refl _), HTD.out] at this
            exact this
          have hne : t ≠ [] := by
            intro e
            have := HSL.out
            rw [e] at this
            simp at this
            omega
          refine ⟨.inr ⟨xs, (t, false), [], HX.out, ?_, (fun h => by cases h.1), rfl⟩, dn⟩
          rw [HST.out, ln_dis, ln_cons hne, cut_no h10]
          rfl
    · have hnlt : ¬ ((a : Int) < s.length) := by omega
      have ht : t = [] := by
        have := HSL.out
        exact List.length_eq_zero_iff.1 (by omega)
      go_wp2
      refine bodyPost_ret (by simp [results, Tryz.results14, go_sem]; try rfl) rfl ?_
      refine ⟨.inl ⟨xs, _, HX.out, ?_, rfl, own⟩, dn⟩
      rw [HST.out, ht, List.append_nil, ln_disT]
end Go.Proofs.YtokhipjpppfkgaaGreatDoor
