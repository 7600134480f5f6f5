/-
  What Words of package gaolerref03 returns when called: contract over the translated program. Condition: the lists lie in memory.
-/
import Derived.Test.YtokhipjpppfkgaaGreatDoorAsmAsm
import Derived.Deep.QuietTactic
import Derived.BigQuiet
namespace Go.Proofs.YtokhipjpppfkgaaGreatDoor
open Go.ChangeShapes Go.WideShapes Go.ChangeAt Go.RowKit Go.Sort
set_option linter.unusedVariables false

def WordsRel (W : World) (xs ys : List Int) (i : Value) (w : World) : Prop :=
  ∃ k : Nat, k ≤ xs.length ∧ i = .int .i64 k ∧ xs.take k = ys.take k ∧ Dn W w

set_option maxRecDepth 100000 in
set_option maxHeartbeats 1000000 in
theorem words_len (A B : Option Addr) (c d : Nat) (xs ys : List Int) (W : World) (hx : Words W A xs) (hy : Words W B ys) (hl : xs.length = ys.length) (hn : xs.length ≤ 100000) :
    Calls Tryz.prog 17 #[.slice A xs.length c, .slice B ys.length d] W fun e W' => e = .returned (.bool (decide (xs = ys))) ∧ Dn W W' := by
  rw [← hl]
  have HL := Lib.hid hl
  clear hl
  go_enter Tryz.func17, Tryz.ntmps17
  go_wp2
  go_loopw [5] (fun i w => WordsRel W xs ys i w) (fun i _ => xs.length - (intOf i).toNat)
  case atStart => exact ⟨0, Nat.zero_le _, rfl, rfl, Dn.refl _⟩
  case round =>
    obtain ⟨k, hk, rfl, he, hdn⟩ := hrel
    have hx := hx.dn hdn
    have hy := hy.dn hdn
    by_cases hlt : k < xs.length
    · have hlt1 : (k : Int) < xs.length := by omega
      have hly : k < ys.length := by have := HL.out; omega
      obtain ⟨ad, rfl, hab, hcs⟩ := hx.2 (by intro e; rw [e] at hlt; exact absurd hlt (by simp))
      obtain ⟨bd, rfl, hbb, hcs2⟩ := hy.2 (by intro e; rw [e] at hly; exact absurd hly (by simp))
      have hck := hcs k xs[k] (List.getElem?_eq_getElem hlt)
      have hck2 := hcs2 k ys[k] (List.getElem?_eq_getElem hly)
      have HE : Hid ((xs[k] = ys[k] → xs.take (k + 1) = ys.take (k + 1)) ∧ (xs[k] ≠ ys[k] → xs ≠ ys)) := Lib.hid ⟨fun e => by
        rw [List.take_succ_eq_append_getElem hlt, List.take_succ_eq_append_getElem hly, he, e], fun e e2 => e (by subst e2; rfl)⟩
      generalize xs[k] = x at *
      generalize ys[k] = y at *
      clear hcs hcs2
      by_cases hxy : x = y
      · have HT := Lib.hid (HE.out.1 hxy)
        subst hxy
        clear HE
        go_wp2
        go_quiet (fail)
        go_wp2
        exact ⟨⟨k + 1, by omega, by go_num, HT.out, hdn.drewN _⟩, by simp [intOf]; omega⟩
      · have HF : Hid (decide (xs = ys) = false) := Lib.hid (decide_eq_false (HE.out.2 hxy))
        clear HE
        go_wp2
        go_quiet (fail)
        go_wp2
        go_ret
        exact ⟨by rw [HF.out]; rfl, hdn.drewN _⟩
    · go_wp2
      go_ret
      refine ⟨?_, hdn⟩
      have e1 : xs.take k = xs := List.take_of_length_le (by omega)
      have e2 : ys.take k = ys := List.take_of_length_le (by have := HL.out; omega)
      rw [decide_eq_true (by rw [← e1, ← e2]; exact he)]
      rfl

set_option maxRecDepth 100000 in
set_option maxHeartbeats 1000000 in
theorem words_no (A B : Option Addr) (c d m n : Nat) (W : World) (hl : m ≠ n) (hm : m ≤ 100000) (hn : n ≤ 9000000000000000000) :
    Calls Tryz.prog 17 #[.slice A m c, .slice B n d] W fun e W' => e = .returned (.bool false) ∧ Dn W W' := by
  have h2 : (m : Int) ≠ n := by omega
  go_enter Tryz.func17, Tryz.ntmps17
  go_wp2
  go_ret
  exact ⟨rfl, Dn.refl _⟩

theorem words (A B : Option Addr) (c d : Nat) (xs ys : List Int) (W : World) (hx : Words W A xs) (hy : Words W B ys) (hn : xs.length ≤ 100000) (hm : ys.length ≤ 100000) :
    Calls Tryz.prog 17 #[.slice A xs.length c, .slice B ys.length d] W fun e W' => e = .returned (.bool (decide (xs = ys))) ∧ Dn W W' := by
  by_cases hl : xs.length = ys.length
  · exact words_len A B c d xs ys W hx hy hl hn
  · rw [decide_eq_false (by intro e; rw [e] at hl; exact hl rfl)]
    exact words_no A B c d _ _ W hl hn (by omega)

/-- an own row of words -/
theorem own_words {W : World} {base : Nat} {v : Value} {xs : List Int} (hr : Rng xs) (h : W.ownsRow base 45 1 v xs.length (xs.map (Value.int .u32))) : ∃ A c, v = .slice A xs.length c ∧ Words W A xs := by
  rcases h.2 with ⟨rfl, h0⟩ | ⟨g, cap, cur, rfl, hb, hg, hnc, hcm, hsz, htk⟩
  · have : xs = [] := List.length_eq_zero_iff.1 h0
    subst this
    exact ⟨none, 0, rfl, ⟨fun x hx => absurd hx (by simp), fun hx => absurd rfl hx⟩⟩
  · refine ⟨_, cap, rfl, ⟨hr, fun _ => ⟨_, rfl, (Array.getElem?_eq_some_iff.1 hg).1, fun j x hj => ?_⟩⟩⟩
    have h1 : cur[j]? = some (.int .u32 x) := by
      have hlt := (List.getElem?_eq_some_iff.1 hj).1
      have h2 : (cur.toList.take (xs.length * 1))[j]? = some (.int .u32 x) := by rw [htk, List.getElem?_map, hj]; rfl
      rw [List.getElem?_take, if_pos (by omega), Array.getElem?_toList] at h2
      exact h2
    have h3 : W.cell? ⟨g, 0 + j, none⟩ = some (.int .u32 x) := by
      unfold World.cell?
      rw [hg, Nat.zero_add]
      exact h1
    rw [add0]
    rw [Nat.zero_add] at h3
    exact h3
end Go.Proofs.YtokhipjpppfkgaaGreatDoor
