/-
  The lines of a text, and what lines of package asm and the function that it returns do: contracts over the translated program. Conditions: those that stand in each theorem.
-/
import Derived.Test.YtokhipjpppfkgaaGreatDoorAsmDis
import Derived.RangeFuncBox
import Derived.RangeFuncLeaves
import Derived.RangeFuncCalls
import Derived.Shelf.Abstract
import Derived.Shelf.RegionOpen
import Derived.WalkKit
import Derived.OwnWalkIn
import Derived.TacticsInMore
import Derived.LoopNIn
import Derived.LoopIn
namespace Go.Proofs.YtokhipjpppfkgaaGreatDoor
open Go.ChangeShapes Go.WideShapes Go.ChangeAt Go.RowKit Go.Sort Go.Shelf
set_option linter.unusedVariables false

/-- the lines of a text, each with whether it has a newline -/
def M.linesF : Nat → List UInt8 → List (List UInt8 × Bool)
  | 0, _ => []
  | n + 1, s => if s = [] then [] else ((Lib.cut s [10]).1, (Lib.cut s [10]).2.2) :: M.linesF n (Lib.cut s [10]).2.1
def M.ln (s : List UInt8) : List (List UInt8 × Bool) := M.linesF s.length s

theorem cut_no {s : List UInt8} (h : (10 : UInt8) ∉ s) : Lib.cut s [10] = (s, [], false) := by
  unfold Lib.cut
  rw [M.index_one_none 10 s h, if_neg (by decide)]
theorem cut_at {x : List UInt8} (r : List UInt8) (h : (10 : UInt8) ∉ x) : Lib.cut (x ++ 10 :: r) [10] = (x, r, true) := by
  unfold Lib.cut
  rw [M.index_one_at 10 r x h, if_pos (by omega)]
  simp
theorem split_at (s : List UInt8) : (10 : UInt8) ∉ s ∨ ∃ x r, s = x ++ 10 :: r ∧ (10 : UInt8) ∉ x := by
  induction s with
  | nil => exact .inl (by simp)
  | cons c s ih =>
    by_cases hc : c = 10
    · subst hc; exact .inr ⟨[], s, rfl, by simp⟩
    · rcases ih with h | ⟨x, r, rfl, h⟩
      · exact .inl (fun hm => by rcases List.mem_cons.1 hm with e | e; exact hc e.symm; exact h e)
      · exact .inr ⟨c :: x, r, rfl, fun hm => by rcases List.mem_cons.1 hm with e | e; exact hc e.symm; exact h e⟩
theorem cut_len (s : List UInt8) (hs : s ≠ []) : (Lib.cut s [10]).2.1.length < s.length ∧ (Lib.cut s [10]).1.length ≤ s.length := by
  rcases split_at s with h | ⟨x, r, rfl, h⟩
  · rw [cut_no h]; exact ⟨List.length_pos_iff.2 hs, Nat.le_refl _⟩
  · rw [cut_at r h]; simp; omega

theorem linesF_more : ∀ (n m : Nat) (s : List UInt8), s.length ≤ n → s.length ≤ m → M.linesF n s = M.linesF m s
  | 0, m, s, h1, h2 => by
    have e := List.eq_nil_of_length_eq_zero (Nat.le_zero.1 h1)
    subst e
    cases m <;> rfl
  | n + 1, 0, s, h1, h2 => by
    have e := List.eq_nil_of_length_eq_zero (Nat.le_zero.1 h2)
    subst e
    rfl
  | n + 1, m + 1, s, h1, h2 => by
    unfold M.linesF
    by_cases hs : s = []
    · rw [if_pos hs, if_pos hs]
    · have := cut_len s hs
      rw [if_neg hs, if_neg hs, linesF_more n m _ (by omega) (by omega)]
theorem ln_nil : M.ln [] = [] := rfl
theorem ln_cons {s : List UInt8} (hs : s ≠ []) : M.ln s = ((Lib.cut s [10]).1, (Lib.cut s [10]).2.2) :: M.ln (Lib.cut s [10]).2.1 := by
  have h1 := cut_len s hs
  have h2 := List.length_pos_iff.2 hs
  unfold M.ln
  obtain ⟨n, hn⟩ : ∃ n, s.length = n + 1 := ⟨s.length - 1, by omega⟩
  rw [hn, M.linesF, if_neg hs, linesF_more n _ _ (by omega) (Nat.le_refl _)]

/-- a line that the loop is handed -/
abbrev Ln := { x : List UInt8 × Bool // x.1.length ≤ 100000 }
def encL (x : Ln) : Array Value := #[.string ⟨x.1.1.toArray⟩, .bool x.1.2]
def valL (xs : List Ln) : List (List UInt8 × Bool) := xs.map (·.1)

attribute [local go_sem] Oper.semAt_some

theorem cutC (s : List UInt8) (W : World) (hs : s.length ≤ 100000) (hm : ∃ m : Int, W.cell? ⟨3, 0, none⟩ = some (.int .i64 m)) :
    Calls Tryz.prog 53 #[.string ⟨s.toArray⟩, .string ⟨#[10]⟩] W fun e W' => e = .returned (.tuple #[.string ⟨(Lib.cut s [10]).1.toArray⟩, .string ⟨(Lib.cut s [10]).2.1.toArray⟩, .bool (Lib.cut s [10]).2.2]) ∧ ∃ n, W' = W.drewN n := by
  obtain ⟨m, hm⟩ := hm
  exact Tryz.strings_Cut ⟨s.toArray⟩ ⟨#[10]⟩ m W (by show s.toArray.size < _; simp; omega) hm

theorem drewN_grown (W : World) (n : Nat) : W.grownBy (W.drewN n) none := ⟨rfl, rfl, rfl, Nat.le_refl _, fun _ _ _ => rfl⟩

def strLen : Value → Nat
  | .string b => b.size
  | _ => 0
def LnRel (W : World) (n₀ : Nat) (s : List UInt8) (J : List Ln → World → Prop) (p : Value) (wr : World) : Prop :=
  ∃ (pre : List Ln) (rest : List UInt8), p = .string ⟨rest.toArray⟩ ∧ valL pre ++ M.ln rest = M.ln s ∧ rest.length ≤ 100000 ∧ J pre wr ∧ Below n₀ W wr

set_option maxRecDepth 100000 in
set_option maxHeartbeats 2000000 in
theorem lines1_in (n : Nat) (hn : 1 ≤ n) (l Bs n₀ B0 : Nat) (s : List UInt8) (hs : s.length ≤ 100000) (hn0 : 3 < n₀) (J Jx : List Ln → World → Prop) (hJ : AbidesFrom B0 J)
    (hY : ∀ pre (x : Ln) W, J pre W → pre.length < (M.ln s).length → YieldAt Fence.wide (n - 1) Tryz.prog l (encL x) W fun e W' =>
      (e = .returned (.bool true) ∧ J (pre ++ [x]) W' ∧ Below n₀ W W') ∨ (e = .returned (.bool false) ∧ Jx (pre ++ [x]) W'))
    (W : World) (hBs : W.cell? ⟨Bs, 0, none⟩ = some (.string ⟨s.toArray⟩)) (hm : ∃ m : Int, W.cell? ⟨3, 0, none⟩ = some (.int .i64 m)) (h0 : J [] W) :
    CallsIn Fence.wide n Tryz.prog 52 #[.func (.yield l) #[] #[], .pointer (some ⟨Bs, 0, none⟩)] W fun e W' => (∃ v, e = .returned v) ∧
      ((∃ ys, valL ys = M.ln s ∧ J ys W') ∨ (∃ pre, (∃ rest, valL pre ++ rest = M.ln s) ∧ Jx pre W')) := by
  refine callsIn_of_wp Tryz.func52 rfl trivial ?_ rfl
  simp only [Tryz.ntmps52, List.size_toArray, List.length_cons, List.length_nil, Nat.reduceAdd, Nat.reduceSub, Array.replicate_succ, Array.replicate_zero, List.push_toArray, List.append_toArray, List.nil_append, List.cons_append]
  gi_wp2
  gi_loopw [3] (fun p wr => LnRel W n₀ s J p wr) (fun p _ => strLen p)
  case atStart => exact ⟨[], s, rfl, by simp [valL], hs, h0, Below.refl _ _⟩
  case round =>
    obtain ⟨pre, rest, rfl, hpre, hrl, hJs, hnx⟩ := hrel
    have HPRE := Lib.hid hpre
    have hm2 : ∃ m : Int, wr.cell? ⟨3, 0, none⟩ = some (.int .i64 m) := hm.imp fun m h => (hnx.cell (p := ⟨3, 0, none⟩) hn0).trans h
    clear hpre
    cases rest with
    | nil =>
      gi_wp2
      go_end0
      exact ⟨⟨_, rfl⟩, .inl ⟨pre, by simpa [ln_nil] using HPRE.out, hJs⟩⟩
    | cons c r =>
      have hcl := cut_len (c :: r) (by simp)
      have hlc := ln_cons (s := c :: r) (by simp)
      have C := fun W => cutC (c :: r) W hrl
      obtain ⟨⟨x, a, b⟩, hcut⟩ : ∃ q, Lib.cut (c :: r) [10] = q := ⟨_, rfl⟩
      rw [hcut] at hcl hlc C
      simp only at hcl hlc C
      have hxl : x.length ≤ 100000 := by omega
      have hlt : pre.length < (M.ln s).length := by
        have h1 := congrArg List.length HPRE.out
        rw [hlc] at h1
        simp [valL] at h1
        omega
      have HLC := Lib.hid hlc
      have HC := Lib.hid C
      clear hcut hlc C
      gi_wp2_with (refine ⟨trivial, ?_⟩; gi_at_call 53; refine (callsIn_wide.2 (HC.out _ hm2)).mono ?_; rintro e w2 ⟨rfl, k, rfl⟩; obtain ⟨fn, tmps, assign, body, hy, hR⟩ := hY pre ⟨(x, b), hxl⟩ (wr.drewN k) (hJ pre wr _ none hJs (drewN_grown wr k) (fun r e => by cases e)) hlt; dsimp only [encL] at hy)
      refine hR.mono ?_
      rintro e W3 (⟨rfl, hJ3, hk3⟩ | ⟨rfl, hJx3⟩)
      · have hnx3 : Below n₀ W W3 := (hnx.trans (show Below n₀ wr (wr.drewN k) from ⟨rfl, rfl, rfl, Nat.le_refl _, fun _ _ => rfl⟩)).trans hk3
        gi_wp2
        go_roundw
        case rel => exact ⟨pre ++ [⟨(x, b), hxl⟩], a, rfl, by rw [← HPRE.out, HLC.out]; simp [valL], by omega, hJ3, hnx3⟩
        case measure => show a.toArray.size < (c :: r).toArray.size; simp; simp at hcl; omega
      · gi_wp2
        refine bodyPost_ret (results_none rfl _ _ _) rfl ?_
        exact ⟨⟨_, rfl⟩, .inr ⟨_, ⟨M.ln a, by rw [← HPRE.out, HLC.out]; simp [valL]⟩, hJx3⟩⟩

theorem lines_in (n : Nat) (s : List UInt8) (w : World) :
    CallsIn Fence.wide n Tryz.prog 30 #[.string ⟨s.toArray⟩] w fun e w' => e = .returned (.func (.func 52) #[] #[.pointer (some ⟨w.heap.size, 0, none⟩)]) ∧ w' = w.alloc (.cells #[.string ⟨s.toArray⟩] 9) := by
  refine callsIn_of_wp Tryz.func30 rfl trivial ?_ rfl
  simp only [Tryz.ntmps30, List.size_toArray, List.length_cons, List.length_nil, Nat.reduceAdd, Nat.reduceSub, Array.replicate_succ, Array.replicate_zero, List.push_toArray, List.append_toArray, List.nil_append, List.cons_append]
  gi_wp2
  go_ret
  exact ⟨rfl, rfl⟩

theorem lines_stops (n : Nat) (hn : 1 ≤ n) (Bs n₀ : Nat) (s : List UInt8) (hs : s.length ≤ 100000) (w : World) (hBs : Bs < w.heap.size) (hn₀ : n₀ ≤ w.heap.size) (hn0 : 3 < n₀)
    (hc : w.cell? ⟨Bs, 0, none⟩ = some (.string ⟨s.toArray⟩)) (hm : ∃ m : Int, w.cell? ⟨3, 0, none⟩ = some (.int .i64 m)) :
    SeqStopsK Fence.wide n Tryz.prog 52 #[.pointer (some ⟨Bs, 0, none⟩)] encL (Below n₀) (fun ys => valL ys = M.ln s) (fun pre => ∃ rest, valL pre ++ rest = M.ln s) (M.ln s).length w := fun l J Jx W hW hJ _ hY h0 =>
  lines1_in n hn l Bs n₀ W.heap.size s hs hn0 J Jx hJ hY W ((hW.cell (p := ⟨Bs, 0, none⟩) hBs).trans hc) (hm.imp fun m h => (hW.cell (p := ⟨3, 0, none⟩) (by show (3 : Nat) < _; omega)).trans h) h0

end Go.Proofs.YtokhipjpppfkgaaGreatDoor
