/-
  What opcodeOf, operandReader and the closure register of package asm return when called: contracts over the translated program. Conditions: those that stand in each theorem.
-/
import Derived.Test.YtokhipjpppfkgaaGreatDoorAsmNext
import Derived.Deep.MidRow
namespace Go.Proofs.YtokhipjpppfkgaaGreatDoor
open Go.ChangeShapes Go.WideShapes Go.ChangeAt Go.RowKit Go.Sort
set_option linter.unusedVariables false

def RegRet (W : World) (B : Nat) (l : List (List UInt8)) (e : Ending) (W' : World) : Prop :=
  e = .returned (.int .i64 (M.nx [114] l)) ∧ FRs W' B (l.drop 1) ∧ W.grownBy W' (some B)

set_option maxHeartbeats 1000000 in
theorem register (l : List (List UInt8)) (B N : Nat) (W : World) (E : Env W) (hB : 10 < B) (hfl : ∀ f ∈ l, f.length ≤ 100000) (hr : l.length ≤ 100) (h : FRs W B l)
    (hN : W.cell? ⟨N, 0, none⟩ = some (.func (.func 68) #[] #[.pointer (some ⟨B, 0, none⟩)])) :
    Calls Tryz.prog 51 #[.pointer (some ⟨N, 0, none⟩)] W (RegRet W B l) := by
  obtain ⟨n1, n2⟩ := M.nx_rng [114] l
  have HL := Lib.hid hfl
  clear hfl
  go_enter Tryz.func51, Tryz.ntmps51
  go_wp2_with (go_at_call 68; refine (next [114] l B _ E hB HL.out hr h).mono ?_; rintro e w1 ⟨rfl, fr, gr⟩)
  go_ret
  exact ⟨rfl, fr, gr⟩

theorem operandReader (A : Option Addr) (n c : Nat) (W : World) :
    Calls Tryz.prog 50 #[.slice A n c] W fun e W' => e = .returned (.func (.func 68) #[] #[.pointer (some ⟨W.heap.size, 0, none⟩)]) ∧ W' = W.alloc (.cells #[.slice A n c] 49) := by
  go_enter Tryz.func50, Tryz.ntmps50
  go_wp2
  go_ret
  exact ⟨rfl, rfl⟩

/-- the table of mnemonics as a value -/
def mnemVals : Array Value := (M.mnems.map fun t => Value.string ⟨t.toArray⟩).toArray

theorem mnem_at (k : Nat) (h : k < 26) : mnemVals[k]? = some (.string ⟨(M.mnem k).toArray⟩) := by
  have : ∀ k : Nat, k < 26 → M.mnems[k]? = some (M.mnem k) := by decide
  unfold mnemVals
  simp [this k h]

theorem Env.row {W : World} (E : Env W) : W.rangeAt 0 0 mnemVals.toList := by
  intro j v hj
  have hlt : j < 26 := by
    have : mnemVals.toList.length = 26 := by decide
    have h2 := (List.getElem?_eq_some_iff.1 hj).1
    omega
  rw [Array.getElem?_toList, mnem_at j hlt] at hj
  injection hj with hj
  subst hj
  have := E.mnem j (by omega) (by omega)
  simpa using this

theorem run_ix (k : Nat) (hk : k < 26) (w : World) : (Instr.index 50 (.agg mnemVals) (.int .i64 k)).run Tryz.prog w = .ok (.string ⟨(M.mnem k).toArray⟩) w := by
  have h1 := mnem_at k hk
  simp [Instr.index, run_underlying Tryz.underlying50, asIntOf, part, h1]
  intro h
  omega

def OpcRet (s : List UInt8) (W : World) (e : Ending) (W' : World) : Prop := ∃ op, e = .returned (.int .i64 op) ∧ M.OpOf s op ∧ W = W'

set_option maxRecDepth 100000 in
set_option maxHeartbeats 1000000 in
theorem opcodeOf (s : List UInt8) (W : World) (E : Env W) :
    Calls Tryz.prog 49 #[.string ⟨s.toArray⟩] W (OpcRet s W) := by
  have hrow := Lib.hid E.row
  go_enter Tryz.func49, Tryz.ntmps49
  go_wp2_with (refine wpList_load_mid rfl 50 _ rfl 0 0 rfl mnemVals.toList _ hrow.out Tryz.underlying50 rfl (by kernel_rfl) ?_)
  go_loop [6] (fun i => ∃ k : Nat, k ≤ 26 ∧ i = .int .i64 k ∧ Hid (∀ j : Nat, j < k → M.mnem j ≠ s)) (fun i => 26 - (intOf i).toNat)
  case atStart => exact ⟨0, by omega, rfl, Lib.hid fun j hj => absurd hj (by omega)⟩
  case round =>
    obtain ⟨k, hk, rfl, HK⟩ := hrel
    by_cases hlt : k < 26
    · have hix := run_ix k hlt W
      cases hm : (M.mnem k == s)
      · have HM : Hid (∀ j : Nat, j < k + 1 → M.mnem j ≠ s) := Lib.hid fun j hj => by
          rcases Nat.lt_or_ge j k with h | h
          · exact HK.out j h
          · have e : j = k := by omega
            subst e
            simpa using hm
        go_wp2
        go_round
        case rel => exact ⟨k + 1, by omega, by go_num, HM⟩
        case measure => simp [intOf]; omega
      · have HM : Hid (M.OpOf s k) := Lib.hid (.inl ⟨by omega, by omega, by simpa using hm⟩)
        go_wp2
        go_ret
        exact ⟨k, rfl, HM.out, rfl⟩
    · have HM : Hid (M.OpOf s 0) := Lib.hid (.inr ⟨rfl, fun j hj => HK.out j (by omega)⟩)
      go_wp2
      go_ret
      exact ⟨0, rfl, HM.out, rfl⟩

end Go.Proofs.YtokhipjpppfkgaaGreatDoor
