/-
  What the functions of package asm that turn one word into a line and back return when called: contracts over the translated program. Conditions: the package variables hold what the program's text lays there; strings are not longer than a hundred thousand bytes.
-/
import Derived.Test.YtokhipjpppfkgaaGreatDoorAsmPu16
import Derived.Test.YtokhipjpppfkgaaGreatDoorAsmParse
import Derived.Test.YtokhipjpppfkgaaGreatDoorIsaPack
namespace Go.Proofs.YtokhipjpppfkgaaGreatDoor
open Go.ChangeShapes Go.WideShapes Go.ChangeAt Go.RowKit Go.Sort
set_option linter.unusedVariables false

theorem uintTup_ok {l : List UInt8} {v : Nat} (h : M.pu16 0 l = .ok v) : Lib.uintTupleM 129 4294967295 (M.pu16 0 l) = .tuple #[.int .u64 v, .nilIface] := by rw [h]; rfl
theorem uintTup_sy {l : List UInt8} (h : M.pu16 0 l = .«syntax») : Lib.uintTupleM 129 4294967295 (M.pu16 0 l) = .tuple #[.int .u64 0, .iface 129 (.int .i64 2)] := by rw [h]; rfl
theorem uintTup_ra {l : List UInt8} (h : M.pu16 0 l = .range) : Lib.uintTupleM 129 4294967295 (M.pu16 0 l) = .tuple #[.int .u64 4294967295, .iface 129 (.int .i64 1)] := by rw [h]; rfl

set_option maxHeartbeats 1000000 in
theorem parseUint_ok (l : List UInt8) (W : World) (hne : l ≠ []) (hmax : l.length ≤ 100000) (v : Nat) (h : M.pu16 0 l = .ok v) :
    Calls Tryz.prog 72 #[.string ⟨l.toArray⟩, .int .i64 16, .int .i64 32] W fun e W' => e = .returned (.tuple #[.int .u64 v, .nilIface]) ∧ Dn W W' := by
  have C := parseUint16I l W hne hmax
  rw [uintTup_ok h] at C
  have HC := Lib.hid C
  clear C h
  go_enter Tryz.func72, Tryz.ntmps72
  go_wp2_with (go_at_call 89; refine HC.out.mono ?_; rintro e w1 ⟨rfl, dn⟩)
  go_ret2
  exact ⟨rfl, dn⟩

def PuErr (W : World) (e : Ending) (W' : World) : Prop := ∃ x N : Nat, x ≤ 4294967295 ∧ e = .returned (.tuple #[.int .u64 x, .iface 130 (.pointer (some ⟨N, 0, none⟩))]) ∧ Dn W W'

set_option maxHeartbeats 1000000 in
theorem parseUint_sy (l : List UInt8) (W : World) (E : Env W) (hne : l ≠ []) (hmax : l.length ≤ 100000) (h : M.pu16 0 l = .«syntax») :
    Calls Tryz.prog 72 #[.string ⟨l.toArray⟩, .int .i64 16, .int .i64 32] W (PuErr W) := by
  have C := parseUint16I l W hne hmax
  rw [uintTup_sy h] at C
  have HC := Lib.hid C
  clear C h
  have hsz : (⟨l.toArray⟩ : ByteArray).size ≤ 281474976710656 := by show l.toArray.size ≤ _; simp; omega
  go_enter Tryz.func72, Tryz.ntmps72
  go_wp2_with fail
  refine HC.out.mono ?_
  rintro e w1 ⟨rfl, dn⟩
  obtain ⟨tp, p, hS⟩ := (E.dn dn).errS
  go_wp2_with (go_at_call 86; refine (Tryz.strconv_toError_syntax _ _ _ _ _ _ hsz hS (.inr ⟨_, _, rfl⟩)).mono ?_; rintro e w2 ⟨N, rfl, _, _, dn2⟩)
  go_ret2
  exact ⟨0, N, by omega, rfl, dn.trans dn2⟩

set_option maxHeartbeats 1000000 in
theorem parseUint_ra (l : List UInt8) (W : World) (E : Env W) (hne : l ≠ []) (hmax : l.length ≤ 100000) (h : M.pu16 0 l = .range) :
    Calls Tryz.prog 72 #[.string ⟨l.toArray⟩, .int .i64 16, .int .i64 32] W (PuErr W) := by
  have C := parseUint16I l W hne hmax
  rw [uintTup_ra h] at C
  have HC := Lib.hid C
  clear C h
  have hsz : (⟨l.toArray⟩ : ByteArray).size ≤ 281474976710656 := by show l.toArray.size ≤ _; simp; omega
  go_enter Tryz.func72, Tryz.ntmps72
  go_wp2_with fail
  refine HC.out.mono ?_
  rintro e w1 ⟨rfl, dn⟩
  obtain ⟨tp, p, hR⟩ := (E.dn dn).errR
  go_wp2_with (go_at_call 86; refine (Tryz.strconv_toError_range _ _ _ _ _ _ hsz hR (.inr ⟨_, _, rfl⟩)).mono ?_; rintro e w2 ⟨N, rfl, _, _, dn2⟩)
  go_ret2
  exact ⟨4294967295, N, by omega, rfl, dn.trans dn2⟩

set_option maxHeartbeats 1000000 in
theorem parseUint_em (W : World) (E : Env W) :
    Calls Tryz.prog 72 #[.string ⟨#[]⟩, .int .i64 16, .int .i64 32] W (PuErr W) := by
  obtain ⟨tp, p, hS⟩ := E.errS
  go_enter Tryz.func72, Tryz.ntmps72
  go_wp2_with (first
    | (go_at_call 89; refine (Tryz.internal_strconv_ParseUint_empty _ _ _).mono ?_; rintro e w1 ⟨rfl, rfl⟩)
    | (go_at_call 86; refine (Tryz.strconv_toError_syntax _ _ _ _ _ _ (by decide) hS (.inr ⟨_, _, rfl⟩)).mono ?_; rintro e w2 ⟨N, rfl, _, _, dn2⟩))
  go_ret2
  exact ⟨0, N, by omega, rfl, dn2⟩

end Go.Proofs.YtokhipjpppfkgaaGreatDoor
