/-
  What ParseUint of package strconv returns at base 16 and 32 bits: contracts over the translated program. Conditions: those that stand in each theorem.
-/
import Derived.Test.YtokhipjpppfkgaaGreatDoorAsmHex
import Derived.Lib.ParseIntBMem
import Derived.Lib.AtoiAllMem
namespace Go.Proofs.YtokhipjpppfkgaaGreatDoor
open Go.ChangeShapes Go.WideShapes Go.ChangeAt Go.RowKit Go.Sort
set_option linter.unusedVariables false

/-- the value of a hexadecimal digit; 255 for any other byte -/
def M.hexv (c : UInt8) : Nat :=
  if 48 ≤ c.toNat ∧ c.toNat ≤ 57 then c.toNat - 48
  else if 97 ≤ c.toNat ||| 32 ∧ c.toNat ||| 32 ≤ 102 then (c.toNat ||| 32) - 87 else 255
/-- ParseUint at base 16 and 32 bits -/
def M.pu16 (acc : Nat) : List UInt8 → Lib.NumEnd Nat
  | [] => .ok acc
  | c :: r => if 16 ≤ M.hexv c then .syntax else if 4294967295 < acc * 16 + M.hexv c then .range else M.pu16 (acc * 16 + M.hexv c) r

theorem hexv_hexd : ∀ d : Nat, d < 16 → M.hexv (M.hexd d) = d := by decide

theorem pu16_hex (u : Nat) : u ≤ 4294967295 → ∀ t : List UInt8, M.pu16 0 (M.hexDigits u ++ t) = M.pu16 u t := by
  induction u using Nat.strongRecOn with
  | _ u ih =>
    intro hu t
    by_cases h : u < 16
    · rw [M.hex_small h]
      show M.pu16 0 (M.hexd u :: t) = _
      rw [M.pu16, hexv_hexd u h, if_neg (by omega), if_neg (by omega)]
      congr 1; omega
    · rw [M.hex_big h, List.append_assoc, ih (u / 16) (by omega) (by omega)]
      show M.pu16 (u / 16) (M.hexd (u % 16) :: t) = _
      rw [M.pu16, hexv_hexd _ (by omega), if_neg (by omega), if_neg (by omega)]
      congr 1; omega
theorem pu16_zeros : ∀ (k : Nat) (t : List UInt8), M.pu16 0 (Lib.repeatL [48] k ++ t) = M.pu16 0 t
  | 0, t => rfl
  | k + 1, t => by
    have h0 : M.hexv 48 = 0 := by decide
    show M.pu16 0 (48 :: (Lib.repeatL [48] k ++ t)) = _
    rw [M.pu16, h0, if_neg (by omega), if_neg (by omega)]
    exact pu16_zeros k t
theorem pu16_hex8 (x : Int) (h0 : 0 ≤ x) (h1 : x < 4294967296) : M.pu16 0 (M.hex8 x) = .ok x.toNat := by
  have := pu16_hex x.toNat (by omega) []
  rw [List.append_nil] at this
  unfold M.hex8
  rw [pu16_zeros, this]; rfl

theorem pu16_le : ∀ (l : List UInt8) (acc v : Nat), acc ≤ 4294967295 → M.pu16 acc l = .ok v → v ≤ 4294967295
  | [], acc, v, h, e => by injection e with e; omega
  | c :: r, acc, v, h, e => by
    rw [M.pu16] at e
    split at e
    · cases e
    · split at e
      · cases e
      · exact pu16_le r _ v (by omega) e

theorem mv32 : IntKind.u64.wrap (IntKind.u64.wrap 4294967296 - 1) = 4294967295 := by
  rw [IntKind.wrap_u64, IntKind.wrap_u64]; decide

set_option maxHeartbeats 32000000 in
set_option maxRecDepth 100000 in
theorem parseUint16I (l : List UInt8) (w : World) (hne : l ≠ []) (hmax : l.length ≤ 100000) :
    Calls Tryz.prog 89 #[.string ⟨l.toArray⟩, .int .i64 16, .int .i64 32] w fun e w' => e = .returned (Lib.uintTupleM 129 4294967295 (M.pu16 0 l)) ∧ Dn w w' := by
  have hsz : (⟨l.toArray⟩ : ByteArray).size = l.length := by show l.toArray.size = _; simp
  have hemp : l.isEmpty = false := by cases l <;> simp_all
  have hcv := Lib.run_convert_string_bytes (P := Tryz.prog) w 9 64 5 ⟨l.toArray⟩ (u := .string) Tryz.underlying9 Tryz.underlying64 Tryz.underlying5
  have hB : ∀ j, j < l.length → (Lib.bytesWorld w 5 ⟨l.toArray⟩).cell? ⟨w.heap.size, j, none⟩ = some (.int .u8 (l.getD j 0).toNat) := fun j hj => Lib.bytesWorld_cell w 5 ⟨l.toArray⟩ j (by rw [hsz]; exact hj)
  have hdn := Lib.bytesWorld_below w 5 ⟨l.toArray⟩
  obtain ⟨W1, hW1⟩ : ∃ W1, W1 = Lib.bytesWorld w 5 ⟨l.toArray⟩ := ⟨_, rfl⟩
  rw [← hW1] at hcv hB hdn
  clear hW1
  have HDN : Hid (Dn w W1) := Lib.hid hdn
  clear hdn
  have hmv := mv32
  go_enter Tryz.func89, Tryz.ntmps89
  go_wp2
  go_loop [12, 13, 101] (fun vu vn vi => ∃ (k acc : Nat) (a : Int), vu = .bool false ∧ vn = .int .u64 a ∧ vi = .int .i64 k ∧ k ≤ l.length ∧ Hid (a = (acc : Int) ∧ acc ≤ 4294967295 ∧ M.pu16 0 l = M.pu16 acc (l.drop k)))
    (fun _ _ vi => l.length - (intOf vi).toNat)
  case atStart => exact ⟨0, 0, 0, rfl, rfl, rfl, by omega, rfl, by omega, rfl⟩
  case round =>
    obtain ⟨k, acc, a, rfl, rfl, rfl, hk, hh⟩ := hrel
    obtain ⟨ha, hacc, hdec⟩ := hh.out
    clear hh
    have a0 : 0 ≤ a := by omega
    have a1 : a ≤ 4294967295 := by omega
    by_cases hkn : k < l.length
    · have hc := hB k hkn
      have hdrop : l.drop k = l[k]'hkn :: l.drop (k + 1) := List.drop_eq_getElem_cons hkn
      have hget : l.getD k 0 = l[k]'hkn := by simp [List.getD, List.getElem?_eq_getElem hkn]
      rw [hdrop] at hdec
      rw [hget] at hc
      generalize l[k]'hkn = c at hc hdec
      have hc256 : c.toNat < 256 := c.toNat_lt
      clear hB hdrop hget
      rw [M.pu16] at hdec
      by_cases hdig : 48 ≤ c.toNat ∧ c.toNat ≤ 57
      · obtain ⟨hd0, hd1⟩ := hdig
        have hv : M.hexv c = c.toNat - 48 := by unfold M.hexv; rw [if_pos ⟨hd0, hd1⟩]
        rw [hv, if_neg (by omega)] at hdec
        by_cases hov : 4294967295 < acc * 16 + (c.toNat - 48)
        · rw [if_pos hov] at hdec
          have iov : 4294967295 < a * 16 + ((c.toNat : Int) - 48) := by omega
          have HD := Lib.hid hdec
          clear hacc hov ha hdec hv
          go_wp2
          go_ret2
          exact ⟨by rw [HD.out]; rfl, HDN.out⟩
        · rw [if_neg hov] at hdec
          have HN : Hid (a * 16 + ((c.toNat : Int) - 48) = ((acc * 16 + (c.toNat - 48) : Nat) : Int) ∧ acc * 16 + (c.toNat - 48) ≤ 4294967295 ∧ M.pu16 0 l = M.pu16 (acc * 16 + (c.toNat - 48)) (l.drop (k + 1))) := Lib.hid ⟨by omega, by omega, hdec⟩
          have iov : a * 16 + ((c.toNat : Int) - 48) ≤ 4294967295 := by omega
          clear hacc hov hdec ha hv
          go_wp2
          refine ⟨⟨k + 1, acc * 16 + (c.toNat - 48), a * 16 + ((c.toNat : Int) - 48), rfl, (by first | rfl | (congr 1; omega)), (by first | rfl | (congr 1; omega)), by omega, HN⟩, by simp [intOf]; omega⟩
      · have hor : bits .or .u8 (c.toNat : Int) 32 = ((c.toNat ||| 32 : Nat) : Int) := u8_or_nat c.toNat 32 (by omega) (by omega)
        have hq256 : c.toNat ||| 32 < 256 := Nat.or_lt_two_pow (n := 8) (by omega) (by omega)
        have hv : M.hexv c = if 97 ≤ c.toNat ||| 32 ∧ c.toNat ||| 32 ≤ 102 then (c.toNat ||| 32) - 87 else 255 := by unfold M.hexv; rw [if_neg hdig]
        rw [hv] at hdec
        clear hv
        have h95 : c.toNat = 95 → c.toNat ||| 32 = 127 := fun h => by rw [h]; rfl
        generalize c.toNat ||| 32 = q at *
        have o95 : bits .or .u8 95 32 = 127 := by decide
        have hlo : c.toNat < 48 ∨ 57 < c.toNat := by omega
        by_cases hq : 97 ≤ q ∧ q ≤ 102
        · obtain ⟨q0, q1⟩ := hq
          have e : (if 97 ≤ q ∧ q ≤ 102 then q - 87 else 255) = q - 87 := if_pos ⟨q0, q1⟩
          rw [e, if_neg (by omega)] at hdec
          have n95 : c.toNat ≠ 95 := fun h => by have := h95 h; omega
          have b95 : ((c.toNat : Int) == 95) = false := beq_eq_false_iff_ne.2 (by omega)
          by_cases hov : 4294967295 < acc * 16 + (q - 87)
          · rw [if_pos hov] at hdec
            have iov : 4294967295 < a * 16 + ((q : Int) - 97 + 10) := by omega
            have HD := Lib.hid hdec
            clear hacc hov ha hdec e h95 n95 hdig
            rcases hlo with hlo | hlo
            all_goals
              go_wp2_with (go_at_call 113; refine (Tryz.internal_strconv_lower _ _).mono ?_; rintro e w' ⟨rfl, rfl⟩)
              go_ret2
              exact ⟨by rw [HD.out]; rfl, HDN.out⟩
          · rw [if_neg hov] at hdec
            have HN : Hid (a * 16 + ((q : Int) - 97 + 10) = ((acc * 16 + (q - 87) : Nat) : Int) ∧ acc * 16 + (q - 87) ≤ 4294967295 ∧ M.pu16 0 l = M.pu16 (acc * 16 + (q - 87)) (l.drop (k + 1))) := Lib.hid ⟨by omega, by omega, hdec⟩
            have iov : a * 16 + ((q : Int) - 97 + 10) ≤ 4294967295 := by omega
            clear hacc hov ha hdec e h95 n95 hdig
            rcases hlo with hlo | hlo
            all_goals
              go_wp2_with (go_at_call 113; refine (Tryz.internal_strconv_lower _ _).mono ?_; rintro e w' ⟨rfl, rfl⟩)
              refine ⟨⟨k + 1, acc * 16 + (q - 87), a * 16 + ((q : Int) - 97 + 10), rfl, (by first | rfl | (congr 1; omega)), (by first | rfl | (congr 1; omega)), by omega, HN⟩, by simp [intOf]; omega⟩
        · have e : (if 97 ≤ q ∧ q ≤ 102 then q - 87 else 255) = 255 := if_neg hq
          rw [e, if_pos (by omega)] at hdec
          have HD := Lib.hid hdec
          have hq2 : q < 97 ∨ 122 < q ∨ (102 < q ∧ q ≤ 122) := by omega
          clear hacc ha hdec e hdig hq
          by_cases n95 : c.toNat = 95
          · have hq7 := h95 n95
            subst hq7
            rw [n95] at hc
            clear hlo h95 hq2 hor n95 hc256 hq256
            go_wp2_with (go_at_call 113; refine (Tryz.internal_strconv_lower _ _).mono ?_; rintro e w' ⟨rfl, rfl⟩)
            go_ret2
            exact ⟨by rw [HD.out]; rfl, HDN.out⟩
          · have b95 : ((c.toNat : Int) == 95) = false := beq_eq_false_iff_ne.2 (by omega)
            clear h95 n95
            rcases hq2 with hq2 | hq2 | ⟨hq2, hq3⟩ <;> rcases hlo with hlo | hlo
            all_goals
              go_wp2_with (go_at_call 113; refine (Tryz.internal_strconv_lower _ _).mono ?_; rintro e w' ⟨rfl, rfl⟩)
              go_ret2
              exact ⟨by rw [HD.out]; rfl, HDN.out⟩
    · have hkk : k = l.length := by omega
      subst hkk
      have hF : M.pu16 acc (l.drop l.length) = .ok acc := by rw [List.drop_eq_nil_of_le (by omega)]; rfl
      rw [hF] at hdec
      subst ha
      have HD := Lib.hid hdec
      clear hacc hF a0 a1 hdec
      go_wp2
      go_ret2
      exact ⟨by rw [HD.out]; rfl, HDN.out⟩

end Go.Proofs.YtokhipjpppfkgaaGreatDoor
