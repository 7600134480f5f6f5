/-
  The law AsmEveryWordHasOneLine walked. Condition: the package variables hold what the program's text lays there.
-/
import Derived.Test.YtokhipjpppfkgaaGreatDoorAsmAwake
namespace Go.Proofs.YtokhipjpppfkgaaGreatDoor
open Go.ChangeShapes Go.WideShapes Go.ChangeAt Go.RowKit Go.Sort
set_option linter.unusedVariables false

/-- n hexadecimal digits -/
def M.hexN : Nat → Nat → List UInt8
  | 0, _ => []
  | n + 1, u => M.hexN n (u / 16) ++ [M.hexd (u % 16)]
theorem hexN_zero : ∀ n : Nat, M.hexN n 0 = Lib.repeatL [48] n
  | 0 => rfl
  | n + 1 => by
    rw [M.hexN, hexN_zero n]
    have : ∀ k : Nat, Lib.repeatL [48] k ++ [(48 : UInt8)] = Lib.repeatL [48] (k + 1) := by
      intro k
      induction k with
      | zero => rfl
      | succ k ih =>
        have e : ∀ k, Lib.repeatL [(48 : UInt8)] (k + 1) = [48] ++ Lib.repeatL [48] k := fun k => by simp [Lib.repeatL]
        rw [e k, List.append_assoc, ih, ← e (k + 1)]
    exact this n
theorem hexN_hex : ∀ (n u : Nat), u < 16 ^ (n + 1) → Lib.repeatL [48] (n + 1 - (M.hexDigits u).length) ++ M.hexDigits u = M.hexN (n + 1) u
  | 0, u, h => by
    have h1 : u < 16 := by simpa using h
    rw [M.hex_small h1, M.hexN, M.hexN, Nat.mod_eq_of_lt h1]
    rfl
  | n + 1, u, h => by
    by_cases h1 : u < 16
    · rw [M.hex_small h1, M.hexN, Nat.mod_eq_of_lt h1, Nat.div_eq_of_lt h1, hexN_zero]
      rfl
    · rw [M.hex_big h1, M.hexN, ← hexN_hex n (u / 16) (by rw [Nat.pow_succ] at h; omega), List.length_append, List.length_singleton, List.append_assoc]
      have : n + 1 + 1 - ((M.hexDigits (u / 16)).length + 1) = n + 1 - (M.hexDigits (u / 16)).length := by omega
      rw [this]
theorem hex8_hexN (x : Int) (h0 : 0 ≤ x) (h1 : x < 4294967296) : M.hex8 x = M.hexN 8 x.toNat := hexN_hex 7 x.toNat (by omega)

/-- the first n digits -/
def M.hx (u k : Nat) : List UInt8 := M.hexN (8 - k) (u / 16 ^ k)
theorem hx_step (u k : Nat) (h : k < 8) : M.hx u (k + 1) ++ [M.hexd (u / 16 ^ k % 16)] = M.hx u k := by
  unfold M.hx
  obtain ⟨m, hm⟩ : ∃ m, 8 - k = m + 1 := ⟨7 - k, by omega⟩
  have e : 8 - (k + 1) = m := by omega
  rw [hm, e, M.hexN, Nat.div_div_eq_div_mul, ← Nat.pow_succ]

theorem hexN_len : ∀ n u : Nat, (M.hexN n u).length = n
  | 0, _ => rfl
  | n + 1, u => by rw [M.hexN, List.length_append, hexN_len n]; rfl
theorem hx_len (u k : Nat) : (wordM ++ M.hx u k).length ≤ 13 := by
  unfold M.hx
  rw [List.length_append, hexN_len]
  show 5 + (8 - k) ≤ 13
  omega

theorem not_line (x : Int) (h0 : 0 ≤ x) (h1 : x < 4294967296) (hd : M.dok x = true) : ¬ IsLine (wordM ++ M.hex8 x) := by
  rintro ⟨y, y0, y1, e⟩
  cases hk : M.dok y
  · rw [lineT_no hk] at e
    have e2 : M.hex8 y = M.hex8 x := List.append_cancel_left e
    have h2 := pu16_hex8 x h0 h1
    rw [← e2, pu16_hex8 y y0 y1] at h2
    injection h2 with h2
    have : x = y := by omega
    subst this
    rw [hd] at hk; cases hk
  · rw [lineT_yes hk] at e
    have h2 := text_no_word _ _ _ _ _ (dok_ok hk).1
    rw [e, wordM_prefix] at h2
    cases h2

set_option maxRecDepth 100000 in
theorem slice_dig (d : Int) (h0 : 0 ≤ d) (h1 : d < 16) (W : World) : (Instr.slice 9 (.string ⟨#[48, 49, 50, 51, 52, 53, 54, 55, 56, 57, 97, 98, 99, 100, 101, 102]⟩) (some (.int .u32 d)) (some (.int .u32 (d + 1))) none).run Tryz.prog W = .ok (.string ⟨#[M.hexd d.toNat]⟩) W := by
  have hc : d = 0 ∨ d = 1 ∨ d = 2 ∨ d = 3 ∨ d = 4 ∨ d = 5 ∨ d = 6 ∨ d = 7 ∨ d = 8 ∨ d = 9 ∨ d = 10 ∨ d = 11 ∨ d = 12 ∨ d = 13 ∨ d = 14 ∨ d = 15 := by omega
  rcases hc with rfl | rfl | rfl | rfl | rfl | rfl | rfl | rfl | rfl | rfl | rfl | rfl | rfl | rfl | rfl | rfl <;> rfl

theorem ew_step (x : Int) (h0 : 0 ≤ x) (k : Nat) (hk : k < 8) (K : Int) (hK : K = (16 ^ k : Nat)) :
    Value.string ((⟨(wordM ++ M.hx x.toNat (k + 1)).toArray⟩ : ByteArray) ++ ⟨#[M.hexd (x / K % 16).toNat]⟩) = .string ⟨(wordM ++ M.hx x.toNat k).toArray⟩ := by
  obtain ⟨u, rfl⟩ := Int.eq_ofNat_of_zero_le h0
  subst hK
  have e : ((u : Int) / ((16 ^ k : Nat) : Int) % 16).toNat = u / 16 ^ k % 16 := by
    rw [← Int.natCast_ediv, show (16 : Int) = ((16 : Nat) : Int) from rfl, ← Int.natCast_emod]
    rfl
  rw [e, Int.toNat_natCast, show (⟨#[M.hexd (u / 16 ^ k % 16)]⟩ : ByteArray) = ⟨[M.hexd (u / 16 ^ k % 16)].toArray⟩ from rfl, bytes_append, List.append_assoc, hx_step u k hk]

def EwRel (u : Nat) (W : World) (h k : Value) (w : World) : Prop :=
  ∃ (n : Nat) (z : Int), n ≤ 8 ∧ z = (n : Int) - 1 ∧ k = .int .i64 z ∧ h = .string ⟨(wordM ++ M.hx u n).toArray⟩ ∧ w = W

set_option maxRecDepth 100000 in
set_option maxHeartbeats 2000000 in
theorem ewWalk (x : Int) (h0 : 0 ≤ x) (h1 : x < 4294967296) (W : World) (E : Env W) :
    Calls Tryz.prog 7 #[.int .u32 x] W fun e W' => e = .returned (.bool true) ∧ Dn W W' := by
  go_enter Tryz.func7, Tryz.ntmps7
  go_wp2_with fail
  refine (awake _ E).mono ?_
  rintro e w1 ⟨rfl, dn1⟩
  go_wp2_with fail
  refine (disassemble _ _ [x] _ (E.dn (dn1.alloc _)) (words_new w1 [x] (by intro y hy; simp at hy; omega)) (by simp)).mono ?_
  rintro e w2 ⟨rfl, dn2⟩
  have k2 := (dn1.alloc _).trans dn2
  go_wp2_with fail
  refine (refDecode x _ h0 h1).mono ?_
  rintro e w3 ⟨rfl, up3⟩
  have k3 := k2.trans up3.dn
  go_wp2_with fail
  have k4 := k3.alloc (Obj.cells #[Value.int IntKind.i64 (dI x M.dOp), Value.int IntKind.i64 (dI x M.dRd), Value.int IntKind.i64 (dI x M.dRa), Value.int IntKind.i64 (dI x M.dRb), Value.int IntKind.i32 (dI x M.dImm)] 23)
  have b4 := Box.new w3 (.int .i64 (dI x M.dOp)) (.int .i64 (dI x M.dRd)) (.int .i64 (dI x M.dRa)) (.int .i64 (dI x M.dRb)) (.int .i32 (dI x M.dImm)) 23
  generalize w3.alloc (Obj.cells #[Value.int IntKind.i64 (dI x M.dOp), Value.int IntKind.i64 (dI x M.dRd), Value.int IntKind.i64 (dI x M.dRa), Value.int IntKind.i64 (dI x M.dRb), Value.int IntKind.i32 (dI x M.dImm)] 23) = w4 at *
  go_loopw [6, 7] (fun h k w => EwRel x.toNat w4 h k w) (fun _ k _ => (intOf k + 1).toNat)
  case atStart => exact ⟨8, 7, by omega, by omega, rfl, rfl, rfl⟩
  case round =>
    obtain ⟨n, z, hn, hz, rfl, rfl, rfl⟩ := hrel
    have hc : n = 0 ∨ n = 1 ∨ n = 2 ∨ n = 3 ∨ n = 4 ∨ n = 5 ∨ n = 6 ∨ n = 7 ∨ n = 8 := by omega
    rcases hc with rfl | rfl | rfl | rfl | rfl | rfl | rfl | rfl | rfl
    · obtain rfl : z = -1 := by omega
      clear hz
      have e0 : M.hx x.toNat 0 = M.hex8 x := by rw [hex8_hexN x h0 h1]; unfold M.hx; simp
      have hl := hx_len x.toNat 0
      cases hd : M.dok x
      · have e1 : M.disT [x] = (wordM ++ M.hx x.toNat 0) ++ [10] := by unfold M.disT; simp [lineT_no hd, e0, wordM]
        rw [e1]
        have HB := bytes_append (wordM ++ M.hx x.toNat 0) [10]
        generalize wordM ++ M.hx x.toNat 0 = t at *
        have HC : (t ++ [10] == (⟨(t ++ [10]).toArray⟩ : ByteArray).toList) = true := by simp
        go_wp2
        go_ret
        exact ⟨rfl, k4⟩
      · have z : ∀ f, dI x f = f x := fun f => by unfold dI; rw [hd]; rfl
        have hk := (dok_ok hd).1
        have hb : ¬ IsLine (wordM ++ M.hx x.toNat 0) := by rw [e0]; exact not_line x h0 h1 hd
        have h10 : (10 : UInt8) ∉ wordM ++ M.hx x.toNat 0 := by
          intro hm
          rw [e0] at hm
          rcases List.mem_append.1 hm with h2 | h2
          · revert h2; decide
          · unfold M.hex8 at h2
            rcases List.mem_append.1 h2 with h3 | h3
            · exact rep_no _ h3
            · exact hex_no _ h3
        have e1 : M.disT [x] = M.lineT x ++ [10] := by unfold M.disT; simp
        rw [e1, lineT_yes hd]
        simp only [z] at b4
        have hl2 := M.text_len _ _ _ _ _ hk
        obtain ⟨q0, q1, q2, q3, q4, q5⟩ := b4.open
        have HB := bytes_append (wordM ++ M.hx x.toNat 0) [10]
        generalize wordM ++ M.hx x.toNat 0 = t at *
        go_wp2_with fail
        refine (format_ok _ _ _ _ _ _ (E.dn k4) hk).mono ?_
        rintro e w5 ⟨rfl, dn5⟩
        clear q0 q1 q2 q3 q4 q5 b4
        go_wp2_with fail
        refine (assemble_bad [] (fun y hy => absurd hy (by simp)) t [] (t ++ [10]) (by simp [M.disT]) h10 hb _ (E.dn (k4.trans dn5)) (by simp; omega)).mono ?_
        rintro e w6 ⟨rfl, dn6⟩
        have HD := bytes_append (M.text (M.dOp x) (M.dRd x) (M.dRa x) (M.dRb x) (M.dImm x)) [10]
        generalize M.text (M.dOp x) (M.dRd x) (M.dRa x) (M.dRb x) (M.dImm x) = tx at *
        have HC : (tx ++ [10] == (⟨(tx ++ [10]).toArray⟩ : ByteArray).toList) = true := by simp
        go_wp2
        go_ret
        exact ⟨rfl, (k4.trans dn5).trans dn6⟩
    · obtain rfl : z = 0 := by omega
      clear hz
      have hs := slice_dig (x % 16) (by omega) (by omega) wr
      have HE := Lib.hid (ew_step x h0 0 (by decide) 1 (by decide))
      rw [Int.ediv_one] at HE
      have hl := hx_len x.toNat (0 + 1)
      generalize wordM ++ M.hx x.toNat (0 + 1) = t at *
      go_wp2
      exact ⟨⟨0, -1, by omega, by omega, rfl, HE.out, rfl⟩, by simp [intOf]⟩
    · obtain rfl : z = 1 := by omega
      clear hz
      have hs := slice_dig (x / 16 % 16) (by omega) (by omega) wr
      have HE := Lib.hid (ew_step x h0 1 (by decide) 16 (by decide))
      have hl := hx_len x.toNat (1 + 1)
      generalize wordM ++ M.hx x.toNat (1 + 1) = t at *
      go_wp2
      exact ⟨⟨1, 0, by omega, by omega, rfl, HE.out, rfl⟩, by simp [intOf]⟩
    · obtain rfl : z = 2 := by omega
      clear hz
      have hs := slice_dig (x / 256 % 16) (by omega) (by omega) wr
      have HE := Lib.hid (ew_step x h0 2 (by decide) 256 (by decide))
      have hl := hx_len x.toNat (2 + 1)
      generalize wordM ++ M.hx x.toNat (2 + 1) = t at *
      go_wp2
      exact ⟨⟨2, 1, by omega, by omega, rfl, HE.out, rfl⟩, by simp [intOf]⟩
    · obtain rfl : z = 3 := by omega
      clear hz
      have hs := slice_dig (x / 4096 % 16) (by omega) (by omega) wr
      have HE := Lib.hid (ew_step x h0 3 (by decide) 4096 (by decide))
      have hl := hx_len x.toNat (3 + 1)
      generalize wordM ++ M.hx x.toNat (3 + 1) = t at *
      go_wp2
      exact ⟨⟨3, 2, by omega, by omega, rfl, HE.out, rfl⟩, by simp [intOf]⟩
    · obtain rfl : z = 4 := by omega
      clear hz
      have hs := slice_dig (x / 65536 % 16) (by omega) (by omega) wr
      have HE := Lib.hid (ew_step x h0 4 (by decide) 65536 (by decide))
      have hl := hx_len x.toNat (4 + 1)
      generalize wordM ++ M.hx x.toNat (4 + 1) = t at *
      go_wp2
      exact ⟨⟨4, 3, by omega, by omega, rfl, HE.out, rfl⟩, by simp [intOf]⟩
    · obtain rfl : z = 5 := by omega
      clear hz
      have hs := slice_dig (x / 1048576 % 16) (by omega) (by omega) wr
      have HE := Lib.hid (ew_step x h0 5 (by decide) 1048576 (by decide))
      have hl := hx_len x.toNat (5 + 1)
      generalize wordM ++ M.hx x.toNat (5 + 1) = t at *
      go_wp2
      exact ⟨⟨5, 4, by omega, by omega, rfl, HE.out, rfl⟩, by simp [intOf]⟩
    · obtain rfl : z = 6 := by omega
      clear hz
      have hs := slice_dig (x / 16777216 % 16) (by omega) (by omega) wr
      have HE := Lib.hid (ew_step x h0 6 (by decide) 16777216 (by decide))
      have hl := hx_len x.toNat (6 + 1)
      generalize wordM ++ M.hx x.toNat (6 + 1) = t at *
      go_wp2
      exact ⟨⟨6, 5, by omega, by omega, rfl, HE.out, rfl⟩, by simp [intOf]⟩
    · obtain rfl : z = 7 := by omega
      clear hz
      have hs := slice_dig (x / 268435456 % 16) (by omega) (by omega) wr
      have HE := Lib.hid (ew_step x h0 7 (by decide) 268435456 (by decide))
      have hl := hx_len x.toNat (7 + 1)
      generalize wordM ++ M.hx x.toNat (7 + 1) = t at *
      go_wp2
      exact ⟨⟨7, 6, by omega, by omega, rfl, HE.out, rfl⟩, by simp [intOf]⟩
end Go.Proofs.YtokhipjpppfkgaaGreatDoor
