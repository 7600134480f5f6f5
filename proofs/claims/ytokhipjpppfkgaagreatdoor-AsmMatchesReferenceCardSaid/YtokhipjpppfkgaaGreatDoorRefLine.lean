/-
  What Line and Put of package gaolerref03 return when called: contracts over the translated program. Conditions: those that stand in each theorem.
-/
import Derived.Test.YtokhipjpppfkgaaGreatDoorRefText3
import Derived.Test.YtokhipjpppfkgaaGreatDoorAsmEw
namespace Go.Proofs.YtokhipjpppfkgaaGreatDoor
open Go.ChangeShapes Go.WideShapes Go.ChangeAt Go.RowKit Go.Sort
set_option linter.unusedVariables false

theorem hexN_front : ∀ (k u : Nat), M.hexN (k + 1) u = M.hexd (u / 16 ^ k % 16) :: M.hexN k u
  | 0, u => by simp [M.hexN]
  | k + 1, u => by
    rw [M.hexN, hexN_front k (u / 16), M.hexN, Nat.div_div_eq_div_mul, Nat.pow_succ, Nat.mul_comm 16 (16 ^ k)]
    rfl

def LnRelR (u : Nat) (B : World) (w s k : Value) (W : World) : Prop :=
  ∃ n v : Nat, n ≤ 8 ∧ v = u / 16 ^ n ∧ v < 4294967296 ∧ k = .int .i64 n ∧ w = .int .u32 v ∧ s = .string ⟨(M.hexN n u).toArray⟩ ∧ Dn B W

def d16 : ByteArray := ⟨#[48, 49, 50, 51, 52, 53, 54, 55, 56, 57, 97, 98, 99, 100, 101, 102]⟩
theorem d16_at : ∀ v : Nat, v < 16 → d16.data[v]? = some (M.hexd v) := by decide
theorem d16_get (v : Nat) (h : v < 16) (h2 : v < d16.size) : ((d16[v]'h2).toNat : Int) = ((M.hexd v).toNat : Int) := by
  have h1 := d16_at v h
  have h3 : d16.data[v]? = some (d16[v]'h2) := Array.getElem?_eq_getElem h2
  rw [h3] at h1
  injection h1 with h1
  rw [h1]
theorem str1b (b : UInt8) (w : World) : (convert 64 9 (.slice (some ⟨w.heap.size, 0, none⟩) 1 1)).run Tryz.prog (w.alloc (.cells #[.int .u8 (b.toNat : Int)] 5)) = .ok (.string ⟨#[b]⟩) (w.alloc (.cells #[.int .u8 (b.toNat : Int)] 5)) := by
  have := str1 (b.toNat : Int) (by omega) (by have := b.toNat_lt; omega) w.heap.size _ (new_cell0 w (.int .u8 (b.toNat : Int)) 5)
  rw [Int.toNat_natCast, UInt8.ofNat_toNat] at this
  exact this

set_option maxRecDepth 100000 in
set_option maxHeartbeats 1000000 in
theorem refLine_yes (x : Int) (W : World) (h0 : 0 ≤ x) (h1 : x < 4294967296) (hd : M.dok x = true) :
    Calls Tryz.prog 36 #[.int .u32 x] W fun e W' => e = .returned (.string ⟨(M.lineT x ++ [10]).toArray⟩) ∧ Dn W W' := by
  have hk := (dok_ok hd).1
  rw [lineT_yes hd]
  have hl := M.text_len _ _ _ _ _ hk
  have HB := bytes_append (M.text (M.dOp x) (M.dRd x) (M.dRa x) (M.dRb x) (M.dImm x)) [10]
  go_enter Tryz.func36, Tryz.ntmps36
  go_wp2_with fail
  refine (refDecode_yes x _ h0 h1 hd).mono ?_
  rintro e w1 ⟨rfl, up1⟩
  have b1 := Box.new w1 (.int .i64 (M.dOp x)) (.int .i64 (M.dRd x)) (.int .i64 (M.dRa x)) (.int .i64 (M.dRb x)) (.int .i32 (M.dImm x)) 23
  obtain ⟨q0, q1, q2, q3, q4, q5⟩ := b1.open
  go_wp2_with fail
  refine (refText_yes _ _ _ _ _ _ hk).mono ?_
  rintro e w2 ⟨rfl, dn2⟩
  go_wp2
  go_ret
  exact ⟨rfl, (up1.dn.alloc _).trans dn2⟩

set_option maxRecDepth 100000 in
set_option maxHeartbeats 1000000 in
theorem refLine_no (x : Int) (W : World) (h0 : 0 ≤ x) (h1 : x < 4294967296) (hd : M.dok x = false) :
    Calls Tryz.prog 36 #[.int .u32 x] W fun e W' => e = .returned (.string ⟨(M.lineT x ++ [10]).toArray⟩) ∧ Dn W W' := by
  rw [lineT_no hd, hex8_hexN x h0 h1]
  have hrd := refDecode x W h0 h1
  rw [hd] at hrd
  have HR := Lib.hid hrd
  clear hrd
  obtain ⟨u, rfl⟩ := Int.eq_ofNat_of_zero_le h0
  rw [Int.toNat_natCast]
  go_enter Tryz.func36, Tryz.ntmps36
  go_wp2_with fail
  refine HR.out.mono ?_
  rintro e w1 ⟨rfl, up1⟩
  go_wp2_with fail
  have k1 := up1.dn.alloc (Obj.cells #[Value.int IntKind.i64 (dI u M.dOp), Value.int IntKind.i64 (dI u M.dRd), Value.int IntKind.i64 (dI u M.dRa), Value.int IntKind.i64 (dI u M.dRb), Value.int IntKind.i32 (dI u M.dImm)] 23)
  generalize w1.alloc (Obj.cells #[Value.int IntKind.i64 (dI u M.dOp), Value.int IntKind.i64 (dI u M.dRd), Value.int IntKind.i64 (dI u M.dRa), Value.int IntKind.i64 (dI u M.dRb), Value.int IntKind.i32 (dI u M.dImm)] 23) = w2 at *
  go_loopw [0, 8, 9] (fun w s k W' => LnRelR u w2 w s k W') (fun _ _ k _ => 8 - (intOf k).toNat)
  case atStart => exact ⟨0, u, by omega, by simp, by omega, rfl, rfl, rfl, Dn.refl _⟩
  case round =>
    obtain ⟨n, v, hn, hv, hv2, rfl, rfl, rfl, hdn⟩ := hrel
    have hl := hexN_len n u
    by_cases hlt : n < 8
    · have hlt2 : (n : Int) < 8 := by omega
      have HE : Hid ((⟨#[M.hexd (v % 16)]⟩ : ByteArray) ++ ⟨(M.hexN n u).toArray⟩ = ⟨(M.hexN (n + 1) u).toArray⟩) := Lib.hid (by
        rw [hexN_front, ← hv, show (⟨#[M.hexd (v % 16)]⟩ : ByteArray) = ⟨[M.hexd (v % 16)].toArray⟩ from rfl, bytes_append]
        rfl)
      have HV : Hid (v / 16 = u / 16 ^ (n + 1)) := Lib.hid (by rw [hv, Nat.div_div_eq_div_mul, Nat.pow_succ])
      have hr : v % 16 < 16 := by omega
      have hq : v / 16 < 4294967296 := by omega
      have e1 : (v : Int) % 16 = ((v % 16 : Nat) : Int) := rfl
      have e2 : (v : Int) / 16 = ((v / 16 : Nat) : Int) := rfl
      have hg : ∀ h2 : v % 16 < d16.size, ((d16[v % 16]'h2).toNat : Int) = ((M.hexd (v % 16)).toNat : Int) := fun h2 => d16_get _ hr h2
      clear hv
      have hl2 : (M.hexN n u).length ≤ 8 := by omega
      clear hl
      generalize M.hexN n u = t at *
      generalize v % 16 = r at *
      generalize v / 16 = q at *
      have hs := str1b (M.hexd r) wr
      unfold d16 at hg
      go_wp2
      exact ⟨⟨n + 1, q, by omega, HV.out, hq, by go_num, rfl, by rw [HE.out], hdn.alloc _⟩, by simp [intOf]; omega⟩
    · have hn8 : n = 8 := by omega
      subst hn8
      have b1 : (⟨#[119, 111, 114, 100, 32]⟩ : ByteArray) ++ ⟨(M.hexN 8 u).toArray⟩ = ⟨(wordM ++ M.hexN 8 u).toArray⟩ := bytes_append wordM (M.hexN 8 u)
      have hl3 : (wordM ++ M.hexN 8 u).length ≤ 13 := by rw [List.length_append, hl]; decide
      obtain ⟨t, ht⟩ : ∃ t, t = wordM ++ M.hexN 8 u := ⟨_, rfl⟩
      rw [← ht] at b1 hl3
      have b2 := bytes_append t [10]
      have HT := Lib.hid ht
      clear hv ht
      go_wp2
      go_ret
      have HF : t ++ [10] = [119, 111, 114, 100, 32] ++ M.hexN 8 u ++ [10] := by rw [HT.out]; rfl
      exact ⟨congrArg (fun l : List UInt8 => Ending.returned (.string ⟨l.toArray⟩)) HF, k1.trans hdn⟩

theorem refLine (x : Int) (W : World) (h0 : 0 ≤ x) (h1 : x < 4294967296) :
    Calls Tryz.prog 36 #[.int .u32 x] W fun e W' => e = .returned (.string ⟨(M.lineT x ++ [10]).toArray⟩) ∧ Dn W W' := by
  cases hd : M.dok x
  · exact refLine_no x W h0 h1 hd
  · exact refLine_yes x W h0 h1 hd

def PutRelR (W : World) (xs : List Int) (s i : Value) (w : World) : Prop :=
  ∃ k : Nat, k ≤ xs.length ∧ i = .int .i64 k ∧ s = .string ⟨(M.disT (xs.take k)).toArray⟩ ∧ Dn W w

set_option maxRecDepth 100000 in
set_option maxHeartbeats 1000000 in
theorem refPut (A : Option Addr) (c : Nat) (xs : List Int) (W : World) (hx : Words W A xs) (hn : xs.length ≤ 1000) :
    Calls Tryz.prog 16 #[.slice A xs.length c] W fun e W' => e = .returned (.string ⟨(M.disT xs).toArray⟩) ∧ Dn W W' := by
  go_enter Tryz.func16, Tryz.ntmps16
  go_wp2_with fail
  go_loopw [3, 4] (fun s i w => PutRelR W xs s i w) (fun _ i _ => xs.length - (intOf i).toNat)
  case atStart => exact ⟨0, Nat.zero_le _, rfl, rfl, Dn.refl _⟩
  case round =>
    obtain ⟨k, hk, rfl, rfl, hdk⟩ := hrel
    have hlen := disT_len (xs.take k) (fun x hx' => hx.1 x (List.mem_of_mem_take hx'))
    rw [List.length_take] at hlen
    by_cases hlt : k < xs.length
    · obtain ⟨ad, rfl, hab, hcs⟩ := hx.2 (by intro e; rw [e] at hlt; exact absurd hlt (by simp))
      have hck := hdk.keep (hcs k xs[k] (List.getElem?_eq_getElem hlt))
      obtain ⟨x0, x1⟩ := hx.1 xs[k] (List.getElem_mem hlt)
      have hll := lineT_len xs[k] x0 x1
      have HS : Hid ((⟨(M.disT (xs.take k)).toArray⟩ : ByteArray) ++ ⟨(M.lineT xs[k] ++ [10]).toArray⟩ = ⟨(M.disT (xs.take (k + 1))).toArray⟩) := Lib.hid (by
        rw [List.take_succ_eq_append_getElem hlt, disT_snoc, bytes_append])
      have hlt2 : (k : Int) < xs.length := by omega
      have hl1 : (M.disT (xs.take k)).length ≤ 93000 := by omega
      have hl2 : (M.lineT xs[k] ++ [10]).length ≤ 93 := by simp; omega
      generalize M.disT (xs.take k) = t at *
      generalize xs[k] = x at *
      have HC := Lib.hid (fun W => refLine x W x0 x1)
      generalize M.lineT x ++ [10] = l at *
      clear hcs hlen hll
      go_wp2_with fail
      refine (HC.out _).mono ?_
      rintro e w1 ⟨rfl, dn1⟩
      go_wp2
      exact ⟨⟨k + 1, by omega, by go_num, by rw [HS.out], hdk.trans dn1⟩, by simp [intOf]; omega⟩
    · have ek : xs.take k = xs := List.take_of_length_le (by omega)
      rw [ek]
      go_wp2
      go_ret
      exact ⟨rfl, hdk⟩

end Go.Proofs.YtokhipjpppfkgaaGreatDoor
