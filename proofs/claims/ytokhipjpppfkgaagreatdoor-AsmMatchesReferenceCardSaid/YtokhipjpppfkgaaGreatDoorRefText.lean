/-
  What name, dec, reg and Text of package gaolerref03 return when called: contracts over the translated program. Conditions: those that stand in each theorem.
-/
import Derived.Test.YtokhipjpppfkgaaGreatDoorAsmAwake
import Derived.IntWalk
namespace Go.Proofs.YtokhipjpppfkgaaGreatDoor
open Go.ChangeShapes Go.WideShapes Go.ChangeAt Go.RowKit Go.Sort
set_option linter.unusedVariables false

def mnArr : Array Value := (M.mnems.map fun t => Value.string ⟨t.toArray⟩).toArray
theorem mn_cell (W : World) (op : Int) (h0 : 0 ≤ op) (h1 : op ≤ 25) : (W.alloc (.cells mnArr 9)).cell? ⟨W.heap.size, op.toNat, none⟩ = some (.string ⟨(M.mnem op).toArray⟩) := by
  rw [World.cell?_alloc_new]
  have hl : op.toNat < M.mnems.length := by show op.toNat < 26; omega
  unfold mnArr M.mnem
  simp [hl, List.getD]

set_option maxRecDepth 100000 in
set_option maxHeartbeats 1000000 in
theorem refName (op : Int) (W : World) (h0 : 0 ≤ op) (h1 : op ≤ 25) :
    Calls Tryz.prog 23 #[.int .i64 op] W fun e W' => e = .returned (.string ⟨(M.mnem op).toArray⟩) ∧ Dn W W' := by
  have hc := mn_cell W op h0 h1
  have h2 : op < 26 := by omega
  go_enter Tryz.func23, Tryz.ntmps23
  go_wp2
  go_ret
  refine ⟨?_, (Dn.refl _).alloc _⟩
  have : op = 0 ∨ op = 1 ∨ op = 2 ∨ op = 3 ∨ op = 4 ∨ op = 5 ∨ op = 6 ∨ op = 7 ∨ op = 8 ∨ op = 9 ∨ op = 10 ∨ op = 11 ∨ op = 12 ∨ op = 13 ∨ op = 14 ∨ op = 15 ∨ op = 16 ∨ op = 17 ∨ op = 18 ∨ op = 19 ∨ op = 20 ∨ op = 21 ∨ op = 22 ∨ op = 23 ∨ op = 24 ∨ op = 25 := by omega
  rcases this with rfl | rfl | rfl | rfl | rfl | rfl | rfl | rfl | rfl | rfl | rfl | rfl | rfl | rfl | rfl | rfl | rfl | rfl | rfl | rfl | rfl | rfl | rfl | rfl | rfl | rfl <;> rfl

theorem str1 (z : Int) (h0 : 0 ≤ z) (h1 : z < 256) (g : Nat) (w : World) (hc : w.cell? ⟨g, 0, none⟩ = some (.int .u8 z)) :
    (convert 64 9 (.slice (some ⟨g, 0, none⟩) 1 1)).run Tryz.prog w = .ok (.string ⟨#[UInt8.ofNat z.toNat]⟩) w :=
  run_convert_bytes_back (P := Tryz.prog) w 64 9 5 ⟨g, 0, none⟩ 1 [UInt8.ofNat z.toNat] Tryz.underlying64 Tryz.underlying5 Tryz.underlying9 (fun j hj => by
    obtain rfl : j = 0 := by simpa using hj
    rw [add0, hc]
    have : (UInt8.ofNat z.toNat).toNat = z.toNat := by rw [UInt8.toNat_ofNat']; omega
    rw [show ([UInt8.ofNat z.toNat])[0] = UInt8.ofNat z.toNat from rfl, this, Int.toNat_of_nonneg h0])

theorem dec_small {n : Nat} (h : n < 10) : Lib.decDigits n = [UInt8.ofNat (48 + n)] := dec1 h
theorem dec_big {n : Nat} (h : ¬ n < 10) : Lib.decDigits n = Lib.decDigits (n / 10) ++ [UInt8.ofNat (48 + n % 10)] := by
  rw [Lib.decDigits]
  simp [h]

set_option maxRecDepth 100000 in
set_option maxHeartbeats 1000000 in
theorem refDecS (n : Nat) (W : World) (h : n < 10) :
    Calls Tryz.prog 24 #[.int .i64 n] W fun e W' => e = .returned (.string ⟨(Lib.decDigits n).toArray⟩) ∧ Dn W W' := by
  have h1 : (n : Int) < 10 := by omega
  have hs := str1 (48 + (n : Int)) (by omega) (by omega) W.heap.size (W.alloc (Obj.cells #[Value.int IntKind.u8 (48 + (n : Int))] 5)) (new_cell0 _ _ _)
  have HE : Hid ((⟨#[UInt8.ofNat (48 + (n : Int)).toNat]⟩ : ByteArray) = ⟨(Lib.decDigits n).toArray⟩) := Lib.hid (by rw [dec_small h, show (48 + (n : Int)).toNat = 48 + n by omega])
  go_enter Tryz.func24, Tryz.ntmps24
  go_wp2
  go_ret
  exact ⟨by rw [← HE.out]; rfl, (Dn.refl _).alloc _⟩

set_option maxRecDepth 100000 in
set_option maxHeartbeats 600000 in
theorem refDecN : ∀ (m n : Nat) (W : World), n ≤ m → n ≤ 1000000 →
    Calls Tryz.prog 24 #[.int .i64 n] W fun e W' => e = .returned (.string ⟨(Lib.decDigits n).toArray⟩) ∧ Dn W W' := by
  intro m
  induction m with
  | zero =>
    intro n W hm hn
    exact refDecS n W (by omega)
  | succ m ih =>
    intro n W hm hn
    by_cases h : n < 10
    · exact refDecS n W h
    · have h1 : ¬ (n : Int) < 10 := by omega
      have IH : Hid (∀ W, Calls Tryz.prog 24 #[.int .i64 ((n / 10 : Nat) : Int)] W fun e W' => e = .returned (.string ⟨(Lib.decDigits (n / 10)).toArray⟩) ∧ Dn W W') := Lib.hid (fun W => ih (n / 10) W (by omega) (by omega))
      clear ih hm
      have hl : (Lib.decDigits (n / 10)).length ≤ 30 := by
        have := M.itoa_len ((n / 10 : Nat) : Int) (by omega) (by omega)
        rw [M.itoa_nat] at this; omega
      have HE : Hid (((⟨(Lib.decDigits (n / 10)).toArray⟩ : ByteArray) ++ ⟨#[UInt8.ofNat (48 + ((n % 10 : Nat) : Int)).toNat]⟩) = ⟨(Lib.decDigits n).toArray⟩) := Lib.hid (by
        rw [dec_big h, show (48 + ((n % 10 : Nat) : Int)).toNat = 48 + n % 10 by omega, ← bytes_append])
      have e1 : (n : Int).tdiv 10 = ((n / 10 : Nat) : Int) := rfl
      have e2 : (n : Int).tmod 10 = ((n % 10 : Nat) : Int) := rfl
      have e1' : (n : Int) / 10 = ((n / 10 : Nat) : Int) := rfl
      have e2' : (n : Int) % 10 = ((n % 10 : Nat) : Int) := rfl
      have hq : n / 10 ≤ 1000000 := by omega
      have hr : n % 10 < 10 := by omega
      generalize n / 10 = q at *
      generalize n % 10 = r at *
      have e3 : IntKind.i64.wrap (48 + (r : Int)) = 48 + r := IntWalk.i64_in _ (by omega)
      have e4 : IntKind.u8.wrap (48 + (r : Int)) = 48 + r := by rw [IntKind.wrap_u8]; omega
      have e5 : IntKind.i64.wrap (q : Int) = q := IntWalk.i64_in _ (by omega)
      have e6 : IntKind.i64.wrap (r : Int) = r := IntWalk.i64_in _ (by omega)
      have hs := fun g w hc => str1 (48 + (r : Int)) (by omega) (by omega) g w hc
      have HE2 : Hid (((⟨(Lib.decDigits q).toArray⟩ : ByteArray) ++ ⟨#[48 + UInt8.ofNat r]⟩) = ⟨(Lib.decDigits n).toArray⟩) := Lib.hid (by
        rw [← HE.out, show (48 + (r : Int)).toNat = 48 + r by omega, UInt8.ofNat_add]
        rfl)
      go_enter Tryz.func24, Tryz.ntmps24
      go_wp2_with fail
      go_region_held (fun w' => True)
        (trivial)
        (first
          | (go_at_call 24; refine (IH.out _).mono ?_; rintro e w2 ⟨rfl, dn2⟩; have old2 := dn2.keep (new_cell0 _ _ _))
          | (go_at_call 24; refine (IH.out _).mono ?_; rintro e w2 ⟨rfl, dn2⟩))
      all_goals
        go_wp2
        go_ret
        refine ⟨by rw [← HE2.out]; rfl, ?_⟩
        first
          | exact dn2
          | exact dn2.alloc _
          | exact ((Dn.refl W).drew.trans dn2).alloc _
          | exact ((Dn.refl W).drew.trans dn2)
          | exact (((Dn.refl W).drew.alloc _).trans dn2)
          | exact (((Dn.refl W).alloc _).drew.trans dn2)
          | exact (((Dn.refl W).alloc _).trans dn2)

end Go.Proofs.YtokhipjpppfkgaaGreatDoor
