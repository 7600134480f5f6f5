/-
  What FormatUint of package strconv returns at base 16 and a word of 32 bits: contracts over the translated program. Conditions: those that stand in each theorem.
-/
import Derived.Test.YtokhipjpppfkgaaGreatDoorAsmEnv
import Derived.Laws.IdiomStrings
import Derived.Laws.BitsAllLaws
import Derived.Lib.Repeat
namespace Go.Proofs.YtokhipjpppfkgaaGreatDoor
open Go.ChangeShapes Go.WideShapes Go.ChangeAt Go.RowKit Go.Sort
set_option linter.unusedVariables false

/-- hexadecimal digits -/
def M.hexd (d : Nat) : UInt8 := UInt8.ofNat (if d < 10 then 48 + d else 87 + d)
def M.hexDigits (u : Nat) : List UInt8 := if h : u < 16 then [M.hexd u] else M.hexDigits (u / 16) ++ [M.hexd (u % 16)]
termination_by u
decreasing_by omega

theorem M.hex_small {u : Nat} (h : u < 16) : M.hexDigits u = [M.hexd u] := by rw [M.hexDigits, dif_pos h]
theorem M.hex_big {u : Nat} (h : ¬ u < 16) : M.hexDigits u = M.hexDigits (u / 16) ++ [M.hexd (u % 16)] := by rw [M.hexDigits, dif_neg h]
theorem M.hex_pos (u : Nat) : 1 ≤ (M.hexDigits u).length := by
  by_cases h : u < 16
  · rw [M.hex_small h]; simp
  · rw [M.hex_big h]; simp
theorem M.hex_two {u : Nat} (h : ¬ u < 16) : 2 ≤ (M.hexDigits u).length := by
  rw [M.hex_big h]
  have := M.hex_pos (u / 16)
  simp; omega
theorem M.hex_le : ∀ (n u : Nat), u < 16 ^ (n + 1) → (M.hexDigits u).length ≤ n + 1
  | 0, u, h => by rw [M.hex_small (by simpa using h)]; simp
  | n + 1, u, h => by
    by_cases h16 : u < 16
    · rw [M.hex_small h16]; simp
    · have := M.hex_le n (u / 16) (by rw [Nat.pow_succ] at h; omega)
      rw [M.hex_big h16]; simp; omega

set_option maxHeartbeats 400000 in
theorem isPow2 (W : World) : Calls Tryz.prog 121 #[.int .i64 16] W fun e W' => e = .returned (.bool true) ∧ W = W' := by
  go_enter Tryz.func121, Tryz.ntmps121
  go_wp2
  go_ret
  exact ⟨rfl, rfl⟩

theorem tz_ix : IntKind.u64.wrap (bits BinOp.and IntKind.u64 16 (IntKind.u64.wrap (-16)) * 285870213051353865) / 288230376151711744 = 15 := by decide +kernel

set_option maxHeartbeats 400000 in
theorem tz64 (W : World) (h : W.cell? ⟨10, 15, none⟩ = some (.int .u8 4)) : Calls Tryz.prog 129 #[.int .u64 16] W fun e W' => e = .returned (.int .i64 4) ∧ W = W' := by
  have hd := tz_ix
  go_enter Tryz.func129, Tryz.ntmps129
  go_wp2
  go_ret
  exact ⟨rfl, rfl⟩

set_option maxHeartbeats 400000 in
theorem tz (W : World) (h : W.cell? ⟨10, 15, none⟩ = some (.int .u8 4)) : Calls Tryz.prog 122 #[.int .u64 16] W fun e W' => e = .returned (.int .i64 4) ∧ W = W' := by
  go_enter Tryz.func122, Tryz.ntmps122
  go_wp2_with (go_at_call 129; refine (tz64 _ h).mono ?_; rintro e w' ⟨rfl, rfl⟩)
  go_ret
  exact ⟨rfl, rfl⟩

/-- the digits that are laid in the row of 65 bytes -/
def HexRow (w : World) (g k : Nat) (done : List UInt8) : Prop :=
  ∃ cs : Array Value, w.heap[g]? = some (.cells cs 142 (0, 0)) ∧ cs.size = 65 ∧ ∀ (j : Nat) b, done[j]? = some b → cs[k + j]? = some (.int .u8 (b.toNat : Int))

theorem HexRow.cell {w : World} {g k : Nat} {done : List UInt8} (h : HexRow w g k done) {j : Nat} (hj : j < 65) : ∃ x, w.cell? ⟨g, j, none⟩ = some x := by
  obtain ⟨cs, hg, hs, _⟩ := h
  exact ⟨cs[j], by rw [cell_of_row w g j cs _ _ hg]; exact Array.getElem?_eq_getElem (by omega)⟩
theorem HexRow.frozen {w : World} {g k : Nat} {done : List UInt8} (h : HexRow w g k done) (j : Nat) : w.frozen? ⟨g, j, none⟩ = false := by
  obtain ⟨cs, hg, hs, _⟩ := h
  simp [World.frozen?, hg]
theorem HexRow.set {w : World} {g m : Nat} {done : List UInt8} (h : HexRow w g (m + 1) done) (hm : m < 65) (b : UInt8) {x : Value} (hx : x = .int .u8 (b.toNat : Int)) : HexRow (w.setCell ⟨g, m, none⟩ x) g m (b :: done) := by
  obtain ⟨cs, hg, hs, hc⟩ := h
  subst hx
  refine ⟨cs.setIfInBounds m (.int .u8 (b.toNat : Int)), by simp [World.setCell, Array.getElem?_modify, hg], by simp [hs], fun j c hj => ?_⟩
  cases j with
  | zero =>
    simp at hj
    subst hj
    simp [hs, hm]
  | succ j =>
    have h1 := hc j c (by simpa using hj)
    rw [Array.getElem?_setIfInBounds_ne (by omega)]
    rw [show m + (j + 1) = m + 1 + j by omega]
    exact h1

/-- the digits of the library's text -/
def digs : ByteArray := ⟨#[48, 49, 50, 51, 52, 53, 54, 55, 56, 57, 97, 98, 99, 100, 101, 102, 103, 104, 105, 106, 107, 108, 109, 110, 111, 112, 113, 114, 115, 116, 117, 118, 119, 120, 121, 122]⟩
theorem digs_at : ∀ v : Nat, v < 16 → digs.data[v]? = some (M.hexd v) := by decide
theorem digit_at (v : Nat) (h : v < 16) (h2 : v < digs.size) : Value.int .u8 ((digs[v]'h2).toNat : Int) = .int .u8 ((M.hexd v).toNat : Int) := by
  have h1 := digs_at v h
  have h3 : digs.data[v]? = some (digs[v]'h2) := Array.getElem?_eq_getElem h2
  rw [h3] at h1
  injection h1 with h1
  rw [h1]

theorem and15 (v : Nat) (hv : v < 4294967296) : bits .and .u64 (v : Int) 15 = ((v % 16 : Nat) : Int) := by
  rw [show (15 : Int) = ((15 : Nat) : Int) from rfl, u64_and_nat v 15 (by omega) (by omega)]
  congr 1
  exact Nat.and_two_pow_sub_one_eq_mod v 4

theorem len65 : Tryz.prog.arrayLen 142 = 65 := by kernel_rfl
theorem elem65 : Tryz.prog.elem 142 = 5 := by kernel_rfl

theorem slice65 (g m : Nat) (hm : m < 65) (W : World) : (Instr.sliceAt 142 (.pointer (some ⟨g, 0, none⟩)) (some (.int .i64 m)) none none).run Tryz.prog W = .ok (.slice (some ⟨g, m, none⟩) (65 - m) (65 - m)) W := by
  rw [run_sliceAt_array_l W 142 ⟨g, 0, none⟩ (by rw [len65, elem65]; exact Tryz.underlying142) .i64 m (by omega) (by rw [len65]; omega)]
  rw [len65, elem65]
  go_simp
  omega

theorem HexRow.str {w : World} {g m : Nat} {done l : List UInt8} (h : HexRow w g (m + 1) done) (hm : m < 65) (hl : m + 1 + done.length = 65) {b : UInt8} (he : b :: done = l) {x : Value} (hx : x = .int .u8 (b.toNat : Int)) :
    (convert 64 9 (.slice (some ⟨g, m, none⟩) (65 - m) (65 - m))).run Tryz.prog (w.setCell ⟨g, m, none⟩ x) = .ok (.string ⟨l.toArray⟩) (w.setCell ⟨g, m, none⟩ x) := by
  have h2 := h.set hm b hx
  subst he
  have h3 := run_convert_bytes_back (P := Tryz.prog) (w.setCell ⟨g, m, none⟩ x) 64 9 5 ⟨g, m, none⟩ (65 - m) (b :: done) Tryz.underlying64 Tryz.underlying5 Tryz.underlying9 (fun j hj => by
    obtain ⟨cs, hg, hs, hc⟩ := h2
    rw [Lib.add_plain, cell_of_row _ g _ cs _ _ hg]
    exact hc j _ (List.getElem?_eq_getElem hj))
  rw [show (b :: done).length = 65 - m by simp; omega] at h3
  exact h3

def HexRel (W : World) (g u : Nat) (x y : Value) (w : World) : Prop :=
  ∃ (v k : Nat) (done : List UInt8), x = .int .u64 v ∧ y = .int .i64 k ∧ v < 4294967296 ∧ k + done.length = 65 ∧ Hid (M.hexDigits v ++ done = M.hexDigits u) ∧ HexRow w g k done ∧ Dn W w

theorem zero65 : Tryz.zeroCells142.size = 65 := by kernel_rfl

theorem HexRow.start (W : World) : HexRow (W.alloc (Obj.cells Tryz.zeroCells142 142)) W.heap.size 65 [] :=
  ⟨_, heap_alloc_new W _, zero65, fun j b h => by simp at h⟩

set_option maxRecDepth 100000 in
set_option maxHeartbeats 1000000 in
theorem formatBits (u : Nat) (W : World) (E : Env W) (hu : u < 4294967296) :
    Calls Tryz.prog 101 #[.slice none 0 0, .int .u64 u, .int .i64 16, .bool false, .bool false] W fun e W' => e = .returned (.tuple #[.slice none 0 0, .string ⟨(M.hexDigits u).toArray⟩]) ∧ Dn W W' := by
  have htz := E.tz
  have hlt := E.sz
  go_enter Tryz.func101, Tryz.ntmps101
  go_wp2_with (first
    | (go_at_call 121; refine (isPow2 _).mono ?_; rintro e w' ⟨rfl, rfl⟩)
    | (go_at_call 122; refine (tz _ (Dn.keep ((Dn.refl _).alloc _) htz)).mono ?_; rintro e w' ⟨rfl, rfl⟩))
  have hr0 := HexRow.start W
  have hd0 : Dn W (W.alloc (Obj.cells Tryz.zeroCells142 142)) := (Dn.refl W).alloc _
  generalize W.alloc (Obj.cells Tryz.zeroCells142 142) = w0 at *
  generalize hg : W.heap.size = g at *
  have HG := Lib.hid hg
  clear hg
  go_loopw [1, 13] (fun x y w => HexRel W g u x y w) (fun x _ _ => (intOf x).toNat)
  case atStart => exact ⟨u, 65, [], rfl, rfl, hu, by simp, Lib.hid (by simp), hr0, hd0⟩
  case round =>
    obtain ⟨v, k, done, rfl, rfl, hv, hk, HE, hr, hdn⟩ := hrel
    have hlen : (M.hexDigits v).length + done.length ≤ 8 := by
      have h1 := congrArg List.length HE.out
      have h2 := M.hex_le 7 u (by omega)
      rw [List.length_append] at h1
      omega
    have hpos := M.hex_pos v
    obtain ⟨m, rfl⟩ : ∃ m, k = m + 1 := ⟨k - 1, by omega⟩
    obtain ⟨x0, hx0⟩ := hr.cell (j := m) (by omega)
    have hf0 := hr.frozen m
    have hm1 : m < 65 := by omega
    have hm2 : (m : Int) < 65 := by omega
    clear hlen
    by_cases h16 : v < 16
    · have hsl := slice65 g m hm1
      have HE2 : Hid (M.hexd v :: done = M.hexDigits u) := Lib.hid (by have := HE.out; rw [M.hex_small h16] at this; exact this)
      have hcv := HexRow.str hr hm1 (by omega) HE2.out (digit_at v h16 (by show v < 36; omega))
      unfold digs at hcv
      go_wp2
      go_ret2
      exact ⟨rfl, hdn.setCell (by rw [HG.out]; exact Nat.le_refl _) _⟩
    · have hand := and15 v hv
      have h3 : v % 16 < 36 := by omega
      have HE2 : Hid (M.hexDigits (v / 16) ++ M.hexd (v % 16) :: done = M.hexDigits u) := Lib.hid (by have := HE.out; rw [M.hex_big h16, List.append_assoc] at this; exact this)
      go_wp2
      exact ⟨⟨v / 16, m, M.hexd (v % 16) :: done, by go_num, rfl, by omega, by simp; omega, HE2, hr.set hm1 _ (digit_at (v % 16) (by omega) (by show v % 16 < 36; omega)), hdn.setCell (by rw [HG.out]; exact Nat.le_refl _) _⟩, by simp [intOf]; omega⟩

set_option maxHeartbeats 400000 in
theorem formatUintI (u : Nat) (W : World) (E : Env W) (hu : u < 4294967296) :
    Calls Tryz.prog 94 #[.int .u64 u, .int .i64 16] W fun e W' => e = .returned (.string ⟨(M.hexDigits u).toArray⟩) ∧ Dn W W' := by
  go_enter Tryz.func94, Tryz.ntmps94
  go_wp2_with (go_at_call 101; refine (formatBits u _ E hu).mono ?_; rintro e w1 ⟨rfl, dn⟩)
  go_ret
  exact ⟨rfl, dn⟩

set_option maxHeartbeats 400000 in
theorem formatUint (u : Nat) (W : World) (E : Env W) (hu : u < 4294967296) :
    Calls Tryz.prog 76 #[.int .u64 u, .int .i64 16] W fun e W' => e = .returned (.string ⟨(M.hexDigits u).toArray⟩) ∧ Dn W W' := by
  go_enter Tryz.func76, Tryz.ntmps76
  go_wp2_with (go_at_call 94; refine (formatUintI u _ E hu).mono ?_; rintro e w1 ⟨rfl, dn⟩)
  go_ret
  exact ⟨rfl, dn⟩

theorem bytes_append (a b : List UInt8) : (⟨a.toArray⟩ : ByteArray) ++ ⟨b.toArray⟩ = ⟨(a ++ b).toArray⟩ := by
  apply ByteArray.ext
  rw [ByteArray.data_append]
  simp

/-- eight hexadecimal digits -/
def M.hex8 (w : Int) : List UInt8 := Lib.repeatL [48] (8 - (M.hexDigits w.toNat).length) ++ M.hexDigits w.toNat

theorem repeat0 (c : Int) (W : World) (h0 : 0 ≤ c) (hc : c ≤ 100) : Calls Tryz.prog 77 #[.string ⟨#[48]⟩, .int .i64 c] W fun e W' => e = .returned (.string ⟨(Lib.repeatL [48] c.toNat).toArray⟩) ∧ Dn W W' := by
  obtain ⟨n, rfl⟩ := Int.eq_ofNat_of_zero_le h0
  exact Tryz.strings_Repeat ⟨#[48]⟩ n W (by omega) (by show 1 * n ≤ _; omega)

set_option maxHeartbeats 400000 in
theorem hexText (x : Int) (W : World) (E : Env W) (h0 : 0 ≤ x) (h1 : x < 4294967296) :
    Calls Tryz.prog 59 #[.int .u32 x] W fun e W' => e = .returned (.string ⟨(M.hex8 x).toArray⟩) ∧ Dn W W' := by
  obtain ⟨u, rfl⟩ := Int.eq_ofNat_of_zero_le h0
  have hu : u < 4294967296 := by omega
  have hl := M.hex_le 7 u (by omega)
  have e8 : (8 - ((M.hexDigits u).length : Int)).toNat = 8 - (M.hexDigits u).length := by omega
  have HE : Hid (M.hex8 u = Lib.repeatL [48] (8 - ((M.hexDigits u).length : Int)).toNat ++ M.hexDigits u) := Lib.hid (by unfold M.hex8; rw [e8]; simp)
  have hrl : (Lib.repeatL [48] (8 - ((M.hexDigits u).length : Int)).toNat).length ≤ 8 := by rw [Lib.repeatL_length]; simp
  clear e8
  go_enter Tryz.func59, Tryz.ntmps59
  go_wp2_with (go_at_call 76; refine (formatUint u _ E hu).mono ?_; rintro e w1 ⟨rfl, dn⟩)
  refine (repeat0 _ _ (by omega) (by omega)).mono ?_
  rintro e w2 ⟨rfl, dn2⟩
  generalize Lib.repeatL [48] (8 - ((M.hexDigits u).length : Int)).toNat = z at *
  go_wp2
  go_ret
  exact ⟨by rw [HE.out]; exact congrArg (fun b => Ending.returned (.string b)) (bytes_append _ _), dn.trans dn2⟩

end Go.Proofs.YtokhipjpppfkgaaGreatDoor
