/-
  What Store, WriteAt and ReadAt of package mem return when called: contracts over the translated program. Conditions: the memories lie in memory and have at most 100000 bytes, cells have 1 to 4 bytes.
-/
import Derived.Test.YtchekfipdhoejaaMemCalls
namespace Go.Proofs.Ytchekfipdhoejaa
open Go.ChangeShapes Go.WideShapes Go.ChangeAt Go.RowKit Go.Sort
open Go.Proofs.Ytchekfipdhoejaa.M (By)
set_option linter.unusedVariables false

def StoreRel (W : World) (g : Nat) (xs : List Int) (a n : Nat) (v : Int) (i : Value) (w : World) : Prop :=
  ∃ k : Nat, k ≤ n ∧ i = .int .i64 k ∧ Row w g 5 .u8 (M.wr xs a (M.bytes v k)) ∧ Dn W w

set_option maxRecDepth 100000 in
set_option maxHeartbeats 1000000 in
theorem store_yes (A : Option Addr) (c : Nat) (xs : List Int) (a n : Nat) (v : Int) (W : World) (hx : Bs W A c xs) (hl : xs.length ≤ 100000) (hn : 1 ≤ n) (hn4 : n ≤ 4) (h : a + n ≤ xs.length) (hv0 : 0 ≤ v) (hv : v < 4294967296) :
    Calls Try.prog 30 #[.slice A xs.length c, .int .u32 (a : Int), .int .i64 (n : Int), .int .u32 v] W fun e W' => ∃ A' c', e = .returned (.tuple #[.slice A' xs.length c', .bool true]) ∧ Bs W' A' c' (M.wr xs a (M.bytes v n)) ∧ Dn W W' := by
  have C := inRange xs.length a n W (by omega) (by omega) hn hn4
  rw [decide_eq_true h] at C
  have hla : a ≤ xs.length := by omega
  have hle : xs.length ≤ xs.length := Nat.le_refl _
  have C2 := clone A c xs W hx hl
  have HY := Lib.hid hx.2.1
  have HLE := Lib.hid hle
  clear hx hle
  obtain ⟨g, hg⟩ : ∃ g, g = W.heap.size := ⟨_, rfl⟩
  rw [← hg] at C2
  have HG := Lib.hid hg
  clear hg
  go_enter Try.func30, Try.ntmps30
  go_wp2_with (first
    | (go_at_call 39; refine C.mono ?_; rintro e w1 ⟨rfl, rfl⟩)
    | (go_at_call 41; refine C2.mono ?_; rintro e w2 ⟨rfl, r2, d2⟩)
    | ((with_reducible refine wpList_from (A := some ⟨g, 0, none⟩) (len := xs.length) (c := xs.length) (l := a) (k := .u32) hla (Nat.le_refl _) ?_ ?_ ?_ ?_); rfl; rfl; rfl; intro A' hA'))
  have hA2 := hA' (by omega)
  rw [Option.map_some, add0] at hA2
  subst hA2
  clear hA' C C2
  go_loopw [26] (fun i w => StoreRel W g xs a n v i w) (fun i _ => n - (intOf i).toNat)
  case atStart => exact ⟨0, Nat.zero_le _, rfl, by rw [M.bytes, M.wr_nil]; exact r2, d2⟩
  case round =>
    obtain ⟨k, hk, rfl, hr, hd⟩ := hrel
    clear r2 d2
    have hbl := M.bytes_len v k
    have hwl : (M.wr xs a (M.bytes v k)).length = xs.length := M.wr_len (by omega)
    by_cases hlt : k < n
    · have hlt1 : (k : Int) < n := by omega
      have hck := hr.cell (a + k) (by omega)
      have hfr := hr.fr (a + k)
      have HR := Lib.hid (hr.put (a + k) (v / 2 ^ (8 * k) % 256))
      have HD := Lib.hid (hd.setCell (p := ⟨g, a + k, none⟩) (by rw [HG.out]; exact Nat.le_refl _) (.int .u8 (v / 2 ^ (8 * k) % 256)))
      have HE : Hid ((M.wr xs a (M.bytes v k)).set (a + k) (v / 2 ^ (8 * k) % 256) = M.wr xs a (M.bytes v (k + 1))) := Lib.hid (by
        have := M.wr_step (xs := xs) (bs := M.bytes v k) (a := a) (v / 2 ^ (8 * k) % 256) (by omega)
        rw [hbl] at this
        rw [this, M.bytes, M.pow256])
      clear hr hwl hbl
      generalize (M.wr xs a (M.bytes v k)).getD (a + k) 0 = old at *
      go_wp2
      exact ⟨⟨k + 1, by omega, by go_num, by rw [← HE.out]; exact HR.out, HD.out⟩, by simp [intOf]; omega⟩
    · have : k = n := by omega
      subst this
      have HB := Lib.hid (Bs.of_row hr (HY.out.wr (M.bytes_by v k)))
      rw [hwl] at HB
      clear hr hbl hwl
      go_wp2
      go_ret2
      exact ⟨_, _, rfl, HB.out, hd⟩

set_option maxRecDepth 100000 in
theorem store_no (A : Option Addr) (c : Nat) (xs : List Int) (a n : Nat) (v : Int) (W : World) (hl : xs.length ≤ 100000) (ha : a < 4294967296) (hn : 1 ≤ n) (hn4 : n ≤ 4) (h : ¬ a + n ≤ xs.length) :
    Calls Try.prog 30 #[.slice A xs.length c, .int .u32 (a : Int), .int .i64 (n : Int), .int .u32 v] W fun e W' => e = .returned (.tuple #[.slice A xs.length c, .bool false]) ∧ W = W' := by
  have C := inRange xs.length a n W (by omega) (by omega) hn hn4
  rw [decide_eq_false h] at C
  go_enter Try.func30, Try.ntmps30
  go_wp2_with (go_at_call 39; refine C.mono ?_; rintro e w1 ⟨rfl, rfl⟩)
  go_ret2
  exact ⟨rfl, rfl⟩

/-- the memory behind a store; itself out of range -/
def M.st (xs : List Int) (a n : Nat) (v : Int) : List Int := if a + n ≤ xs.length then M.wr xs a (M.bytes v n) else xs
theorem store (A : Option Addr) (c : Nat) (xs : List Int) (a n : Nat) (v : Int) (W : World) (hx : Bs W A c xs) (hl : xs.length ≤ 100000) (ha : a < 4294967296) (hn : 1 ≤ n) (hn4 : n ≤ 4) (hv0 : 0 ≤ v) (hv : v < 4294967296) :
    Calls Try.prog 30 #[.slice A xs.length c, .int .u32 (a : Int), .int .i64 (n : Int), .int .u32 v] W fun e W' => ∃ A' c', e = .returned (.tuple #[.slice A' xs.length c', .bool (decide (a + n ≤ xs.length))]) ∧ Bs W' A' c' (M.st xs a n v) ∧ Dn W W' := by
  unfold M.st
  by_cases h : a + n ≤ xs.length
  · rw [if_pos h, decide_eq_true h]
    exact store_yes A c xs a n v W hx hl hn hn4 h hv0 hv
  · rw [if_neg h, decide_eq_false h]
    refine (store_no A c xs a n v W hl ha hn hn4 h).mono ?_
    rintro e w ⟨rfl, rfl⟩
    exact ⟨A, c, rfl, hx, Dn.refl _⟩
theorem M.st_len (xs : List Int) (a n : Nat) (v : Int) : (M.st xs a n v).length = xs.length := by
  unfold M.st
  by_cases h : a + n ≤ xs.length
  · rw [if_pos h, M.wr_len (by rw [M.bytes_len]; exact h)]
  · rw [if_neg h]

theorem fits_nat (s a n : Nat) (W : World) (hs : s ≤ 9223372036854775807) (ha : a < 4294967296) :
    Calls Try.prog 45 #[.int .i64 (s : Int), .int .i64 (a : Int), .int .i64 (n : Int)] W fun e W' => e = .returned (.bool (decide (a + n ≤ s))) ∧ W = W' := by
  have e : decide ((a : Int) + n ≤ s ∧ (a : Int) ≤ s) = decide (a + n ≤ s) := decide_eq_decide.2 ⟨fun h => by omega, fun h => by omega⟩
  have C := fits s a n W (by omega) (by omega) (by omega) (by omega)
  rw [e] at C
  exact C

/-- the memory behind a write; itself where it does not fit -/
def M.wa (xs : List Int) (a : Nat) (bs : List Int) : List Int := if a + bs.length ≤ xs.length then M.wr xs a bs else xs
theorem M.wa_len (xs : List Int) (a : Nat) (bs : List Int) : (M.wa xs a bs).length = xs.length := by
  unfold M.wa
  by_cases h : a + bs.length ≤ xs.length
  · rw [if_pos h, M.wr_len h]
  · rw [if_neg h]

/-- the bytes read; none where they are not all there -/
def M.ra (xs : List Int) (a n : Nat) : List Int := if a + n ≤ xs.length then M.rd xs a n else []
end Go.Proofs.Ytchekfipdhoejaa
