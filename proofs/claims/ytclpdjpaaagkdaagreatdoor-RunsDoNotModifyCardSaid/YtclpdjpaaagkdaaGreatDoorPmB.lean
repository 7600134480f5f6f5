/-
  Contracts over the translated program and the plain facts behind them, of the texts: TrapMath, MemCalls, MemLoad, MemStore, FetchMath, RelCalls, TrapCalls, MemRefs, MemRefs2, MemAwake, FetchCalls, FetchDo, RegMath, AluMath, ExMath, ExBase, LwK, RegCalls. Conditions: those that stand in each theorem.
-/
import Derived.Deep.RegionHeld3
import Derived.WalkKit
import Derived.KernelRfl
import Derived.Test.YtclpdjpaaagkdaaGreatDoorPmA
namespace Go.Proofs.YtclpdjpaaagkdaaGreatDoor.M
open Go.RowKit
set_option linter.unusedVariables false

def bt (s p : Int) : Bool := decide (s / p % 2 = 1)
def wt (s p : Int) (b : Bool) : Int := s - s / p % 2 * p + if b = true then p else 0
def ent (s : Int) : Int := s / 16 * 16 + 1 + 4 * (s % 2) + 8 * (s / 2 % 2)
def rtn (s : Int) : Int := s / 16 * 16 + s / 4 % 2 + 2 * (s / 8 % 2) + 4 * (s / 4 % 2) + 8 * (s / 8 % 2)
def pc (c : List Int) : Int := c.getD 16 0
def ien (c : List Int) : Bool := bt (csr c 0) 2
def goTo (c : List Int) (p s : Int) : List Int := (c.set 17 s).set 16 p
def enter (c : List Int) (k v : Int) : List Int := if k = 0 then c else goTo (((c.set 18 (pc c)).set 19 (k % 4294967296)).set 20 v) (csr c 4) (ent (csr c 0))
def leave (c : List Int) : List Int := goTo c (csr c 1) (rtn (csr c 0))

theorem sup_bt (c : List Int) : sup c = bt (csr c 0) 1 := by
 unfold sup bt
 rw [Int.ediv_one]
 generalize csr c 0 = x
 by_cases h : x % 2 = 1 <;> simp [h]

theorem nib_and (n p : Nat) (hp : p < 16) : n &&& p = n % 16 &&& p := by
 have h1 := Nat.and_mod_two_pow (a := n) (b := p) (n := 4)
 have h2 := Nat.and_div_two_pow (a := n) (b := p) (n := 4)
 rw [Nat.mod_eq_of_lt (a := p) (by omega)] at h1
 rw [Nat.div_eq_of_lt (a := p) (by omega), Nat.and_zero] at h2
 rw [show (2 : Nat) ^ 4 = 16 from rfl] at h1 h2
 omega
theorem nib_or (n p : Nat) (hp : p < 16) : n ||| p = n / 16 * 16 + (n % 16 ||| p) := by
 have h1 := Nat.or_mod_two_pow (a := n) (b := p) (n := 4)
 have h2 := Nat.or_div_two_pow (a := n) (b := p) (n := 4)
 rw [Nat.mod_eq_of_lt (a := p) (by omega)] at h1
 rw [Nat.div_eq_of_lt (a := p) (by omega), Nat.or_zero] at h2
 rw [show (2 : Nat) ^ 4 = 16 from rfl] at h1 h2
 omega
theorem nib_not (n p : Nat) (hn : n < 4294967296) (hp : p < 16) : n &&& (4294967295 - p) = n / 16 * 16 + (n % 16 &&& (15 - p)) := by
 have h1 := Nat.and_mod_two_pow (a := n) (b := 4294967295 - p) (n := 4)
 have h2 := Nat.and_div_two_pow (a := n) (b := 4294967295 - p) (n := 4)
 have e1 : (4294967295 - p) % 2 ^ 4 = 15 - p := by omega
 have e2 : (4294967295 - p) / 2 ^ 4 = 2 ^ 28 - 1 := by omega
 rw [e1] at h1
 rw [e2, Nat.and_two_pow_sub_one_eq_mod, Nat.mod_eq_of_lt (by omega)] at h2
 rw [show (2 : Nat) ^ 4 = 16 from rfl] at h1 h2
 omega

def P4 (p : Int) : Prop := p = 1 ∨ p = 2 ∨ p = 4 ∨ p = 8

theorem bt_and (s p : Int) (h0 : 0 ≤ s) (h1 : s < 4294967296) (hp : P4 p) : (bits .and .u32 s p != 0) = bt s p := by
 obtain ⟨n, rfl⟩ := Int.eq_ofNat_of_zero_le h0
 have key : ∀ q : Nat, q < 16 → (∀ r, r < 16 → ((r &&& q = 0) ↔ ¬ r / q % 2 = 1)) → (∀ m : Nat, m % 16 / q % 2 = m / q % 2) → (bits .and .u32 (n : Int) (q : Int) != 0) = bt n q := by
   intro q hq hr hm
   rw [u32_and_nat _ _ (by omega) (by omega), nib_and n q hq]
   have h := hr (n % 16) (by omega)
   rw [hm n] at h
   unfold bt
   have e : (n : Int) / (q : Int) % 2 = ((n / q % 2 : Nat) : Int) := by simp
   rw [e]
   by_cases hb : n / q % 2 = 1
   · have : ¬ (n % 16 &&& q = 0) := fun c => (h.1 c) hb
     rw [hb]
     simp; omega
   · have : n % 16 &&& q = 0 := h.2 hb
     rw [this]
     simp; omega
 rcases hp with rfl | rfl | rfl | rfl
 · exact key 1 (by decide) (by decide) (by omega)
 · exact key 2 (by decide) (by decide) (by omega)
 · exact key 4 (by decide) (by decide) (by omega)
 · exact key 8 (by decide) (by decide) (by omega)

theorem wt_or (s p : Int) (h0 : 0 ≤ s) (h1 : s < 4294967296) (hp : P4 p) : bits .or .u32 s p = wt s p true := by
 obtain ⟨n, rfl⟩ := Int.eq_ofNat_of_zero_le h0
 have key : ∀ q : Nat, q < 16 → (∀ r, r < 16 → r ||| q = r - r / q % 2 * q + q) → bits .or .u32 (n : Int) (q : Int) = ((n / 16 * 16 + (n % 16 - n % 16 / q % 2 * q + q) : Nat) : Int) := by
   intro q hq hr
   rw [u32_or_nat _ _ (by omega) (by omega), nib_or n q hq, hr _ (by omega)]
 unfold wt
 rw [if_pos rfl]
 rcases hp with rfl | rfl | rfl | rfl
 · rw [show (1 : Int) = ((1 : Nat) : Int) from rfl, key 1 (by decide) (by decide)]; omega
 · rw [show (2 : Int) = ((2 : Nat) : Int) from rfl, key 2 (by decide) (by decide)]; omega
 · rw [show (4 : Int) = ((4 : Nat) : Int) from rfl, key 4 (by decide) (by decide)]; omega
 · rw [show (8 : Int) = ((8 : Nat) : Int) from rfl, key 8 (by decide) (by decide)]; omega

theorem wt_not (s p : Int) (h0 : 0 ≤ s) (h1 : s < 4294967296) (hp : P4 p) : bits .andNot .u32 s p = wt s p false := by
 obtain ⟨n, rfl⟩ := Int.eq_ofNat_of_zero_le h0
 have key : ∀ q : Nat, q < 16 → (∀ r, r < 16 → r &&& (15 - q) = r - r / q % 2 * q) → bits .andNot .u32 (n : Int) (q : Int) = ((n / 16 * 16 + (n % 16 - n % 16 / q % 2 * q) : Nat) : Int) := by
   intro q hq hr
   rw [u32_andNot_nat _ _ (by omega) (by omega), nib_not n q (by omega) hq, hr _ (by omega)]
 unfold wt
 rw [if_neg (by decide)]
 rcases hp with rfl | rfl | rfl | rfl
 · rw [show (1 : Int) = ((1 : Nat) : Int) from rfl, key 1 (by decide) (by decide)]; omega
 · rw [show (2 : Int) = ((2 : Nat) : Int) from rfl, key 2 (by decide) (by decide)]; omega
 · rw [show (4 : Int) = ((4 : Nat) : Int) from rfl, key 4 (by decide) (by decide)]; omega
 · rw [show (8 : Int) = ((8 : Nat) : Int) from rfl, key 8 (by decide) (by decide)]; omega

theorem wt_rng (s p : Int) (b : Bool) (h0 : 0 ≤ s) (h1 : s < 4294967296) (hp : P4 p) : 0 ≤ wt s p b ∧ wt s p b < 4294967296 := by
 unfold wt
 rcases hp with rfl | rfl | rfl | rfl <;> cases b <;> simp <;> omega
theorem ent_rng (s : Int) (h0 : 0 ≤ s) (h1 : s < 4294967296) : 0 ≤ ent s ∧ ent s < 4294967296 := by unfold ent; omega
theorem rtn_rng (s : Int) (h0 : 0 ≤ s) (h1 : s < 4294967296) : 0 ≤ rtn s ∧ rtn s < 4294967296 := by unfold rtn; omega

theorem wt_bits (q d3 d2 d1 d0 : Int) (h3 : d3 = 0 ∨ d3 = 1) (h2 : d2 = 0 ∨ d2 = 1) (h1 : d1 = 0 ∨ d1 = 1) (h0 : d0 = 0 ∨ d0 = 1) (b : Bool) :
   wt (16 * q + 8 * d3 + 4 * d2 + 2 * d1 + d0) 1 b = 16 * q + 8 * d3 + 4 * d2 + 2 * d1 + (if b = true then 1 else 0) ∧
   wt (16 * q + 8 * d3 + 4 * d2 + 2 * d1 + d0) 2 b = 16 * q + 8 * d3 + 4 * d2 + 2 * (if b = true then 1 else 0) + d0 ∧
   wt (16 * q + 8 * d3 + 4 * d2 + 2 * d1 + d0) 4 b = 16 * q + 8 * d3 + 4 * (if b = true then 1 else 0) + 2 * d1 + d0 ∧
   wt (16 * q + 8 * d3 + 4 * d2 + 2 * d1 + d0) 8 b = 16 * q + 8 * (if b = true then 1 else 0) + 4 * d2 + 2 * d1 + d0 := by
 unfold wt
 cases b
 · refine ⟨?_, ?_, ?_, ?_⟩ <;> simp only [Bool.false_eq_true, if_false] <;> omega
 · refine ⟨?_, ?_, ?_, ?_⟩ <;> simp only [if_true] <;> omega
theorem bt_bits (s : Int) : ∃ q d3 d2 d1 d0 : Int, (d3 = 0 ∨ d3 = 1) ∧ (d2 = 0 ∨ d2 = 1) ∧ (d1 = 0 ∨ d1 = 1) ∧ (d0 = 0 ∨ d0 = 1) ∧ s = 16 * q + 8 * d3 + 4 * d2 + 2 * d1 + d0 ∧ q = s / 16 ∧ d3 = s / 8 % 2 ∧ d2 = s / 4 % 2 ∧ d1 = s / 2 % 2 ∧ d0 = s % 2 :=
 ⟨s / 16, s / 8 % 2, s / 4 % 2, s / 2 % 2, s % 2, by omega, by omega, by omega, by omega, by omega, rfl, rfl, rfl, rfl, rfl⟩
theorem bit_if (d : Int) (h : d = 0 ∨ d = 1) : (if decide (d = 1) = true then 1 else 0 : Int) = d := by
 rcases h with rfl | rfl <;> simp
theorem wt_ent (s : Int) : wt (wt (wt (wt s 4 (bt s 1)) 8 (bt s 2)) 1 true) 2 false = ent s := by
 obtain ⟨q, d3, d2, d1, d0, h3, h2, h1, h0, e, eq, e3, e2, e1, e0⟩ := bt_bits s
 have b1 : bt s 1 = decide (d0 = 1) := by unfold bt; rw [Int.ediv_one, ← e0]
 have b2 : bt s 2 = decide (d1 = 1) := by unfold bt; rw [← e1]
 have ee : ent s = 16 * q + 8 * d1 + 4 * d0 + 2 * 0 + 1 := by unfold ent; rw [← eq, ← e1, ← e0]; omega
 rw [b1, b2, ee, e, (wt_bits q d3 d2 d1 d0 h3 h2 h1 h0 _).2.2.1, bit_if d0 h0, (wt_bits q d3 d0 d1 d0 h3 h0 h1 h0 _).2.2.2, bit_if d1 h1, (wt_bits q d1 d0 d1 d0 h1 h0 h1 h0 _).1, if_pos rfl, (wt_bits q d1 d0 d1 1 h1 h0 h1 (.inr rfl) _).2.1]
 rfl
theorem wt_rtn (s : Int) : wt (wt s 1 (bt s 4)) 2 (bt s 8) = rtn s := by
 obtain ⟨q, d3, d2, d1, d0, h3, h2, h1, h0, e, eq, e3, e2, e1, e0⟩ := bt_bits s
 have b1 : bt s 4 = decide (d2 = 1) := by unfold bt; rw [← e2]
 have b2 : bt s 8 = decide (d3 = 1) := by unfold bt; rw [← e3]
 have ee : rtn s = 16 * q + 8 * d3 + 4 * d2 + 2 * d3 + d2 := by unfold rtn; rw [← eq, ← e2, ← e3]; omega
 rw [b1, b2, ee, e, (wt_bits q d3 d2 d1 d0 h3 h2 h1 h0 _).1, bit_if d2 h2, (wt_bits q d3 d2 d1 d2 h3 h2 h1 h2 _).2.1, bit_if d3 h3]

theorem Core.goTo {c : List Int} (h : Core c) {p s : Int} (hp : 0 ≤ p ∧ p < 4294967296) (hs : 0 ≤ s ∧ s < 4294967296) : Core (goTo c p s) := (h.set 17 s hs.1 hs.2).set 16 p hp.1 hp.2
theorem Core.pc {c : List Int} (h : Core c) : 0 ≤ M.pc c ∧ M.pc c < 4294967296 := h.rng 16
theorem Core.enter {c : List Int} (h : Core c) {k v : Int} (v0 : 0 ≤ v) (v1 : v < 4294967296) : Core (enter c k v) := by
 unfold M.enter
 split
 · exact h
 · exact (((h.set 18 _ h.pc.1 h.pc.2).set 19 _ (by omega) (by omega)).set 20 v v0 v1).goTo (h.csr 4) (ent_rng _ (h.csr 0).1 (h.csr 0).2)
theorem Core.leave {c : List Int} (h : Core c) : Core (leave c) := h.goTo (h.csr 1) (rtn_rng _ (h.csr 0).1 (h.csr 0).2)
end Go.Proofs.YtclpdjpaaagkdaaGreatDoor.M
namespace Go.Proofs.YtclpdjpaaagkdaaGreatDoor
open Go.ChangeShapes Go.WideShapes Go.ChangeAt Go.RowKit Go.Sort
open Go.Proofs.YtclpdjpaaagkdaaGreatDoor.M (By)
set_option linter.unusedVariables false

set_option maxRecDepth 100000 in
theorem fits (s a n : Int) (W : World) (hs0 : 0 ≤ s) (hs : s ≤ 9223372036854775807) (ha0 : 0 ≤ a) (ha : a ≤ 9223372036854775807) :
   Calls Tryz.prog 153 #[.int .i64 s, .int .i64 a, .int .i64 n] W fun e W' => e = .returned (.bool (decide (a + n ≤ s ∧ a ≤ s))) ∧ W = W' := by
 by_cases h1 : a ≤ s
 · by_cases h2 : n ≤ s - a
   · rw [show decide (a + n ≤ s ∧ a ≤ s) = true from decide_eq_true ⟨by omega, h1⟩]
     go_enter Tryz.func153, Tryz.ntmps153
     go_wp2
     go_ret
     exact ⟨rfl, rfl⟩
   · rw [show decide (a + n ≤ s ∧ a ≤ s) = false from decide_eq_false (by omega)]
     go_enter Tryz.func153, Tryz.ntmps153
     go_wp2
     go_ret
     exact ⟨rfl, rfl⟩
 · rw [show decide (a + n ≤ s ∧ a ≤ s) = false from decide_eq_false (by omega)]
   go_enter Tryz.func153, Tryz.ntmps153
   go_wp2
   go_ret
   exact ⟨rfl, rfl⟩

theorem inRange (s a n : Nat) (W : World) (hs : s ≤ 9223372036854775807) (ha : a < 4294967296) (hn : 1 ≤ n) (hn4 : n ≤ 4) :
   Calls Tryz.prog 130 #[.int .i64 (s : Int), .int .u32 (a : Int), .int .i64 (n : Int)] W fun e W' => e = .returned (.bool (decide (a + n ≤ s))) ∧ W = W' := by
 have e : decide ((a : Int) + n ≤ s ∧ (a : Int) ≤ s) = decide (a + n ≤ s) := decide_eq_decide.2 ⟨fun h => by omega, fun h => by omega⟩
 have C := fits s a n W (by omega) (by omega) (by omega) (by omega)
 rw [e] at C
 generalize decide (a + n ≤ s) = b at *
 clear e
 go_enter Tryz.func130, Tryz.ntmps130
 go_wp2_with fail
 refine C.mono ?_
 rintro e w1 ⟨rfl, rfl⟩
 go_wp2
 go_ret
 exact ⟨rfl, rfl⟩

set_option maxRecDepth 100000 in
set_option maxHeartbeats 1000000 in
theorem clone (A : Option Addr) (c : Nat) (xs : List Int) (W : World) (hx : Bs W A c xs) (hn : xs.length ≤ 100000) :
   Calls Tryz.prog 174 #[.slice A xs.length c] W fun e W' => e = .returned (.slice (some ⟨W.heap.size, 0, none⟩) xs.length xs.length) ∧ Row W' W.heap.size 5 .u8 xs ∧ Dn W W' := by
 have HD : Hid (Dn W _) := Lib.hid ((Dn.refl W).alloc (.cells (ints .u8 (List.replicate xs.length 0)) 5))
 have HR := Lib.hid (Row.new W 5 .u8 (List.replicate xs.length 0))
 have HX := Lib.hid (hx.dn HD.out)
 clear hx
 go_enter Tryz.func174, Tryz.ntmps174
 go_wp2_with (first
   | ((with_reducible refine wpList_make8 hn ?_ ?_ ?_ ?_); rfl; rfl; rfl)
   | ((with_reducible refine wpList_copy8 (off := 0) (dp := some ⟨W.heap.size, 0, none⟩) (dLen := xs.length) (dCap := xs.length) HR HX HD (Lib.hid (Nat.le_refl W.heap.size)) (Lib.hid (by simp)) (Lib.hid (Nat.le_refl xs.length)) (Lib.hid (fun _ => rfl)) ?_ ?_ ?_); rfl; rfl; intro w1 H1 B1))
 rw [M.wr_full _ _ (by simp)] at H1
 go_wp2
 go_ret
 exact ⟨rfl, H1.out, B1.out⟩

end Go.Proofs.YtclpdjpaaagkdaaGreatDoor
namespace Go.Proofs.YtclpdjpaaagkdaaGreatDoor
open Go.ChangeShapes Go.WideShapes Go.ChangeAt Go.RowKit Go.Sort
open Go.Proofs.YtclpdjpaaagkdaaGreatDoor.M (By)
set_option linter.unusedVariables false

def LoadRel (W : World) (xs : List Int) (a n : Nat) (v i : Value) (w : World) : Prop :=
 ∃ k : Nat, k ≤ n ∧ i = .int .i64 k ∧ v = .int .u32 (M.leval (M.rd xs a k)) ∧ w = W

set_option maxRecDepth 100000 in
set_option maxHeartbeats 1000000 in
theorem load_yes (A : Option Addr) (c : Nat) (xs : List Int) (a n : Nat) (W : World) (hx : Bs W A c xs) (hl : xs.length ≤ 100000) (hn : 1 ≤ n) (hn4 : n ≤ 4) (h : a + n ≤ xs.length) :
   Calls Tryz.prog 99 #[.slice A xs.length c, .int .u32 (a : Int), .int .i64 (n : Int)] W fun e W' => e = .returned (.tuple #[.int .u32 (M.leval (M.rd xs a n)), .bool true]) ∧ W = W' := by
 have C := inRange xs.length a n W (by omega) (by omega) hn hn4
 rw [decide_eq_true h] at C
 have hla : a ≤ xs.length := by omega
 have HX := Lib.hid hx
 have hlc := hx.1
 clear hx
 go_enter Tryz.func99, Tryz.ntmps99
 go_wp2_with (first
   | (go_at_call 130; refine C.mono ?_; rintro e w1 ⟨rfl, rfl⟩)
   | ((with_reducible refine wpList_from (A := A) (len := xs.length) (c := c) (l := a) (k := .u32) hla hlc ?_ ?_ ?_ ?_); rfl; rfl; rfl; intro A' hA'))
 have hB := HX.out.drop hla hA'
 obtain ⟨ad, rfl, hab, hcs⟩ := hB.cells (by simp; omega)
 have HC := Lib.hid hcs
 have HY := Lib.hid HX.out.2.1
 clear hcs hB hA' HX C
 go_loopw [9, 21] (fun v i w => LoadRel W xs a n v i w) (fun _ i _ => n - (intOf i).toNat)
 case atStart => exact ⟨0, Nat.zero_le _, rfl, by simp [M.rd_zero, M.leval], rfl⟩
 case round =>
   obtain ⟨k, hk, rfl, rfl, rfl⟩ := hrel
   by_cases hlt : k < n
   · have hlt1 : (k : Int) < n := by omega
     have hck : wr.cell? (ad.add k) = some (.int .u8 (xs.getD (a + k) 0)) := by
       have := HC.out k (by simp; omega)
       rw [this]
       simp [List.getD]
     have hx0 := (HY.out.getD (a + k)).1
     have hx1 := (HY.out.getD (a + k)).2
     have hu0 := (M.leval_range (HY.out.rd (a := a) (n := k))).1
     have hu1 := (M.leval_range (HY.out.rd (a := a) (n := k))).2
     rw [M.rd_len (by omega)] at hu1
     have HE : Hid (M.leval (M.rd xs a (k + 1)) = M.leval (M.rd xs a k) + 256 ^ k * xs.getD (a + k) 0) := Lib.hid (by rw [M.rd_succ (by omega), M.leval_snoc, M.rd_len (by omega)])
     generalize xs.getD (a + k) 0 = x at *
     generalize M.leval (M.rd xs a k) = u at *
     have HO : Hid (bits .or .u32 u (x * 2 ^ (8 * k) % 4294967296) = u + 256 ^ k * x) := Lib.hid (M.or_byte u x k hu0 hu1 hx0 hx1 (by omega))
     go_wp2
     exact ⟨⟨k + 1, by omega, by go_num, by rw [HE.out, HO.out], rfl⟩, by simp [intOf]; omega⟩
   · have : k = n := by omega
     subst this
     go_wp2
     go_ret2
     exact ⟨rfl, rfl⟩

set_option maxRecDepth 100000 in
theorem load_no (A : Option Addr) (c : Nat) (xs : List Int) (a n : Nat) (W : World) (hl : xs.length ≤ 100000) (ha : a < 4294967296) (hn : 1 ≤ n) (hn4 : n ≤ 4) (h : ¬ a + n ≤ xs.length) :
   Calls Tryz.prog 99 #[.slice A xs.length c, .int .u32 (a : Int), .int .i64 (n : Int)] W fun e W' => e = .returned (.tuple #[.int .u32 0, .bool false]) ∧ W = W' := by
 have C := inRange xs.length a n W (by omega) (by omega) hn hn4
 rw [decide_eq_false h] at C
 go_enter Tryz.func99, Tryz.ntmps99
 go_wp2_with (go_at_call 130; refine C.mono ?_; rintro e w1 ⟨rfl, rfl⟩)
 go_ret2
 exact ⟨rfl, rfl⟩

def M.ld (xs : List Int) (a n : Nat) : Int := if a + n ≤ xs.length then M.leval (M.rd xs a n) else 0
theorem load (A : Option Addr) (c : Nat) (xs : List Int) (a n : Nat) (W : World) (hx : Bs W A c xs) (hl : xs.length ≤ 100000) (ha : a < 4294967296) (hn : 1 ≤ n) (hn4 : n ≤ 4) :
   Calls Tryz.prog 99 #[.slice A xs.length c, .int .u32 (a : Int), .int .i64 (n : Int)] W fun e W' => e = .returned (.tuple #[.int .u32 (M.ld xs a n), .bool (decide (a + n ≤ xs.length))]) ∧ W = W' := by
 unfold M.ld
 by_cases h : a + n ≤ xs.length
 · rw [if_pos h, decide_eq_true h]
   exact load_yes A c xs a n W hx hl hn hn4 h
 · rw [if_neg h, decide_eq_false h]
   exact load_no A c xs a n W hl ha hn hn4 h
end Go.Proofs.YtclpdjpaaagkdaaGreatDoor
namespace Go.Proofs.YtclpdjpaaagkdaaGreatDoor
open Go.ChangeShapes Go.WideShapes Go.ChangeAt Go.RowKit Go.Sort
open Go.Proofs.YtclpdjpaaagkdaaGreatDoor.M (By)
set_option linter.unusedVariables false

def StoreRel (W : World) (g : Nat) (xs : List Int) (a n : Nat) (v : Int) (i : Value) (w : World) : Prop :=
 ∃ k : Nat, k ≤ n ∧ i = .int .i64 k ∧ Row w g 5 .u8 (M.wr xs a (M.bytes v k)) ∧ Dn W w

set_option maxRecDepth 100000 in
set_option maxHeartbeats 1000000 in
theorem store_yes (A : Option Addr) (c : Nat) (xs : List Int) (a n : Nat) (v : Int) (W : World) (hx : Bs W A c xs) (hl : xs.length ≤ 100000) (hn : 1 ≤ n) (hn4 : n ≤ 4) (h : a + n ≤ xs.length) (hv0 : 0 ≤ v) (hv : v < 4294967296) :
   Calls Tryz.prog 173 #[.slice A xs.length c, .int .u32 (a : Int), .int .i64 (n : Int), .int .u32 v] W fun e W' => ∃ A' c', e = .returned (.tuple #[.slice A' xs.length c', .bool true]) ∧ Bs W' A' c' (M.wr xs a (M.bytes v n)) ∧ Dn W W' := by
 have C := inRange xs.length a n W (by omega) (by omega) hn hn4
 rw [decide_eq_true h] at C
 have hla : a ≤ xs.length := by omega
 have hle : xs.length ≤ xs.length := Nat.le_refl _
 have C2 := clone A c xs W hx hl
 have HY := Lib.hid hx.2.1
 have HLE := Lib.hid hle
 clear hx hle
 obtain ⟨g, hg⟩ : ∃ g, g = W.heap.size := ⟨_, rfl⟩
 rw [← hg] at C2
 have HG := Lib.hid hg
 clear hg
 go_enter Tryz.func173, Tryz.ntmps173
 go_wp2_with (first
   | (go_at_call 130; refine C.mono ?_; rintro e w1 ⟨rfl, rfl⟩)
   | (go_at_call 174; refine C2.mono ?_; rintro e w2 ⟨rfl, r2, d2⟩)
   | ((with_reducible refine wpList_from (A := some ⟨g, 0, none⟩) (len := xs.length) (c := xs.length) (l := a) (k := .u32) hla (Nat.le_refl _) ?_ ?_ ?_ ?_); rfl; rfl; rfl; intro A' hA'))
 have hA2 := hA' (by omega)
 rw [Option.map_some, add0] at hA2
 subst hA2
 clear hA' C C2
 go_loopw [26] (fun i w => StoreRel W g xs a n v i w) (fun i _ => n - (intOf i).toNat)
 case atStart => exact ⟨0, Nat.zero_le _, rfl, by rw [M.bytes, M.wr_nil]; exact r2, d2⟩
 case round =>
   obtain ⟨k, hk, rfl, hr, hd⟩ := hrel
   clear r2 d2
   have hbl := M.bytes_len v k
   have hwl : (M.wr xs a (M.bytes v k)).length = xs.length := M.wr_len (by omega)
   by_cases hlt : k < n
   · have hlt1 : (k : Int) < n := by omega
     have hck := hr.cell (a + k) (by omega)
     have hfr := hr.fr (a + k)
     have HR := Lib.hid (hr.put (a + k) (v / 2 ^ (8 * k) % 256))
     have HD := Lib.hid (hd.setCell (p := ⟨g, a + k, none⟩) (by rw [HG.out]; exact Nat.le_refl _) (.int .u8 (v / 2 ^ (8 * k) % 256)))
     have HE : Hid ((M.wr xs a (M.bytes v k)).set (a + k) (v / 2 ^ (8 * k) % 256) = M.wr xs a (M.bytes v (k + 1))) := Lib.hid (by
       have := M.wr_step (xs := xs) (bs := M.bytes v k) (a := a) (v / 2 ^ (8 * k) % 256) (by omega)
       rw [hbl] at this
       rw [this, M.bytes, M.pow256])
     clear hr hwl hbl
     generalize (M.wr xs a (M.bytes v k)).getD (a + k) 0 = old at *
     go_wp2
     exact ⟨⟨k + 1, by omega, by go_num, by rw [← HE.out]; exact HR.out, HD.out⟩, by simp [intOf]; omega⟩
   · have : k = n := by omega
     subst this
     have HB := Lib.hid (Bs.of_row hr (HY.out.wr (M.bytes_by v k)))
     rw [hwl] at HB
     clear hr hbl hwl
     go_wp2
     go_ret2
     exact ⟨_, _, rfl, HB.out, hd⟩

set_option maxRecDepth 100000 in
theorem store_no (A : Option Addr) (c : Nat) (xs : List Int) (a n : Nat) (v : Int) (W : World) (hl : xs.length ≤ 100000) (ha : a < 4294967296) (hn : 1 ≤ n) (hn4 : n ≤ 4) (h : ¬ a + n ≤ xs.length) :
   Calls Tryz.prog 173 #[.slice A xs.length c, .int .u32 (a : Int), .int .i64 (n : Int), .int .u32 v] W fun e W' => e = .returned (.tuple #[.slice A xs.length c, .bool false]) ∧ W = W' := by
 have C := inRange xs.length a n W (by omega) (by omega) hn hn4
 rw [decide_eq_false h] at C
 go_enter Tryz.func173, Tryz.ntmps173
 go_wp2_with (go_at_call 130; refine C.mono ?_; rintro e w1 ⟨rfl, rfl⟩)
 go_ret2
 exact ⟨rfl, rfl⟩

def M.st (xs : List Int) (a n : Nat) (v : Int) : List Int := if a + n ≤ xs.length then M.wr xs a (M.bytes v n) else xs
theorem store (A : Option Addr) (c : Nat) (xs : List Int) (a n : Nat) (v : Int) (W : World) (hx : Bs W A c xs) (hl : xs.length ≤ 100000) (ha : a < 4294967296) (hn : 1 ≤ n) (hn4 : n ≤ 4) (hv0 : 0 ≤ v) (hv : v < 4294967296) :
   Calls Tryz.prog 173 #[.slice A xs.length c, .int .u32 (a : Int), .int .i64 (n : Int), .int .u32 v] W fun e W' => ∃ A' c', e = .returned (.tuple #[.slice A' xs.length c', .bool (decide (a + n ≤ xs.length))]) ∧ Bs W' A' c' (M.st xs a n v) ∧ Dn W W' := by
 unfold M.st
 by_cases h : a + n ≤ xs.length
 · rw [if_pos h, decide_eq_true h]
   exact store_yes A c xs a n v W hx hl hn hn4 h hv0 hv
 · rw [if_neg h, decide_eq_false h]
   refine (store_no A c xs a n v W hl ha hn hn4 h).mono ?_
   rintro e w ⟨rfl, rfl⟩
   exact ⟨A, c, rfl, hx, Dn.refl _⟩
theorem M.st_len (xs : List Int) (a n : Nat) (v : Int) : (M.st xs a n v).length = xs.length := by
 unfold M.st
 by_cases h : a + n ≤ xs.length
 · rw [if_pos h, M.wr_len (by rw [M.bytes_len]; exact h)]
 · rw [if_neg h]

end Go.Proofs.YtclpdjpaaagkdaaGreatDoor
namespace Go.Proofs.YtclpdjpaaagkdaaGreatDoor.M
open Go.RowKit
set_option linter.unusedVariables false

def acz (c : List Int) (s a n : Int) : Int := if n = 4 ∧ a % 4 ≠ 0 then 4 else if hit (ub c) (un c s) s a n = true then 0 else 3
def atv (c : List Int) (s a n : Int) : Int := if acz c s a n = 0 then 0 else a
def apa (c : List Int) (s a n : Int) : Int := if acz c s a n = 0 then ub c + a else 0
def alv (c xs : List Int) (a n : Int) : Int := if acz c xs.length a n = 0 then ld xs (ub c + a).toNat n.toNat else 0
def asv (c xs : List Int) (a n v : Int) : List Int := if acz c xs.length a n = 0 then st xs (ub c + a).toNat n.toNat v else xs
def tcmp (c : List Int) : Int := csr c 10 * 4294967296 + csr c 9
def due (c : List Int) (t : Int) : Bool := ien c && decide (tcmp c ≤ t)

theorem acz_mis {c : List Int} {s a n : Int} (h : n = 4) (h2 : a % 4 ≠ 0) : acz c s a n = 4 := by unfold acz; rw [if_pos ⟨h, h2⟩]
theorem acz_yes {c : List Int} {s a n : Int} (h : ¬ (n = 4 ∧ a % 4 ≠ 0)) (h2 : hit (ub c) (un c s) s a n = true) : acz c s a n = 0 := by unfold acz; rw [if_neg h, if_pos h2]
theorem acz_no {c : List Int} {s a n : Int} (h : ¬ (n = 4 ∧ a % 4 ≠ 0)) (h2 : hit (ub c) (un c s) s a n = false) : acz c s a n = 3 := by unfold acz; rw [if_neg h, h2]; rfl
theorem acz_three (c : List Int) (s a n : Int) : acz c s a n = 0 ∨ acz c s a n = 3 ∨ acz c s a n = 4 := by
 unfold acz; split
 · exact .inr (.inr rfl)
 · split
   · exact .inl rfl
   · exact .inr (.inl rfl)
theorem acz_hit {c : List Int} {s a n : Int} (h : acz c s a n = 0) : ¬ (n = 4 ∧ a % 4 ≠ 0) ∧ a + n ≤ un c s ∧ ub c + a + n ≤ s := by
 unfold acz at h
 split at h
 · cases h
 · rename_i h1
   split at h
   · rename_i h2
     exact ⟨h1, (hit_iff _ _ _ _ _).1 h2⟩
   · cases h
theorem atv_yes {c : List Int} {s a n : Int} (h : acz c s a n = 0) : atv c s a n = 0 := by unfold atv; rw [if_pos h]
theorem atv_no {c : List Int} {s a n : Int} (h : acz c s a n ≠ 0) : atv c s a n = a := by unfold atv; rw [if_neg h]
theorem apa_yes {c : List Int} {s a n : Int} (h : acz c s a n = 0) : apa c s a n = ub c + a := by unfold apa; rw [if_pos h]
theorem apa_no {c : List Int} {s a n : Int} (h : acz c s a n ≠ 0) : apa c s a n = 0 := by unfold apa; rw [if_neg h]
theorem alv_no {c xs : List Int} {a n : Int} (h : acz c xs.length a n ≠ 0) : alv c xs a n = 0 := by unfold alv; rw [if_neg h]
theorem asv_no {c xs : List Int} {a n v : Int} (h : acz c xs.length a n ≠ 0) : asv c xs a n v = xs := by unfold asv; rw [if_neg h]
theorem asv_len (c xs : List Int) (a n v : Int) : (asv c xs a n v).length = xs.length := by
 unfold asv; split
 · exact st_len _ _ _ _
 · rfl
theorem tcmp_eq (c : List Int) (h : Core c) : bits .or .u64 (csr c 10 * 4294967296) (csr c 9) = tcmp c := by
 have h9 := h.csr 9
 have h10 := h.csr 10
 unfold tcmp
 generalize csr c 9 = x at *
 generalize csr c 10 = y at *
 obtain ⟨X, rfl⟩ := Int.eq_ofNat_of_zero_le h9.1
 obtain ⟨Y, rfl⟩ := Int.eq_ofNat_of_zero_le h10.1
 have e : ((Y : Int) * 4294967296) = ((2 ^ 32 * Y : Nat) : Int) := by omega
 rw [e, u64_or_nat _ _ (by omega) (by omega)]
 have := Nat.two_pow_add_eq_or_of_lt (i := 32) (b := X) (by omega) Y
 omega
end Go.Proofs.YtclpdjpaaagkdaaGreatDoor.M
namespace Go.Proofs.YtclpdjpaaagkdaaGreatDoor
open Go.ChangeShapes Go.WideShapes Go.ChangeAt Go.RowKit Go.Sort
set_option linter.unusedVariables false

theorem ret_ib {k : IntKind} {a b : Int} {p q : Bool} (h : a = b) (h2 : p = q) : Ending.returned (.tuple #[.int k a, .bool p]) = .returned (.tuple #[.int k b, .bool q]) := by rw [h, h2]
theorem ret_ii {k l : IntKind} {a b p q : Int} (h : a = b) (h2 : p = q) : Ending.returned (.tuple #[.int k a, .int l p]) = .returned (.tuple #[.int k b, .int l q]) := by rw [h, h2]
theorem and_one (x : Int) (h0 : 0 ≤ x) (h : x < 4294967296) : bits .and .u32 x 1 = x % 2 := by
 obtain ⟨v, rfl⟩ := Int.eq_ofNat_of_zero_le h0
 rw [show (1 : Int) = ((1 : Nat) : Int) from rfl, u32_and_nat _ _ (by omega) (by omega), Nat.and_one_is_mod]
 omega
theorem Row.csr {w : World} {b : Nat} {t : TypeId} {c : List Int} (r : Row w b t .u32 c) (hc : M.Core c) (i : Nat) (hi : i < 12) : w.cell? ⟨b, 17 + i, none⟩ = some (.int .u32 (M.csr c i)) := r.cell (17 + i) (by have := hc.len; omega)

theorem isSup (c : List Int) (W : World) (hc : M.Core c) :
   Calls Tryz.prog 163 #[.agg (ints .u32 c)] W fun e W' => e = .returned (.bool (M.sup c)) ∧ Dn W W' := by
 have k : (W.alloc (.cells (ints .u32 c) 26)).cell? ⟨W.heap.size, 17, none⟩ = some (.int .u32 (M.csr c 0)) := (Row.new W 26 .u32 c).csr hc 0 (by decide)
 have r := hc.csr 0
 have HE : Hid ((bits .and .u32 (M.csr c 0) 1 != 0) = M.sup c) := Lib.hid (by
   rw [and_one _ r.1 r.2]
   unfold M.sup
   generalize M.csr c 0 = x
   by_cases h : x % 2 = 1
   · simp [h]
   · have h2 : x % 2 = 0 := by omega
     simp [h2])
 go_enter Tryz.func163, Tryz.ntmps163
 go_wp2
 go_ret
 exact ⟨ret_bool HE.out, (Dn.refl W).alloc _⟩

theorem translate (base bound size a n : Int) (W : World) (b0 : 0 ≤ base) (b1 : base < 4294967296) (k0 : 0 ≤ bound) (k1 : bound < 4294967296) (s0 : 0 ≤ size) (s1 : size < 4294967296) (a0 : 0 ≤ a) (a1 : a < 4294967296) (n0 : 1 ≤ n) (n1 : n ≤ 4) :
   Calls Tryz.prog 152 #[.int .u32 base, .int .u32 bound, .int .u32 size, .int .u32 a, .int .i64 n] W fun e W' => e = .returned (.tuple #[.int .u32 (M.phys base bound size a n), .bool (M.hit base bound size a n)]) ∧ W = W' := by
 by_cases h1 : bound < a + n
 · have hh : M.hit base bound size a n = false := by rw [Bool.eq_false_iff, ne_eq, M.hit_iff]; omega
   have E1 := Lib.hid (M.phys_miss hh)
   have E2 := Lib.hid hh
   clear hh
   go_enter Tryz.func152, Tryz.ntmps152
   go_wp2
   go_ret2
   exact ⟨ret_ib E1.out.symm E2.out.symm, rfl⟩
 by_cases h2 : size < base + (a + n)
 · have hh : M.hit base bound size a n = false := by rw [Bool.eq_false_iff, ne_eq, M.hit_iff]; omega
   have E1 := Lib.hid (M.phys_miss hh)
   have E2 := Lib.hid hh
   clear hh
   go_enter Tryz.func152, Tryz.ntmps152
   go_wp2
   go_ret2
   exact ⟨ret_ib E1.out.symm E2.out.symm, rfl⟩
 · have hh : M.hit base bound size a n = true := by rw [M.hit_iff]; omega
   have E1 := Lib.hid (M.phys_hit hh)
   have E2 := Lib.hid hh
   have hw : IntKind.u32.wrap (base + a) = base + a := by rw [IntKind.wrap_u32]; omega
   clear hh
   go_enter Tryz.func152, Tryz.ntmps152
   go_wp2
   go_ret2
   exact ⟨ret_ib E1.out.symm E2.out.symm, rfl⟩

theorem inUse (c : List Int) (size : Int) (W : World) (hc : M.Core c) (s0 : 0 ≤ size) (s1 : size < 4294967296) :
   Calls Tryz.prog 151 #[.agg (ints .u32 c), .int .u32 size] W fun e W' => e = .returned (.tuple #[.int .u32 (M.ub c), .int .u32 (M.un c size)]) ∧ Dn W W' := by
 have hl := hc.len
 have r := Row.new W 26 .u32 c
 have d0 := (Dn.refl W).alloc (.cells (ints .u32 c) 26)
 cases hs : M.sup c
 · have E1 : Hid (M.ub c = M.csr c 5) := Lib.hid (by unfold M.ub; rw [hs]; rfl)
   have E2 : Hid (M.un c size = M.csr c 6) := Lib.hid (by unfold M.un; rw [hs]; rfl)
   have D := Lib.hid d0
   have R := Lib.hid r
   clear d0
   go_enter Tryz.func151, Tryz.ntmps151
   go_wp2_with (first | ((with_reducible refine load29 r hl ?_ ?_ ?_); rfl; rfl))
   refine (isSup c _ hc).mono ?_
   rintro e w1 ⟨rfl, d1⟩
   rw [hs]
   have r5 : w1.cell? ⟨W.heap.size, 22, none⟩ = some (.int .u32 (M.csr c 5)) := (R.out.dn d1).csr hc 5 (by decide)
   have r6 : w1.cell? ⟨W.heap.size, 23, none⟩ = some (.int .u32 (M.csr c 6)) := (R.out.dn d1).csr hc 6 (by decide)
   have D1 := Lib.hid (D.out.trans d1)
   clear r d1
   go_wp2_with fail
   go_quiet (fail)
   go_wp2
   go_ret2
   exact ⟨ret_ii E1.out.symm E2.out.symm, D1.out.drewN _⟩
 · have E1 : Hid (M.ub c = 0) := Lib.hid (by unfold M.ub; rw [hs]; rfl)
   have E2 : Hid (M.un c size = size) := Lib.hid (by unfold M.un; rw [hs]; rfl)
   have D := Lib.hid d0
   clear d0
   go_enter Tryz.func151, Tryz.ntmps151
   go_wp2_with (first | ((with_reducible refine load29 r hl ?_ ?_ ?_); rfl; rfl))
   refine (isSup c _ hc).mono ?_
   rintro e w1 ⟨rfl, d1⟩
   rw [hs]
   have D1 := Lib.hid (D.out.trans d1)
   clear r d1
   go_wp2
   go_ret2
   exact ⟨ret_ii E1.out.symm E2.out.symm, D1.out⟩

theorem translateCore (c : List Int) (size a n : Int) (W : World) (hc : M.Core c) (s0 : 0 ≤ size) (s1 : size < 4294967296) (a0 : 0 ≤ a) (a1 : a < 4294967296) (n0 : 1 ≤ n) (n1 : n ≤ 4) :
   Calls Tryz.prog 129 #[.agg (ints .u32 c), .int .u32 size, .int .u32 a, .int .i64 n] W fun e W' => e = .returned (.tuple #[.int .u32 (M.phys (M.ub c) (M.un c size) size a n), .bool (M.hit (M.ub c) (M.un c size) size a n)]) ∧ Dn W W' := by
 have hl := hc.len
 have r := Row.new W 26 .u32 c
 have D := Lib.hid ((Dn.refl W).alloc (.cells (ints .u32 c) 26))
 have u1 := M.ub_rng hc
 have u2 := M.un_rng hc s0 s1
 go_enter Tryz.func129, Tryz.ntmps129
 go_wp2_with (first | ((with_reducible refine load29 r hl ?_ ?_ ?_); rfl; rfl))
 refine (inUse c size _ hc s0 s1).mono ?_
 rintro e w1 ⟨rfl, d1⟩
 have D1 := Lib.hid (D.out.trans d1)
 clear r d1
 go_wp2_with fail
 refine (translate (M.ub c) (M.un c size) size a n _ u1.1 u1.2 u2.1 u2.2 s0 s1 a0 a1 n0 n1).mono ?_
 rintro e w2 ⟨rfl, rfl⟩
 go_wp2
 go_ret2
 exact ⟨rfl, D1.out⟩


theorem infoU32 : (Tryz.prog.info? 22).map (·.size) = some 1 := by kernel_rfl
theorem len29 {c : List Int} (h : M.Core c) (i : Nat) (hi : decide (i < 29) = true) : i < c.length := by
 rw [h.len]; exact of_decide_eq_true hi

section
variable {ops : Array Oper} {rest : List Oper} {dst : Option Tmp} {x y : Operand} {ty : TypeId} {pos : String} {aft : Array Edge} {gd : Option (Nat × Bool)} {a : Act} {w : World} {Q : Exit → Act → World → Prop} {b : Nat} {c : List Int}
theorem store1 {u : Int} {i : Nat} (r : Row w b 26 .u32 c) (hc : M.Core c)
   (hw : Region.wanted ⟨none, .store 22 x y, ty, pos, aft, gd⟩ (yielded ops a.tmps) = true) (hx : a.eval x = .pointer (some ⟨b, i, none⟩)) (hy : a.eval y = .int .u32 u) (hl : decide (i < 29) = true)
   (h : ∀ w', Row w' b 26 .u32 (c.set i u) → Trn b w w' → wpList Tryz.prog ops Q rest a w') : wpList Tryz.prog ops Q (⟨none, .store 22 x y, ty, pos, aft, gd⟩ :: rest) a w :=
 wpList_store_int r infoU32 hw hx hy (len29 hc i hl) h
theorem restore29 (d : List Int) (hd : d.length = 29) (r : Row w b 26 .u32 c) (hc : c.length = 29)
   (hw : Region.wanted ⟨none, .store 26 x y, ty, pos, aft, gd⟩ (yielded ops a.tmps) = true) (hx : a.eval x = .pointer (some ⟨b, 0, none⟩)) (hy : a.eval y = .agg (ints .u32 d))
   (h : ∀ w', Row w' b 26 .u32 d → Trn b w w' → wpList Tryz.prog ops Q rest a w') : wpList Tryz.prog ops Q (⟨none, .store 26 x y, ty, pos, aft, gd⟩ :: rest) a w :=
 wpList_store_whole (ints .u32 d) r.blk (info_core d hd) (by rw [ints_size, ints_size, hc, hd]) (ints_one _ d) hw hx hy h
end
theorem ret29 {fn : Func} {p : Tmp} {act : Act} {w : World} {b : Nat} {c : List Int} {Post : Ending → World → Prop} (h : fn.results = #[.cell p 26]) (hp : act.tmps.getD p undef = .pointer (some ⟨b, 0, none⟩)) (r : Row w b 26 .u32 c) (hl : c.length = 29)
   (k : Post (.returned (.agg (ints .u32 c))) w) (hd : act.defers = []) : bodyPost Tryz.prog fn Post .ret act w :=
 bodyPost_ret (results_cell_row h _ _ b 26 _ (0, 0) _ hp r Tryz.underlying26 rfl (info_core c hl)) hd k

theorem stHas (s p : Int) (W : World) (s0 : 0 ≤ s) (s1 : s < 4294967296) (hp : M.P4 p) :
   Calls Tryz.prog 79 #[.int .u32 s, .int .u32 p] W fun e W' => e = .returned (.bool (M.bt s p)) ∧ W = W' := by
 have HE := Lib.hid (M.bt_and s p s0 s1 hp)
 clear hp
 go_enter Tryz.func79, Tryz.ntmps79
 go_wp2
 go_ret
 exact ⟨ret_bool HE.out, rfl⟩
theorem stWith (s p : Int) (b : Bool) (W : World) (s0 : 0 ≤ s) (s1 : s < 4294967296) (hp : M.P4 p) :
   Calls Tryz.prog 80 #[.int .u32 s, .int .u32 p, .bool b] W fun e W' => e = .returned (.int .u32 (M.wt s p b)) ∧ W = W' := by
 cases b
 · have HE := Lib.hid (M.wt_not s p s0 s1 hp)
   clear hp
   go_enter Tryz.func80, Tryz.ntmps80
   go_wp2
   go_ret
   exact ⟨ret_int HE.out, rfl⟩
 · have HE := Lib.hid (M.wt_or s p s0 s1 hp)
   clear hp
   go_enter Tryz.func80, Tryz.ntmps80
   go_wp2
   go_ret
   exact ⟨ret_int HE.out, rfl⟩
theorem P1 : M.P4 1 := .inl rfl
theorem P2 : M.P4 2 := .inr (.inl rfl)
theorem P3 : M.P4 4 := .inr (.inr (.inl rfl))
theorem P8 : M.P4 8 := .inr (.inr (.inr rfl))
theorem stEntered (s : Int) (W : World) (s0 : 0 ≤ s) (s1 : s < 4294967296) :
   Calls Tryz.prog 63 #[.int .u32 s] W fun e W' => e = .returned (.int .u32 (M.ent s)) ∧ W = W' := by
 have HE := Lib.hid (M.wt_ent s)
 have C1 := Lib.hid fun w => stHas s 1 w s0 s1 P1
 have C2 := Lib.hid fun w => stHas s 2 w s0 s1 P2
 have r1 := M.wt_rng s 4 (M.bt s 1) s0 s1 P3
 have C3 := Lib.hid fun w => stWith s 4 (M.bt s 1) w s0 s1 P3
 generalize M.wt s 4 (M.bt s 1) = x1 at *
 have r2 := M.wt_rng x1 8 (M.bt s 2) r1.1 r1.2 P8
 have C4 := Lib.hid fun w => stWith x1 8 (M.bt s 2) w r1.1 r1.2 P8
 generalize M.wt x1 8 (M.bt s 2) = x2 at *
 have r3 := M.wt_rng x2 1 true r2.1 r2.2 P1
 have C5 := Lib.hid fun w => stWith x2 1 true w r2.1 r2.2 P1
 generalize M.wt x2 1 true = x3 at *
 have C6 := Lib.hid fun w => stWith x3 2 false w r3.1 r3.2 P2
 generalize M.wt x3 2 false = x4 at *
 generalize M.bt s 1 = b1 at *
 generalize M.bt s 2 = b2 at *
 go_enter Tryz.func63, Tryz.ntmps63
 go_wp2_with (first
   | (go_at_call 79; (first | (with_reducible refine (C1.out _).mono ?_) | (with_reducible refine (C2.out _).mono ?_)); rintro e w ⟨rfl, rfl⟩)
   | (go_at_call 80; (first | (with_reducible refine (C3.out _).mono ?_) | (with_reducible refine (C4.out _).mono ?_) | (with_reducible refine (C5.out _).mono ?_) | (with_reducible refine (C6.out _).mono ?_)); rintro e w ⟨rfl, rfl⟩))
 go_ret
 exact ⟨ret_int HE.out, rfl⟩
theorem stReturned (s : Int) (W : World) (s0 : 0 ≤ s) (s1 : s < 4294967296) :
   Calls Tryz.prog 156 #[.int .u32 s] W fun e W' => e = .returned (.int .u32 (M.rtn s)) ∧ W = W' := by
 have HE := Lib.hid (M.wt_rtn s)
 have C1 := Lib.hid fun w => stHas s 4 w s0 s1 P3
 have C2 := Lib.hid fun w => stHas s 8 w s0 s1 P8
 have r1 := M.wt_rng s 1 (M.bt s 4) s0 s1 P1
 have C3 := Lib.hid fun w => stWith s 1 (M.bt s 4) w s0 s1 P1
 generalize M.wt s 1 (M.bt s 4) = x1 at *
 have C4 := Lib.hid fun w => stWith x1 2 (M.bt s 8) w r1.1 r1.2 P2
 generalize M.wt x1 2 (M.bt s 8) = x2 at *
 generalize M.bt s 4 = b1 at *
 generalize M.bt s 8 = b2 at *
 go_enter Tryz.func156, Tryz.ntmps156
 go_wp2_with (first
   | (go_at_call 79; (first | (with_reducible refine (C1.out _).mono ?_) | (with_reducible refine (C2.out _).mono ?_)); rintro e w ⟨rfl, rfl⟩)
   | (go_at_call 80; (first | (with_reducible refine (C3.out _).mono ?_) | (with_reducible refine (C4.out _).mono ?_)); rintro e w ⟨rfl, rfl⟩))
 go_ret
 exact ⟨ret_int HE.out, rfl⟩
theorem stSup (s : Int) (W : World) (s0 : 0 ≤ s) (s1 : s < 4294967296) :
   Calls Tryz.prog 104 #[.int .u32 s] W fun e W' => e = .returned (.bool (M.bt s 1)) ∧ W = W' := by
 have C1 := Lib.hid fun w => stHas s 1 w s0 s1 P1
 generalize M.bt s 1 = b at *
 go_enter Tryz.func104, Tryz.ntmps104
 go_wp2_with (go_at_call 79; (with_reducible refine (C1.out _).mono ?_); rintro e w ⟨rfl, rfl⟩)
 go_ret
 exact ⟨rfl, rfl⟩
theorem stIe (s : Int) (W : World) (s0 : 0 ≤ s) (s1 : s < 4294967296) :
   Calls Tryz.prog 61 #[.int .u32 s] W fun e W' => e = .returned (.bool (M.bt s 2)) ∧ W = W' := by
 have C1 := Lib.hid fun w => stHas s 2 w s0 s1 P2
 generalize M.bt s 2 = b at *
 go_enter Tryz.func61, Tryz.ntmps61
 go_wp2_with (go_at_call 79; (with_reducible refine (C1.out _).mono ?_); rintro e w ⟨rfl, rfl⟩)
 go_ret
 exact ⟨rfl, rfl⟩

theorem box_res (W : World) (c : List Int) (t : TypeId) : ∃ w b0 b1, w = (W.alloc (.cells (ints .u32 c) t)).alloc (.cells (ints .u32 (zeros 29)) t) ∧ b0 = W.heap.size ∧ b1 = W.heap.size + 1 ∧
   Row w b0 t .u32 c ∧ Row w b1 t .u32 (zeros 29) ∧ b0 ≠ b1 ∧ W.heap.size ≤ b0 ∧ W.heap.size ≤ b1 ∧ Dn W w := by
 refine ⟨_, _, _, rfl, rfl, rfl, (Row.new W t .u32 c).old _, ?_, by omega, Nat.le_refl _, by omega, ((Dn.refl W).alloc _).alloc _⟩
 have h := Row.new (W.alloc (.cells (ints .u32 c) t)) t .u32 (zeros 29)
 rwa [size_alloc] at h
theorem core_zeros : M.Core (zeros 29) := M.core_zero

set_option maxHeartbeats 1000000 in
theorem trEnt (c : List Int) (p : Int) (W : World) (hc : M.Core c) (p0 : 0 ≤ p) (p1 : p < 4294967296) :
   Calls Tryz.prog 62 #[.agg (ints .u32 c), .int .u32 p, .func (.func 63) #[] #[]] W fun e W' => e = .returned (.agg (ints .u32 (M.goTo c p (M.ent (M.csr c 0))))) ∧ Dn W W' := by
 obtain ⟨w, b0, b1, hw, hb0, hb1, r0, r1, ne, l0, l1, D⟩ := box_res W c 26
 have s := hc.csr 0
 have rs := M.ent_rng _ s.1 s.2
 have C := Lib.hid fun w => stEntered (M.csr c 0) w s.1 s.2
 have k0 : w.cell? ⟨b0, 17, none⟩ = some (.int .u32 (M.csr c 0)) := r0.cell 17 (by rw [hc.len]; decide)
 have hc1 := hc.set 17 _ rs.1 rs.2
 have hc2 := hc1.set 16 _ p0 p1
 have HD := Lib.hid D
 have HL := Lib.hid (And.intro l0 l1)
 clear D l0 l1
 go_enter Tryz.func62, Tryz.ntmps62
 go_wp2_with ((with_reducible refine alloc29 (b := W.heap.size + 1) (size_alloc _ _) ?_ ?_); rfl; refine Hid.out ?_)
 refine Lib.hid ?_
 rw [← hw, ← hb1, ← hb0]
 clear hw hb0 hb1
 go_wp2_with (first
   | (go_at_call 63; (with_reducible refine (C.out _).mono ?_); rintro e w1 ⟨rfl, rfl⟩)
   | ((with_reducible refine store1 (i := 17) (u := M.ent (M.csr c 0)) r0 hc ?_ ?_ ?_ ?_ ?_); rfl; rfl; rfl; rfl; intro w2 r2 t2; refine Hid.out ?_))
 refine Lib.hid ?_
 replace r1 := r1.trn t2 ne.symm
 replace HD := Lib.hid (HD.out.trn HL.out.1 t2)
 clear t2 r0 k0
 go_wp2_with ((with_reducible refine store1 (i := 16) (u := p) r2 hc1 ?_ ?_ ?_ ?_ ?_); rfl; rfl; rfl; rfl; intro w3 r3 t3; refine Hid.out ?_)
 refine Lib.hid ?_
 replace r1 := r1.trn t3 ne.symm
 replace HD := Lib.hid (HD.out.trn HL.out.1 t3)
 clear t3 r2
 go_wp2_with (first
   | ((with_reducible refine load29 r3 hc2.len ?_ ?_ ?_); rfl; rfl)
   | ((with_reducible refine restore29 _ hc2.len r1 core_zeros.len ?_ ?_ ?_ ?_); rfl; rfl; rfl; intro w4 r4 t4))
 exact ret29 rfl rfl r4 hc2.len ⟨rfl, HD.out.trn HL.out.2 t4⟩ rfl
set_option maxHeartbeats 1000000 in
theorem trRtn (c : List Int) (p : Int) (W : World) (hc : M.Core c) (p0 : 0 ≤ p) (p1 : p < 4294967296) :
   Calls Tryz.prog 62 #[.agg (ints .u32 c), .int .u32 p, .func (.func 156) #[] #[]] W fun e W' => e = .returned (.agg (ints .u32 (M.goTo c p (M.rtn (M.csr c 0))))) ∧ Dn W W' := by
 obtain ⟨w, b0, b1, hw, hb0, hb1, r0, r1, ne, l0, l1, D⟩ := box_res W c 26
 have s := hc.csr 0
 have rs := M.rtn_rng _ s.1 s.2
 have C := Lib.hid fun w => stReturned (M.csr c 0) w s.1 s.2
 have k0 : w.cell? ⟨b0, 17, none⟩ = some (.int .u32 (M.csr c 0)) := r0.cell 17 (by rw [hc.len]; decide)
 have hc1 := hc.set 17 _ rs.1 rs.2
 have hc2 := hc1.set 16 _ p0 p1
 have HD := Lib.hid D
 have HL := Lib.hid (And.intro l0 l1)
 clear D l0 l1
 go_enter Tryz.func62, Tryz.ntmps62
 go_wp2_with ((with_reducible refine alloc29 (b := W.heap.size + 1) (size_alloc _ _) ?_ ?_); rfl; refine Hid.out ?_)
 refine Lib.hid ?_
 rw [← hw, ← hb1, ← hb0]
 clear hw hb0 hb1
 go_wp2_with (first
   | (go_at_call 156; (with_reducible refine (C.out _).mono ?_); rintro e w1 ⟨rfl, rfl⟩)
   | ((with_reducible refine store1 (i := 17) (u := M.rtn (M.csr c 0)) r0 hc ?_ ?_ ?_ ?_ ?_); rfl; rfl; rfl; rfl; intro w2 r2 t2; refine Hid.out ?_))
 refine Lib.hid ?_
 replace r1 := r1.trn t2 ne.symm
 replace HD := Lib.hid (HD.out.trn HL.out.1 t2)
 clear t2 r0 k0
 go_wp2_with ((with_reducible refine store1 (i := 16) (u := p) r2 hc1 ?_ ?_ ?_ ?_ ?_); rfl; rfl; rfl; rfl; intro w3 r3 t3; refine Hid.out ?_)
 refine Lib.hid ?_
 replace r1 := r1.trn t3 ne.symm
 replace HD := Lib.hid (HD.out.trn HL.out.1 t3)
 clear t3 r2
 go_wp2_with (first
   | ((with_reducible refine load29 r3 hc2.len ?_ ?_ ?_); rfl; rfl)
   | ((with_reducible refine restore29 _ hc2.len r1 core_zeros.len ?_ ?_ ?_ ?_); rfl; rfl; rfl; intro w4 r4 t4))
 exact ret29 rfl rfl r4 hc2.len ⟨rfl, HD.out.trn HL.out.2 t4⟩ rfl
theorem askS (c : List Int) (W : World) (hc : M.Core c) :
   Calls Tryz.prog 60 #[.agg (ints .u32 c), .func (.func 104) #[] #[]] W fun e W' => e = .returned (.bool (M.bt (M.csr c 0) 1)) ∧ Dn W W' := by
 have s := hc.csr 0
 have C := Lib.hid fun w => stSup (M.csr c 0) w s.1 s.2
 have k : (W.alloc (.cells (ints .u32 c) 26)).cell? ⟨W.heap.size, 17, none⟩ = some (.int .u32 (M.csr c 0)) := (Row.new W 26 .u32 c).cell 17 (by rw [hc.len]; decide)
 go_enter Tryz.func60, Tryz.ntmps60
 go_wp2_with (go_at_call 104; (with_reducible refine (C.out _).mono ?_); rintro e w1 ⟨rfl, rfl⟩)
 go_ret
 exact ⟨rfl, (Dn.refl W).alloc _⟩
theorem askI (c : List Int) (W : World) (hc : M.Core c) :
   Calls Tryz.prog 60 #[.agg (ints .u32 c), .func (.func 61) #[] #[]] W fun e W' => e = .returned (.bool (M.bt (M.csr c 0) 2)) ∧ Dn W W' := by
 have s := hc.csr 0
 have C := Lib.hid fun w => stIe (M.csr c 0) w s.1 s.2
 have k : (W.alloc (.cells (ints .u32 c) 26)).cell? ⟨W.heap.size, 17, none⟩ = some (.int .u32 (M.csr c 0)) := (Row.new W 26 .u32 c).cell 17 (by rw [hc.len]; decide)
 go_enter Tryz.func60, Tryz.ntmps60
 go_wp2_with (go_at_call 61; (with_reducible refine (C.out _).mono ?_); rintro e w1 ⟨rfl, rfl⟩)
 go_ret
 exact ⟨rfl, (Dn.refl W).alloc _⟩
theorem trapSup (c : List Int) (W : World) (hc : M.Core c) :
   Calls Tryz.prog 87 #[.agg (ints .u32 c)] W fun e W' => e = .returned (.bool (M.sup c)) ∧ Dn W W' := by
 have hl := hc.len
 have r := Row.new W 26 .u32 c
 have D := Lib.hid ((Dn.refl W).alloc (.cells (ints .u32 c) 26))
 have C := Lib.hid fun w => askS c w hc
 rw [M.sup_bt]
 go_enter Tryz.func87, Tryz.ntmps87
 go_wp2_with (first
   | ((with_reducible refine load29 r hl ?_ ?_ ?_); rfl; rfl)
   | (go_at_call 60; (with_reducible refine (C.out _).mono ?_); rintro e w1 ⟨rfl, d1⟩))
 go_ret
 exact ⟨rfl, D.out.trans d1⟩
theorem trapIe (c : List Int) (W : World) (hc : M.Core c) :
   Calls Tryz.prog 39 #[.agg (ints .u32 c)] W fun e W' => e = .returned (.bool (M.ien c)) ∧ Dn W W' := by
 have hl := hc.len
 have r := Row.new W 26 .u32 c
 have D := Lib.hid ((Dn.refl W).alloc (.cells (ints .u32 c) 26))
 have C := Lib.hid fun w => askI c w hc
 rw [show M.ien c = M.bt (M.csr c 0) 2 from rfl]
 go_enter Tryz.func39, Tryz.ntmps39
 go_wp2_with (first
   | ((with_reducible refine load29 r hl ?_ ?_ ?_); rfl; rfl)
   | (go_at_call 60; (with_reducible refine (C.out _).mono ?_); rintro e w1 ⟨rfl, d1⟩))
 go_ret
 exact ⟨rfl, D.out.trans d1⟩
end Go.Proofs.YtclpdjpaaagkdaaGreatDoor
namespace Go.Proofs.YtclpdjpaaagkdaaGreatDoor
open Go.ChangeShapes Go.WideShapes Go.ChangeAt Go.RowKit Go.Sort
open Go.Proofs.YtclpdjpaaagkdaaGreatDoor.M (By)
set_option linter.unusedVariables false

set_option maxRecDepth 100000 in
theorem there (s a n : Nat) (W : World) (hs : s ≤ 9223372036854775807) (ha : a < 4294967296) (hn : n ≤ 9223372036854775807) :
   Calls Tryz.prog 94 #[.int .i64 (s : Int), .int .u32 (a : Int), .int .i64 (n : Int)] W fun e W' => e = .returned (.bool (decide (a + n ≤ s))) ∧ W = W' := by
 by_cases h : a + n ≤ s
 · rw [decide_eq_true h]
   have h1 : (a : Int) ≤ s - n := by omega
   go_enter Tryz.func94, Tryz.ntmps94
   go_wp2
   go_ret
   exact ⟨rfl, rfl⟩
 · rw [decide_eq_false h]
   have h1 : ¬ (a : Int) ≤ s - n := by omega
   go_enter Tryz.func94, Tryz.ntmps94
   go_wp2
   go_ret
   exact ⟨rfl, rfl⟩

def SameRel (W : World) (xs ys : List Int) (i : Value) (w : World) : Prop :=
 ∃ k : Nat, k ≤ xs.length ∧ i = .int .i64 k ∧ xs.take k = ys.take k ∧ Dn W w

set_option maxRecDepth 100000 in
set_option maxHeartbeats 1000000 in
theorem same_len (A B : Option Addr) (c d : Nat) (xs ys : List Int) (W : World) (hx : Bs W A c xs) (hy : Bs W B d ys) (hl : xs.length = ys.length) (hn : xs.length ≤ 100000) :
   Calls Tryz.prog 20 #[.slice A xs.length c, .slice B ys.length d] W fun e W' => e = .returned (.bool (decide (xs = ys))) ∧ Dn W W' := by
 rw [← hl]
 have HL := Lib.hid hl
 clear hl
 go_enter Tryz.func20, Tryz.ntmps20
 go_wp2
 go_loopw [5] (fun i w => SameRel W xs ys i w) (fun i _ => xs.length - (intOf i).toNat)
 case atStart => exact ⟨0, Nat.zero_le _, rfl, rfl, Dn.refl _⟩
 case round =>
   obtain ⟨k, hk, rfl, he, hdn⟩ := hrel
   have hx := hx.dn hdn
   have hy := hy.dn hdn
   by_cases hlt : k < xs.length
   · have hlt1 : (k : Int) < xs.length := by omega
     have hly : k < ys.length := by have := HL.out; omega
     obtain ⟨ad, rfl, hab, hcs⟩ := hx.2.2 (by intro e; rw [e] at hlt; exact absurd hlt (by simp))
     obtain ⟨bd, rfl, hbb, hcs2⟩ := hy.2.2 (by intro e; rw [e] at hly; exact absurd hly (by simp))
     have hck := hcs k xs[k] (List.getElem?_eq_getElem hlt)
     have hck2 := hcs2 k ys[k] (List.getElem?_eq_getElem hly)
     have HE : Hid ((xs[k] = ys[k] → xs.take (k + 1) = ys.take (k + 1)) ∧ (xs[k] ≠ ys[k] → xs ≠ ys)) := Lib.hid ⟨fun e => by
       rw [List.take_succ_eq_append_getElem hlt, List.take_succ_eq_append_getElem hly, he, e], fun e e2 => e (by subst e2; rfl)⟩
     generalize xs[k] = x at *
     generalize ys[k] = y at *
     clear hcs hcs2 hx hy
     by_cases hxy : x = y
     · have HT := Lib.hid (HE.out.1 hxy)
       subst hxy
       clear HE
       go_wp2
       go_quiet (fail)
       go_wp2
       exact ⟨⟨k + 1, by omega, by go_num, HT.out, hdn.drewN _⟩, by simp [intOf]; omega⟩
     · have HF : Hid (decide (xs = ys) = false) := Lib.hid (decide_eq_false (HE.out.2 hxy))
       clear HE
       go_wp2
       go_quiet (fail)
       go_wp2
       go_ret
       exact ⟨by rw [HF.out]; rfl, hdn.drewN _⟩
   · go_wp2
     go_ret
     refine ⟨?_, hdn⟩
     have e1 : xs.take k = xs := List.take_of_length_le (by omega)
     have e2 : ys.take k = ys := List.take_of_length_le (by have := HL.out; omega)
     rw [decide_eq_true (by rw [← e1, ← e2]; exact he)]
     rfl

set_option maxRecDepth 100000 in
set_option maxHeartbeats 1000000 in
theorem same_no (A B : Option Addr) (c d m n : Nat) (W : World) (hl : m ≠ n) (hm : m ≤ 100000) (hn : n ≤ 9000000000000000000) :
   Calls Tryz.prog 20 #[.slice A m c, .slice B n d] W fun e W' => e = .returned (.bool false) ∧ Dn W W' := by
 have h2 : (m : Int) ≠ n := by omega
 go_enter Tryz.func20, Tryz.ntmps20
 go_wp2
 go_ret
 exact ⟨rfl, Dn.refl _⟩

theorem same (A B : Option Addr) (c d : Nat) (xs ys : List Int) (W : World) (hx : Bs W A c xs) (hy : Bs W B d ys) (hn : xs.length ≤ 100000) (hm : ys.length ≤ 100000) :
   Calls Tryz.prog 20 #[.slice A xs.length c, .slice B ys.length d] W fun e W' => e = .returned (.bool (decide (xs = ys))) ∧ Dn W W' := by
 by_cases hl : xs.length = ys.length
 · exact same_len A B c d xs ys W hx hy hl hn
 · rw [decide_eq_false (by intro e; rw [e] at hl; exact hl rfl)]
   exact same_no A B c d _ _ W hl hn (by omega)
theorem same_yes (A B : Option Addr) (c d m n : Nat) (xs ys : List Int) (W : World) (hx : Bs W A c xs) (hy : Bs W B d ys) (hm : m = xs.length) (hn : n = ys.length) (h : xs = ys) (hl : xs.length ≤ 100000) :
   Calls Tryz.prog 20 #[.slice A m c, .slice B n d] W fun e W' => e = .returned (.bool true) ∧ Dn W W' := by
 subst hm hn h
 have := same A B c d xs xs W hx hy hl hl
 rw [decide_eq_true rfl] at this
 exact this

def RLoadRel (W : World) (xs : List Int) (a n : Nat) (v i : Value) (w : World) : Prop :=
 ((∃ m : Nat, m < n ∧ i = .int .i64 (m : Int) ∧ v = .int .u32 (M.leval (M.rd xs (a + m + 1) (n - m - 1)))) ∨ (i = .int .i64 (-1) ∧ v = .int .u32 (M.leval (M.rd xs a n)))) ∧ w = W

set_option maxRecDepth 100000 in
set_option maxHeartbeats 1000000 in
theorem rload_yes (A : Option Addr) (c : Nat) (xs : List Int) (a n : Nat) (W : World) (hx : Bs W A c xs) (hl : xs.length ≤ 100000) (hn : 1 ≤ n) (hn4 : n ≤ 4) (h : a + n ≤ xs.length) :
   Calls Tryz.prog 71 #[.slice A xs.length c, .int .u32 (a : Int), .int .i64 (n : Int)] W fun e W' => e = .returned (.tuple #[.int .u32 (M.leval (M.rd xs a n)), .bool true]) ∧ W = W' := by
 have C := there xs.length a n W (by omega) (by omega) (by omega)
 rw [decide_eq_true h] at C
 obtain ⟨ad, rfl, hab, hcs⟩ := hx.cells (by omega)
 have HC := Lib.hid hcs
 have HY := Lib.hid hx.2.1
 clear hx hcs
 go_enter Tryz.func71, Tryz.ntmps71
 go_wp2_with (go_at_call 94; refine C.mono ?_; rintro e w1 ⟨rfl, rfl⟩)
 clear C
 go_loopw [8, 9] (fun v i w => RLoadRel W xs a n v i w) (fun _ i _ => (intOf i + 1).toNat)
 case atStart => exact ⟨.inl ⟨n - 1, by omega, by go_num, by
   have e1 : n - (n - 1) - 1 = 0 := by omega
   rw [e1, M.rd_zero]; rfl⟩, rfl⟩
 case round =>
   obtain ⟨⟨m, hm, rfl, rfl⟩ | ⟨rfl, rfl⟩, rfl⟩ := hrel
   · have hck := HC.out (a + m) (by omega)
     have hx0 := (HY.out.getD (a + m)).1
     have hx1 := (HY.out.getD (a + m)).2
     have hu0 := (M.leval_range (HY.out.rd (a := a + m + 1) (n := n - m - 1))).1
     have hu1 := (M.leval_range (HY.out.rd (a := a + m + 1) (n := n - m - 1))).2
     rw [M.rd_len (by omega)] at hu1
     have hp : (256 : Int) ^ (n - m - 1) ≤ 16777216 := by
       have : (256 : Nat) ^ (n - m - 1) ≤ 256 ^ 3 := Nat.pow_le_pow_right (by decide) (by omega)
       have e : (256 : Int) ^ (n - m - 1) = ((256 ^ (n - m - 1) : Nat) : Int) := by simp
       rw [e]; omega
     have hu2 : M.leval (M.rd xs (a + m + 1) (n - m - 1)) ≤ 16777215 := by omega
     have HE : Hid (M.leval (M.rd xs (a + m) (n - m)) = M.leval (M.rd xs (a + m + 1) (n - m - 1)) * 256 + xs.getD (a + m) 0) := Lib.hid (by
       have e1 : n - m = (n - m - 1) + 1 := by omega
       rw [e1, M.rd_cons (by omega), M.leval, Nat.add_sub_cancel]; omega)
     clear hp hu1
     generalize xs.getD (a + m) 0 = x at *
     generalize M.leval (M.rd xs (a + m + 1) (n - m - 1)) = u at *
     have hi1 : (0 : Int) ≤ (a : Int) + m ∧ (a : Int) + m < xs.length := by omega
     go_wp2
     go_roundw
     case rel =>
       refine ⟨?_, rfl⟩
       by_cases h0 : m = 0
       · subst h0
         exact .inr ⟨rfl, by rw [← HE.out]; rfl⟩
       · refine .inl ⟨m - 1, by omega, by go_num, ?_⟩
         have e1 : a + (m - 1) + 1 = a + m := by omega
         have e2 : n - (m - 1) - 1 = n - m := by omega
         rw [e1, e2, HE.out]
     case measure => simp [intOf]
   · go_wp2
     go_ret2
     exact ⟨rfl, rfl⟩

set_option maxRecDepth 100000 in
theorem rload_no (A : Option Addr) (c : Nat) (xs : List Int) (a n : Nat) (W : World) (hl : xs.length ≤ 100000) (ha : a < 4294967296) (hn : 1 ≤ n) (hn4 : n ≤ 4) (h : ¬ a + n ≤ xs.length) :
   Calls Tryz.prog 71 #[.slice A xs.length c, .int .u32 (a : Int), .int .i64 (n : Int)] W fun e W' => e = .returned (.tuple #[.int .u32 0, .bool false]) ∧ W = W' := by
 have C := there xs.length a n W (by omega) (by omega) (by omega)
 rw [decide_eq_false h] at C
 go_enter Tryz.func71, Tryz.ntmps71
 go_wp2_with (go_at_call 94; refine C.mono ?_; rintro e w1 ⟨rfl, rfl⟩)
 go_ret2
 exact ⟨rfl, rfl⟩
theorem rload (A : Option Addr) (c : Nat) (xs : List Int) (a n : Nat) (W : World) (hx : Bs W A c xs) (hl : xs.length ≤ 100000) (ha : a < 4294967296) (hn : 1 ≤ n) (hn4 : n ≤ 4) :
   Calls Tryz.prog 71 #[.slice A xs.length c, .int .u32 (a : Int), .int .i64 (n : Int)] W fun e W' => e = .returned (.tuple #[.int .u32 (M.ld xs a n), .bool (decide (a + n ≤ xs.length))]) ∧ W = W' := by
 unfold M.ld
 by_cases h : a + n ≤ xs.length
 · rw [if_pos h, decide_eq_true h]
   exact rload_yes A c xs a n W hx hl hn hn4 h
 · rw [if_neg h, decide_eq_false h]
   exact rload_no A c xs a n W hl ha hn hn4 h
end Go.Proofs.YtclpdjpaaagkdaaGreatDoor
namespace Go.Proofs.YtclpdjpaaagkdaaGreatDoor
open Go.ChangeShapes Go.WideShapes Go.ChangeAt Go.RowKit Go.Sort
open Go.Proofs.YtclpdjpaaagkdaaGreatDoor.M (By)
set_option linter.unusedVariables false

theorem own_zero (W : World) : (W.alloc (Obj.cells #[] 5)).ownsRow W.heap.size 5 1 (.slice (some ⟨W.heap.size, 0, none⟩) 0 0) 0 [] :=
 ⟨rfl, .inr ⟨W.heap.size, 0, #[], rfl, Nat.le_refl _, heap_alloc_new W _, Nat.le_refl _, by decide, rfl, rfl⟩⟩
theorem own_shape {w : World} {base : Nat} {v : Value} {n : Nat} {xs : List Value} (h : w.ownsRow base 5 1 v n xs) (h0 : 0 < n) : ∃ g cap, v = .slice (some ⟨g, 0, none⟩) n cap ∧ base ≤ g ∧ ∀ j, w.frozen? ⟨g, j, none⟩ = false := by
 rcases h.2 with ⟨_, h1⟩ | ⟨g, cap, cur, rfl, hb, hg, _⟩
 · omega
 · exact ⟨g, cap, rfl, hb, fun j => frozen_of_row w g j cur _ hg⟩
theorem own_cell {w : World} {base g cap n : Nat} {ys : List Int} (h : w.ownsRow base 5 1 (.slice (some ⟨g, 0, none⟩) n cap) n (ys.map (Value.int .u8))) (j : Nat) (hj : j < ys.length) : w.cell? ⟨g, j, none⟩ = some (.int .u8 (ys.getD j 0)) := by
 have := h.cells (g := g) rfl j (.int .u8 (ys.getD j 0)) (by rw [List.getElem?_map, M.getD_at hj]; rfl)
 rw [add0] at this
 exact this
theorem own_put {W w : World} {g cap n : Nat} {ys : List Int} (h : w.ownsRow W.heap.size 5 1 (.slice (some ⟨g, 0, none⟩) n cap) n (ys.map (Value.int .u8))) (hd : Dn W w) (hg : W.heap.size ≤ g) (j : Nat) (x : Int) :
   (w.setCell ⟨g, j, none⟩ (.int .u8 x)).ownsRow W.heap.size 5 1 (.slice (some ⟨g, 0, none⟩) n cap) n ((ys.set j x).map (Value.int .u8)) ∧ Dn W (w.setCell ⟨g, j, none⟩ (.int .u8 x)) := by
 refine ⟨?_, hd.setCell hg _⟩
 rw [List.map_set]
 exact (h.stored j (.int .u8 x)).1

def RStoreRel (W : World) (v0 : Int) (r : Value) (xs : List Int) (a n : Nat) (v i : Value) (w : World) : Prop :=
 ∃ k : Nat, k ≤ n ∧ i = .int .i64 k ∧ v = .int .u32 (v0 / 256 ^ k) ∧ w.ownsRow W.heap.size 5 1 r xs.length ((M.wr xs a (M.bytes v0 k)).map (Value.int .u8)) ∧ Dn W w

set_option maxRecDepth 100000 in
set_option maxHeartbeats 1000000 in
theorem rstore_yes (A : Option Addr) (c : Nat) (xs : List Int) (a n : Nat) (v : Int) (W : World) (hx : Bs W A c xs) (hl : xs.length ≤ 100000) (hn : 1 ≤ n) (hn4 : n ≤ 4) (h : a + n ≤ xs.length) (hv0 : 0 ≤ v) (hv : v < 4294967296) :
   Calls Tryz.prog 78 #[.slice A xs.length c, .int .u32 (a : Int), .int .i64 (n : Int), .int .u32 v] W fun e W' => ∃ A' c', e = .returned (.tuple #[.slice A' xs.length c', .bool true]) ∧ Bs W' A' c' (M.wr xs a (M.bytes v n)) ∧ Dn W W' := by
 have C := there xs.length a n W (by omega) (by omega) (by omega)
 rw [decide_eq_true h] at C
 have HX := Lib.hid hx
 have OWN := Lib.hid (own_zero W)
 have D0 : Hid (Dn W (W.alloc (Obj.cells #[] 5))) := Lib.hid ((Dn.refl W).alloc _)
 clear hx
 go_enter Tryz.func78, Tryz.ntmps78
 go_wp2_with (first
   | (go_at_call 94; refine C.mono ?_; rintro e w1 ⟨rfl, rfl⟩)
   | (at_builtin; (refine wpList_append8 rfl _ _ rfl W.heap.size (.slice (some ⟨W.heap.size, 0, none⟩) 0 0) 0 [] rfl OWN.out A c xs rfl (HX.out.dn D0.out) (by omega) D0.out.size ?_); intro r w2 own1 gr1; have OWN1 := Lib.hid own1; have GR1 := Lib.hid gr1; clear own1 gr1))
 have hown : w2.ownsRow W.heap.size 5 1 r xs.length (xs.map (Value.int .u8)) := by simpa using OWN1.out
 have hd2 : Dn W w2 := below_keep D0.out GR1.out D0.out.size (fun q e => (OWN.out.lt q e).1)
 clear OWN1 GR1 OWN D0 C
 go_loopw [3, 11] (fun v' i w => RStoreRel W v r xs a n v' i w) (fun _ i _ => n - (intOf i).toNat)
 case atStart => exact ⟨0, Nat.zero_le _, rfl, by simp, by rw [M.bytes, M.wr_nil]; exact hown, hd2⟩
 case round =>
   obtain ⟨k, hk, rfl, rfl, hr, hd⟩ := hrel
   clear hown hd2
   have hbl := M.bytes_len v k
   have hwl : (M.wr xs a (M.bytes v k)).length = xs.length := M.wr_len (by omega)
   by_cases hlt : k < n
   · have hlt1 : (k : Int) < n := by omega
     obtain ⟨g, cap, rfl, hg, hfrs⟩ := own_shape hr (by omega)
     have hck := own_cell hr (a + k) (by omega)
     have hfr := hfrs (a + k)
     have HR := Lib.hid (own_put hr hd hg (a + k) (v / 256 ^ k % 256))
     have HE : Hid ((M.wr xs a (M.bytes v k)).set (a + k) (v / 256 ^ k % 256) = M.wr xs a (M.bytes v (k + 1))) := Lib.hid (by
       have := M.wr_step (xs := xs) (bs := M.bytes v k) (a := a) (v / 256 ^ k % 256) (by omega)
       rw [hbl] at this
       rw [this, M.bytes])
     have HQ : Hid (v / 256 ^ (k + 1) = v / 256 ^ k / 256) := Lib.hid (by rw [Int.pow_succ, Int.ediv_ediv_of_nonneg (Int.le_of_lt (Int.pow_pos (by decide)))])
     have hu0 : 0 ≤ v / 256 ^ k := Int.ediv_nonneg hv0 (Int.le_of_lt (Int.pow_pos (by decide)))
     have hu1 : v / 256 ^ k < 4294967296 := Int.lt_of_le_of_lt (Int.ediv_le_self _ hv0) hv
     clear hr hwl hbl hfrs
     have hi1 : (0 : Int) ≤ (a : Int) + k ∧ (a : Int) + k < xs.length := by omega
     generalize (M.wr xs a (M.bytes v k)).getD (a + k) 0 = old at *
     generalize v / 256 ^ k = u at *
     go_wp2
     exact ⟨⟨k + 1, by omega, by go_num, by rw [HQ.out], by rw [← HE.out]; exact HR.out.1, HR.out.2⟩, by simp [intOf]; omega⟩
   · have : k = n := by omega
     subst this
     obtain ⟨A', c', rfl, hb⟩ := Bs.of_own hwl.symm (HX.out.2.1.wr (M.bytes_by v k)) hr
     rw [hwl]
     have HB := Lib.hid hb
     clear hr hbl hwl hb
     go_wp2
     go_ret2
     exact ⟨_, _, rfl, HB.out, hd⟩

set_option maxRecDepth 100000 in
theorem rstore_no (A : Option Addr) (c : Nat) (xs : List Int) (a n : Nat) (v : Int) (W : World) (hl : xs.length ≤ 100000) (ha : a < 4294967296) (hn : 1 ≤ n) (hn4 : n ≤ 4) (h : ¬ a + n ≤ xs.length) :
   Calls Tryz.prog 78 #[.slice A xs.length c, .int .u32 (a : Int), .int .i64 (n : Int), .int .u32 v] W fun e W' => e = .returned (.tuple #[.slice A xs.length c, .bool false]) ∧ W = W' := by
 have C := there xs.length a n W (by omega) (by omega) (by omega)
 rw [decide_eq_false h] at C
 go_enter Tryz.func78, Tryz.ntmps78
 go_wp2_with (go_at_call 94; refine C.mono ?_; rintro e w1 ⟨rfl, rfl⟩)
 go_ret2
 exact ⟨rfl, rfl⟩
theorem rstore (A : Option Addr) (c : Nat) (xs : List Int) (a n : Nat) (v : Int) (W : World) (hx : Bs W A c xs) (hl : xs.length ≤ 100000) (ha : a < 4294967296) (hn : 1 ≤ n) (hn4 : n ≤ 4) (hv0 : 0 ≤ v) (hv : v < 4294967296) :
   Calls Tryz.prog 78 #[.slice A xs.length c, .int .u32 (a : Int), .int .i64 (n : Int), .int .u32 v] W fun e W' => ∃ A' c', e = .returned (.tuple #[.slice A' xs.length c', .bool (decide (a + n ≤ xs.length))]) ∧ Bs W' A' c' (M.st xs a n v) ∧ Dn W W' := by
 unfold M.st
 by_cases h : a + n ≤ xs.length
 · rw [if_pos h, decide_eq_true h]
   exact rstore_yes A c xs a n v W hx hl hn hn4 h hv0 hv
 · rw [if_neg h, decide_eq_false h]
   refine (rstore_no A c xs a n v W hl ha hn hn4 h).mono ?_
   rintro e w ⟨rfl, rfl⟩
   exact ⟨A, c, rfl, hx, Dn.refl _⟩

end Go.Proofs.YtclpdjpaaagkdaaGreatDoor
namespace Go.Proofs.YtclpdjpaaagkdaaGreatDoor
open Go.ChangeShapes Go.WideShapes Go.ChangeAt Go.RowKit Go.Sort
open Go.Proofs.YtclpdjpaaagkdaaGreatDoor.M (By)
set_option linter.unusedVariables false

theorem load_at {A : Option Addr} {c len : Nat} {xs : List Int} {W : World} (a n : Nat) {a' n' v : Int} {b : Bool} (hx : Bs W A c xs) (hl : xs.length ≤ 100000) (ha : a < 4294967296) (hn : 1 ≤ n) (hn4 : n ≤ 4)
   (e1 : len = xs.length) (e2 : a' = (a : Int)) (e3 : n' = (n : Int)) (e4 : M.ld xs a n = v) (e5 : decide (a + n ≤ xs.length) = b) :
   Calls Tryz.prog 99 #[.slice A len c, .int .u32 a', .int .i64 n'] W fun e W' => e = .returned (.tuple #[.int .u32 v, .bool b]) ∧ W = W' := by
 subst e1 e2 e3 e4 e5
 exact load A c xs a n W hx hl ha hn hn4
theorem store_at {A : Option Addr} {c len : Nat} {xs ys : List Int} {W : World} (a n : Nat) {a' n' v : Int} {b : Bool} (hx : Bs W A c xs) (hl : xs.length ≤ 100000) (ha : a < 4294967296) (hn : 1 ≤ n) (hn4 : n ≤ 4) (hv0 : 0 ≤ v) (hv : v < 4294967296)
   (e1 : len = xs.length) (e2 : a' = (a : Int)) (e3 : n' = (n : Int)) (e4 : M.st xs a n v = ys) (e5 : decide (a + n ≤ xs.length) = b) :
   Calls Tryz.prog 173 #[.slice A len c, .int .u32 a', .int .i64 n', .int .u32 v] W fun e W' => ∃ A' c', e = .returned (.tuple #[.slice A' len c', .bool b]) ∧ Hid (Bs W' A' c' ys) ∧ Hid (Dn W W') := by
 subst e1 e2 e3 e4 e5
 exact store A c xs a n v W hx hl ha hn hn4 hv0 hv

theorem trap_fields : Tryz.prog.underlying 46 = some (.struct (Tryz.prog.fieldsOf 46)) := by
 unfold Program.fieldsOf
 rw [Tryz.underlying46]
set_option maxRecDepth 100000 in
theorem eqTrap (k v k' v' : Int) (w : World) : (Op.equalIn 10000 46 (.agg #[.int .i64 k, .int .u32 v]) (.agg #[.int .i64 k', .int .u32 v'])).run Tryz.prog w = .ok (k == k' && v == v') w := by
 rw [run_equalIn_struct w 9999 46 _ _ trap_fields (by kernel_rfl)]
 have q1 := fun (w : World) => run_equalIn_int (P := Tryz.prog) w 9998 3 .i64 .i64 k k' Tryz.underlying3
 have q2 := fun (w : World) => run_equalIn_int (P := Tryz.prog) w 9998 22 .u32 .u32 v v' Tryz.underlying22
 have hf : (Tryz.prog.fieldsOf 46).toList.map (fun f => (f.name == "_", f.type, f.offset)) = [(false, 3, 0), (false, 22, 1)] := by kernel_rfl
 have p1 : ∀ (k v : Int) (w : World), (part 3 #[.int .i64 k, .int .u32 v] 0).run Tryz.prog w = .ok (.int .i64 k) w := fun k v w => by simp [part, isAgg, run_underlying Tryz.underlying3]
 have p2 : ∀ (k v : Int) (w : World), (part 22 #[.int .i64 k, .int .u32 v] 1).run Tryz.prog w = .ok (.int .u32 v) w := fun k v w => by simp [part, isAgg, run_underlying Tryz.underlying22]
 generalize (Tryz.prog.fieldsOf 46).toList = fs at hf ⊢
 have hn : fs.length = 2 := by simpa using congrArg List.length hf
 match fs, hn, hf with
 | [f1, f2], _, hf =>
   simp only [List.map_cons, List.map_nil, List.cons.injEq, Prod.mk.injEq, and_true] at hf
   obtain ⟨⟨n1, t1, o1⟩, ⟨n2, t2, o2⟩⟩ := hf
   have n1 : f1.name ≠ "_" := by simpa using n1
   have n2 : f2.name ≠ "_" := by simpa using n2
   simp only [Op.eqFields, t1, t2, o1, o2, if_pos n1, if_pos n2, Sem.run_bind, p1, Result.andThen_ok, q1, Sem.run_ite]
   cases h1 : (k == k')
   · simp
   · simp only [Bool.not_true, Bool.false_eq_true, if_false, p2, Result.andThen_ok, q2, Bool.true_and]
     cases h2 : (v == v')
     · simp
     · simp

set_option maxRecDepth 100000 in
theorem misaligned_ (a n : Int) (b : Bool) (W : World) (a0 : 0 ≤ a) (a1 : a < 4294967296) (hb : decide (n = 4 ∧ a % 4 ≠ 0) = b) :
   Calls Tryz.prog 128 #[.int .u32 a, .int .i64 n] W fun e W' => e = .returned (.bool b) ∧ W = W' := by
 subst hb
 by_cases h : n = 4
 · subst h
   by_cases h2 : a % 4 = 0
   · rw [show decide ((4 : Int) = 4 ∧ a % 4 ≠ 0) = false from decide_eq_false (by omega)]
     go_enter Tryz.func128, Tryz.ntmps128
     go_wp2
     go_ret
     exact ⟨rfl, rfl⟩
   · rw [show decide ((4 : Int) = 4 ∧ a % 4 ≠ 0) = true from decide_eq_true (by omega)]
     have h3 : (a % 4 != 0) = true := by simpa using h2
     clear h2
     go_enter Tryz.func128, Tryz.ntmps128
     go_wp2
     go_ret
     exact ⟨rfl, rfl⟩
 · rw [show decide (n = 4 ∧ a % 4 ≠ 0) = false from decide_eq_false (by omega)]
   go_enter Tryz.func128, Tryz.ntmps128
   go_wp2
   go_ret
   exact ⟨rfl, rfl⟩
set_option maxRecDepth 100000 in
theorem trapped_ (k v : Int) (b : Bool) (W : World) (hb : (!(k == 0 && v == 0)) = b) :
   Calls Tryz.prog 98 #[.agg #[.int .i64 k, .int .u32 v]] W fun e W' => e = .returned (.bool b) ∧ Dn W W' := by
 subst hb
 have q := fun w => eqTrap k v 0 0 w
 generalize (k == 0 && v == 0) = b at *
 go_enter Tryz.func98, Tryz.ntmps98
 go_wp2
 go_ret
 exact ⟨rfl, (Dn.refl W).alloc _⟩
theorem csr_drop {c : List Int} (h : M.Core c) (i : Nat) : (c.drop 17).getD i 0 = M.csr c i := by
 unfold M.csr
 rw [List.getD_eq_getElem?_getD, List.getD_eq_getElem?_getD, List.getElem?_drop]
set_option maxRecDepth 100000 in
theorem timerCompare (c : List Int) (W : World) (hc : M.Core c) :
   Calls Tryz.prog 40 #[.agg (ints .u32 (c.drop 17))] W fun e W' => e = .returned (.int .u64 (M.tcmp c)) ∧ Dn W W' := by
 have hl : (c.drop 17).length = 12 := by rw [List.length_drop, hc.len]
 have k9 : (W.alloc (.cells (ints .u32 (c.drop 17)) 24)).cell? ⟨W.heap.size, 9, none⟩ = some (.int .u32 (M.csr c 9)) := by rw [← csr_drop hc]; exact (Row.new W 24 .u32 _).cell 9 (by omega)
 have k10 : (W.alloc (.cells (ints .u32 (c.drop 17)) 24)).cell? ⟨W.heap.size, 10, none⟩ = some (.int .u32 (M.csr c 10)) := by rw [← csr_drop hc]; exact (Row.new W 24 .u32 _).cell 10 (by omega)
 have r9 := hc.csr 9
 have r10 := hc.csr 10
 have HE := Lib.hid (M.tcmp_eq c hc)
 have D := Lib.hid ((Dn.refl W).alloc (.cells (ints .u32 (c.drop 17)) 24))
 generalize ints .u32 (c.drop 17) = cs at *
 clear hl
 go_enter Tryz.func40, Tryz.ntmps40
 go_wp2
 go_ret
 exact ⟨ret_int HE.out, D.out⟩

section
variable {ops : Array Oper} {rest : List Oper} {dst : Option Tmp} {x y : Operand} {ty : TypeId} {pos : String} {aft : Array Edge} {gd : Option (Nat × Bool)} {a : Act} {w : World} {Q : Exit → Act → World → Prop} {b : Nat} {c : List Int} {k v k' v' : Int}
theorem storeTrap (g : Blk w b 46 #[.int .i64 k', .int .u32 v']) (hw : Region.wanted ⟨none, .store 46 x y, ty, pos, aft, gd⟩ (yielded ops a.tmps) = true) (hx : a.eval x = .pointer (some ⟨b, 0, none⟩)) (hy : a.eval y = .agg #[.int .i64 k, .int .u32 v])
   (h : ∀ w', Blk w' b 46 #[.int .i64 k, .int .u32 v] → Trn b w w' → wpList Tryz.prog ops Q rest a w') : wpList Tryz.prog ops Q (⟨none, .store 46 x y, ty, pos, aft, gd⟩ :: rest) a w :=
 wpList_store_whole #[.int .i64 k, .int .u32 v] g infoTrap rfl (by simp [Value.oneCell']) hw hx hy h
theorem allocTrap (hb : w.heap.size = b) (hw : Region.wanted ⟨dst, .alloc 46, ty, pos, aft, gd⟩ (yielded ops a.tmps) = true)
   (h : wpList Tryz.prog ops Q rest (a.put dst (.pointer (some ⟨b, 0, none⟩))) (w.alloc (.cells #[.int .i64 0, .int .u32 0] 46))) :
   wpList Tryz.prog ops Q (⟨dst, .alloc 46, ty, pos, aft, gd⟩ :: rest) a w := by
 subst hb
 have hz : (Tryz.prog.info? 46).map (fun i => (i.zero, i.size)) = some (some (.agg #[.int .i64 0, .int .u32 0]), 2) := by kernel_rfl
 have hz1 := (zero_of_info hz).1
 unfold wpList
 rw [if_pos hw]
 refine .inl ?_
 unfold Oper.wp execOp
 simp only [Instr.alloc, Sem.run_bind, hz1, Result.andThen_ok]
 simp only [newVar, newRow, Value.cells, go_sem]
 exact h
end
theorem retWT {fn : Func} {i p : Tmp} {act : Act} {w : World} {b : Nat} {x : Value} {k v : Int} {Post : Ending → World → Prop} (h : fn.results = #[.tmp i, .cell p 46]) (hi : act.tmps.getD i undef = x) (hp : act.tmps.getD p undef = .pointer (some ⟨b, 0, none⟩)) (g : Blk w b 46 #[.int .i64 k, .int .u32 v])
   (K : Post (.returned (.tuple #[x, .agg #[.int .i64 k, .int .u32 v]])) w) (hd : act.defers = []) : bodyPost Tryz.prog fn Post .ret act w := by
 have hp' : act.tmps[p]?.getD undef = .pointer (some ⟨b, 0, none⟩) := by simpa using hp
 have hi' : act.tmps[i]?.getD undef = x := by simpa using hi
 have hl := run_loadVar_row (P := Tryz.prog) w b 46 46 _ (0, 0) _ g Tryz.underlying46 rfl infoTrap
 refine bodyPost_ret ?_ hd K
 simp [results, h, hp', hi', asAddr, hl]
theorem retMT {fn : Func} {o p : Tmp} {act : Act} {w : World} {b b' : Nat} {m : Mc} {k v : Int} {Post : Ending → World → Prop} (h : fn.results = #[.cell o 30, .cell p 46]) (ho : act.tmps.getD o undef = .pointer (some ⟨b', 0, none⟩)) (hp : act.tmps.getD p undef = .pointer (some ⟨b, 0, none⟩))
   (r : Blk w b' 30 (mach m)) (hl : m.c.length = 29) (g : Blk w b 46 #[.int .i64 k, .int .u32 v])
   (K : Post (.returned (.tuple #[.agg (mach m), .agg #[.int .i64 k, .int .u32 v]])) w) (hd : act.defers = []) : bodyPost Tryz.prog fn Post .ret act w := by
 have hp' : act.tmps[p]?.getD undef = .pointer (some ⟨b, 0, none⟩) := by simpa using hp
 have ho' : act.tmps[o]?.getD undef = .pointer (some ⟨b', 0, none⟩) := by simpa using ho
 have hl1 := run_loadVar_row (P := Tryz.prog) w b 46 46 _ (0, 0) _ g Tryz.underlying46 rfl infoTrap
 have hl2 := run_loadVar_row (P := Tryz.prog) w b' 30 30 _ (0, 0) _ r Tryz.underlying30 rfl (info_mach hl)
 refine bodyPost_ret ?_ hd K
 simp [results, h, hp', ho', asAddr, hl1, hl2]

set_option maxRecDepth 100000 in
set_option maxHeartbeats 1000000 in
theorem resolve_mis (m : Mc) (a n : Int) (W : World) (hm : m.Ok W) (a0 : 0 ≤ a) (a1 : a < 4294967296) (h : n = 4 ∧ a % 4 ≠ 0) :
   Calls Tryz.prog 97 #[.agg (mach m), .int .u32 a, .int .i64 n] W fun e W' => e = .returned (.tuple #[.int .u32 0, .agg #[.int .i64 4, .int .u32 a]]) ∧ Dn W W' := by
 have C1 := Lib.hid fun w => misaligned_ a n true w a0 a1 (decide_eq_true h)
 have G := Lib.hid (Blk.new (W.alloc (.cells (mach m) 30)) 46 #[.int .i64 4, .int .u32 a])
 rw [size_alloc] at G
 clear h
 go_enter Tryz.func97, Tryz.ntmps97
 go_wp2_with (first
   | (go_at_call 128; (with_reducible refine (C1.out _).mono ?_); rintro e w1 ⟨rfl, rfl⟩))
 exact retWT rfl rfl rfl G.out ⟨rfl, ((Dn.refl W).alloc _).alloc _⟩ rfl
set_option maxRecDepth 100000 in
set_option maxHeartbeats 1000000 in
theorem resolve_no (m : Mc) (a n : Int) (W : World) (hm : m.Ok W) (hs : m.xs.length ≤ 100000) (a0 : 0 ≤ a) (a1 : a < 4294967296) (n0 : 1 ≤ n) (n1 : n ≤ 4) (h : ¬ (n = 4 ∧ a % 4 ≠ 0)) (h2 : M.hit (M.ub m.c) (M.un m.c m.xs.length) m.xs.length a n = false) :
   Calls Tryz.prog 97 #[.agg (mach m), .int .u32 a, .int .i64 n] W fun e W' => e = .returned (.tuple #[.int .u32 0, .agg #[.int .i64 3, .int .u32 a]]) ∧ Dn W W' := by
 have C1 := Lib.hid fun w => misaligned_ a n false w a0 a1 (decide_eq_false h)
 have C2 := Lib.hid fun w => translateCore m.c m.xs.length a n w hm.core (by omega) (by omega) a0 a1 n0 n1
 rw [h2, M.phys_miss h2] at C2
 obtain ⟨w, b1, hw, hb1, g, D1, ne⟩ := new_blk (W.alloc (.cells (mach m) 30)) 46 #[.int .i64 0, .int .u32 0]
 rw [size_alloc] at hb1
 obtain ⟨b0, hb0⟩ : ∃ b0, b0 = W.heap.size := ⟨_, rfl⟩
 have r : Blk w b0 30 (mach m) := by rw [hb0]; exact (Blk.new W _ _).dn D1
 have HD := Lib.hid (((Dn.refl W).alloc (.cells (mach m) 30)).trans D1)
 have HL : Hid (W.heap.size ≤ b1) := Lib.hid (by omega)
 have hl := hm.len
 have k0 := r.mem hl
 clear h h2 D1 ne
 go_enter Tryz.func97, Tryz.ntmps97
 go_wp2_with ((with_reducible refine allocTrap (b := W.heap.size + 1) (size_alloc _ _) ?_ ?_); rfl; refine Hid.out ?_)
 refine Lib.hid ?_
 rw [← hw, ← hb1, ← hb0]
 clear hw hb0 hb1
 go_wp2_with (first
   | (go_at_call 128; (with_reducible refine (C1.out _).mono ?_); rintro e w1 ⟨rfl, rfl⟩)
   | ((with_reducible refine loadCore r hl ?_ ?_ ?_); rfl; rfl)
   | (go_at_call 129; (with_reducible refine (C2.out _).mono ?_); rintro e w1 ⟨rfl, d1⟩; replace g := g.dn d1; replace HD := Lib.hid (HD.out.trans d1); clear d1 k0 r)
   | ((with_reducible refine storeTrap (k := 3) (v := a) g ?_ ?_ ?_ ?_); rfl; rfl; rfl; intro w2 g2 t2))
 exact retWT rfl rfl rfl g2 ⟨rfl, HD.out.trn HL.out t2⟩ rfl
set_option maxRecDepth 100000 in
set_option maxHeartbeats 1000000 in
theorem resolve_yes (m : Mc) (a n : Int) (W : World) (hm : m.Ok W) (hs : m.xs.length ≤ 100000) (a0 : 0 ≤ a) (a1 : a < 4294967296) (n0 : 1 ≤ n) (n1 : n ≤ 4) (h : ¬ (n = 4 ∧ a % 4 ≠ 0)) (h2 : M.hit (M.ub m.c) (M.un m.c m.xs.length) m.xs.length a n = true) :
   Calls Tryz.prog 97 #[.agg (mach m), .int .u32 a, .int .i64 n] W fun e W' => e = .returned (.tuple #[.int .u32 (M.ub m.c + a), .agg #[.int .i64 0, .int .u32 0]]) ∧ Dn W W' := by
 have C1 := Lib.hid fun w => misaligned_ a n false w a0 a1 (decide_eq_false h)
 have C2 := Lib.hid fun w => translateCore m.c m.xs.length a n w hm.core (by omega) (by omega) a0 a1 n0 n1
 rw [h2, M.phys_hit h2] at C2
 generalize M.ub m.c + a = p at *
 obtain ⟨w, b1, hw, hb1, g, D1, ne⟩ := new_blk (W.alloc (.cells (mach m) 30)) 46 #[.int .i64 0, .int .u32 0]
 rw [size_alloc] at hb1
 obtain ⟨b0, hb0⟩ : ∃ b0, b0 = W.heap.size := ⟨_, rfl⟩
 have r : Blk w b0 30 (mach m) := by rw [hb0]; exact (Blk.new W _ _).dn D1
 have HD := Lib.hid (((Dn.refl W).alloc (.cells (mach m) 30)).trans D1)
 have HL : Hid (W.heap.size ≤ b1) := Lib.hid (by omega)
 have hl := hm.len
 have k0 := r.mem hl
 clear h h2 D1 ne
 go_enter Tryz.func97, Tryz.ntmps97
 go_wp2_with ((with_reducible refine allocTrap (b := W.heap.size + 1) (size_alloc _ _) ?_ ?_); rfl; refine Hid.out ?_)
 refine Lib.hid ?_
 rw [← hw, ← hb1, ← hb0]
 clear hw hb0 hb1
 go_wp2_with (first
   | (go_at_call 128; (with_reducible refine (C1.out _).mono ?_); rintro e w1 ⟨rfl, rfl⟩)
   | ((with_reducible refine loadCore r hl ?_ ?_ ?_); rfl; rfl)
   | (go_at_call 129; (with_reducible refine (C2.out _).mono ?_); rintro e w1 ⟨rfl, d1⟩; replace g := g.dn d1; replace HD := Lib.hid (HD.out.trans d1); clear d1 k0 r)
   | ((with_reducible refine storeTrap (k := 0) (v := 0) g ?_ ?_ ?_ ?_); rfl; rfl; rfl; intro w2 g2 t2))
 exact retWT rfl rfl rfl g2 ⟨rfl, HD.out.trn HL.out t2⟩ rfl
theorem resolve (m : Mc) (a n p k v : Int) (W : World) (hm : m.Ok W) (hs : m.xs.length ≤ 100000) (a0 : 0 ≤ a) (a1 : a < 4294967296) (n0 : 1 ≤ n) (n1 : n ≤ 4) (ep : M.apa m.c m.xs.length a n = p) (ek : M.acz m.c m.xs.length a n = k) (ev : M.atv m.c m.xs.length a n = v) :
   Calls Tryz.prog 97 #[.agg (mach m), .int .u32 a, .int .i64 n] W fun e W' => e = .returned (.tuple #[.int .u32 p, .agg #[.int .i64 k, .int .u32 v]]) ∧ Dn W W' := by
 subst ep ek ev
 by_cases h : n = 4 ∧ a % 4 ≠ 0
 · have e := M.acz_mis (c := m.c) (s := m.xs.length) h.1 h.2
   rw [e, M.apa_no (by rw [e]; decide), M.atv_no (by rw [e]; decide)]
   exact resolve_mis m a n W hm a0 a1 h
 · cases h2 : M.hit (M.ub m.c) (M.un m.c m.xs.length) m.xs.length a n
   · have e := M.acz_no h h2
     rw [e, M.apa_no (by rw [e]; decide), M.atv_no (by rw [e]; decide)]
     exact resolve_no m a n W hm hs a0 a1 n0 n1 h h2
   · have e := M.acz_yes h h2
     rw [e, M.apa_yes e, M.atv_yes e]
     exact resolve_yes m a n W hm hs a0 a1 n0 n1 h h2

set_option maxRecDepth 100000 in
set_option maxHeartbeats 2000000 in
theorem load_trap (m : Mc) (a n : Int) (W : World) (hm : m.Ok W) (hs : m.xs.length ≤ 100000) (a0 : 0 ≤ a) (a1 : a < 4294967296) (n0 : 1 ≤ n) (n1 : n ≤ 4) (k v : Int) (ek : M.acz m.c m.xs.length a n = k) (ev : M.atv m.c m.xs.length a n = v) (hk : k ≠ 0) :
   Calls Tryz.prog 81 #[.agg (mach m), .int .u32 a, .int .i64 n] W fun e W' => e = .returned (.tuple #[.int .u32 0, .agg #[.int .i64 k, .int .u32 v]]) ∧ Dn W W' := by
 obtain ⟨p, ep⟩ : ∃ p, M.apa m.c m.xs.length a n = p := ⟨_, rfl⟩
 have C1 := Lib.hid fun w => fun (ow : m.Ok w) => resolve m a n p k v w ow hs a0 a1 n0 n1 ep ek ev
 have C2 := Lib.hid fun w => trapped_ k v true w (by simp [hk])
 clear ep ek ev hk
 have hl := hm.len
 have om := Lib.hid hm
 have HD := Lib.hid (Dn.refl W)
 obtain ⟨x0, b_r, hw0, hb0, r, d', nn⟩ := new_blk W 30 (mach m)
 clear nn
 replace om := Lib.hid (om.out.dn d')
 replace HD := hT HD d'
 clear d'
 obtain ⟨x1, b_g, hw1, hb1, g, d', nn⟩ := new_blk x0 46 #[.int .i64 0, .int .u32 0]
 have n_r_g := Lib.hid (nn _ r.lt)
 have HL_g : Hid (W.heap.size ≤ b_g) := Lib.hid (by have := HD.out.size; omega)
 clear nn
 replace r := r.dn d'
 replace om := Lib.hid (om.out.dn d')
 replace HD := hT HD d'
 clear d'
 rw [hw0] at hw1 hb1
 simp only [size_alloc] at hb1
 go_enter Tryz.func81, Tryz.ntmps81
 go_wp2_with (first | ((with_reducible refine allocTrap (b := W.heap.size + 1) (size_alloc _ _) ?_ ?_); rfl; refine Hid.out ?_))
 refine Lib.hid ?_
 rw [← hw1, ← hb1, ← hb0]
 clear hw0 hb0 hw1 hb1
 go_wp2_with (first | ((with_reducible refine load33 r hl ?_ ?_ ?_); rfl; rfl) | ((with_reducible refine loadCore r hl ?_ ?_ ?_); rfl; rfl) | ((with_reducible refine loadCsr r hl ?_ ?_ ?_); rfl; rfl) | ((with_reducible refine loadTrap g ?_ ?_ ?_); rfl; rfl) | (go_at_call 97; (first | (with_reducible refine (C1.out _ om.out).mono ?_)); rintro e w' ⟨rfl, d'⟩; replace r := r.dn d'; replace g := g.dn d'; replace om := Lib.hid (om.out.dn d'); replace HD := hT HD d'; clear d') | ((with_reducible refine allocTrap (b := w'.heap.size) rfl ?_ ?_); rfl; refine Hid.out ?_))
 refine Lib.hid ?_
 obtain ⟨x', b_t, hw, hb, t, d', nn⟩ := new_blk w' 46 #[.int .i64 0, .int .u32 0]
 have n_r_t := Lib.hid (nn _ r.lt)
 have n_g_t := Lib.hid (nn _ g.lt)
 have HL_t : Hid (W.heap.size ≤ b_t) := Lib.hid (by have := HD.out.size; omega)
 rw [← hw, ← hb]
 clear hw hb nn
 replace r := r.dn d'
 replace g := g.dn d'
 replace om := Lib.hid (om.out.dn d')
 replace HD := hT HD d'
 clear d'
 go_wp2_with (first | ((with_reducible refine load33 r hl ?_ ?_ ?_); rfl; rfl) | ((with_reducible refine loadCore r hl ?_ ?_ ?_); rfl; rfl) | ((with_reducible refine loadCsr r hl ?_ ?_ ?_); rfl; rfl) | ((with_reducible refine loadTrap g ?_ ?_ ?_); rfl; rfl) | ((with_reducible refine loadTrap t ?_ ?_ ?_); rfl; rfl) | ((with_reducible refine storeTrap (k := k) (v := v) t ?_ ?_ ?_ ?_); rfl; rfl; rfl; intro w' r' t'; refine Hid.out ?_))
 refine Lib.hid ?_
 replace om := Lib.hid (om.out.trn t (NoU8.trap _ _) t')
 replace r := r.trn t' n_r_t.out
 replace g := g.trn t' n_g_t.out
 replace HD := Lib.hid (HD.out.trn HL_t.out t')
 clear t' t
 have t := r'
 clear r'
 go_wp2_with (first | ((with_reducible refine load33 r hl ?_ ?_ ?_); rfl; rfl) | ((with_reducible refine loadCore r hl ?_ ?_ ?_); rfl; rfl) | ((with_reducible refine loadCsr r hl ?_ ?_ ?_); rfl; rfl) | ((with_reducible refine loadTrap g ?_ ?_ ?_); rfl; rfl) | ((with_reducible refine loadTrap t ?_ ?_ ?_); rfl; rfl) | (go_at_call 98; (first | (with_reducible refine (C2.out _).mono ?_)); rintro e w' ⟨rfl, d'⟩; replace r := r.dn d'; replace g := g.dn d'; replace t := t.dn d'; replace om := Lib.hid (om.out.dn d'); replace HD := hT HD d'; clear d'))
 have d' : Dn w' { w' with drawn := w'.drawn + 1 } := (Dn.refl w').drew
 refine wp_region_still_tail 2 (by kernel_rfl) (by kernel_rfl) ?_
 simp only [List.take_succ_cons, List.take_zero, List.drop_succ_cons, List.drop_zero]
 replace r := r.dn d'
 replace g := g.dn d'
 replace t := t.dn d'
 replace om := Lib.hid (om.out.dn d')
 replace HD := hT HD d'
 clear d'
 generalize ({ w' with drawn := w'.drawn + 1 } : World) = w' at r g t om HD ⊢
 repeat (first | ((with_reducible refine still33 r hl ?_ ?_ ?_); rfl; rfl; simp only [Act.put, tA, tS, tZ]) | ((with_reducible refine stillCore r hl ?_ ?_ ?_); rfl; rfl; simp only [Act.put, tA, tS, tZ]) | ((with_reducible refine stillCsr r hl ?_ ?_ ?_); rfl; rfl; simp only [Act.put, tA, tS, tZ]) | ((with_reducible refine stillTrap g ?_ ?_ ?_); rfl; rfl; simp only [Act.put, tA, tS, tZ]) | ((with_reducible refine stillTrap t ?_ ?_ ?_); rfl; rfl; simp only [Act.put, tA, tS, tZ]) | still_step)
 refine wpStill_nil ?_
 go_wp2_with (first | ((with_reducible refine load33 r hl ?_ ?_ ?_); rfl; rfl) | ((with_reducible refine loadCore r hl ?_ ?_ ?_); rfl; rfl) | ((with_reducible refine loadCsr r hl ?_ ?_ ?_); rfl; rfl) | ((with_reducible refine loadTrap g ?_ ?_ ?_); rfl; rfl) | ((with_reducible refine loadTrap t ?_ ?_ ?_); rfl; rfl) | ((with_reducible refine storeTrap (k := k) (v := v) g ?_ ?_ ?_ ?_); rfl; rfl; rfl; intro w' r' t'; refine Hid.out ?_))
 refine Lib.hid ?_
 replace om := Lib.hid (om.out.trn g (NoU8.trap _ _) t')
 replace r := r.trn t' n_r_g.out
 replace t := t.trn t' n_g_t.out.symm
 replace HD := Lib.hid (HD.out.trn HL_g.out t')
 clear t' g
 have g := r'
 clear r'
 go_wp2_with fail
 exact retWT rfl rfl rfl g ⟨rfl, HD.out⟩ rfl
set_option maxRecDepth 100000 in
set_option maxHeartbeats 2000000 in
theorem load_ok (m : Mc) (a n : Int) (W : World) (hm : m.Ok W) (hs : m.xs.length ≤ 100000) (a0 : 0 ≤ a) (a1 : a < 4294967296) (n0 : 1 ≤ n) (n1 : n ≤ 4) (x : Int) (ek : M.acz m.c m.xs.length a n = 0) (hx : M.alv m.c m.xs a n = x) :
   Calls Tryz.prog 81 #[.agg (mach m), .int .u32 a, .int .i64 n] W fun e W' => e = .returned (.tuple #[.int .u32 x, .agg #[.int .i64 0, .int .u32 0]]) ∧ Dn W W' := by
 have hk := M.acz_hit ek
 have hu := M.ub_rng hm.core
 obtain ⟨pn, hpn⟩ : ∃ pn : Nat, M.ub m.c + a = (pn : Int) := ⟨(M.ub m.c + a).toNat, by omega⟩
 obtain ⟨nn, hnn⟩ : ∃ nn : Nat, n = (nn : Int) := ⟨n.toNat, by omega⟩
 have el : M.ld m.xs pn nn = x := by rw [← hx]; unfold M.alv; rw [if_pos ek, hpn, hnn]; rfl
 have C1 := Lib.hid fun w => fun (ow : m.Ok w) => resolve m a n (M.ub m.c + a) 0 0 w ow hs a0 a1 n0 n1 (M.apa_yes ek) ek (M.atv_yes ek)
 have C2 := Lib.hid fun w => trapped_ 0 0 false w rfl
 have ep : M.ub m.c + a = (pn : Int) := hpn
 rw [hpn] at C1
 have C3 := Lib.hid fun w => fun (ow : m.Ok w) => load_at (W := w) pn nn (a' := (pn : Int)) (n' := n) (v := x) (b := true) ow.mem hs (by omega) (by omega) (by omega) rfl rfl hnn el (decide_eq_true (by omega))
 clear hk hu hpn hnn el ep ek hx
 have hl := hm.len
 have om := Lib.hid hm
 have HD := Lib.hid (Dn.refl W)
 obtain ⟨x0, b_r, hw0, hb0, r, d', nn⟩ := new_blk W 30 (mach m)
 clear nn
 replace om := Lib.hid (om.out.dn d')
 replace HD := hT HD d'
 clear d'
 obtain ⟨x1, b_g, hw1, hb1, g, d', nn⟩ := new_blk x0 46 #[.int .i64 0, .int .u32 0]
 have n_r_g := Lib.hid (nn _ r.lt)
 have HL_g : Hid (W.heap.size ≤ b_g) := Lib.hid (by have := HD.out.size; omega)
 clear nn
 replace r := r.dn d'
 replace om := Lib.hid (om.out.dn d')
 replace HD := hT HD d'
 clear d'
 rw [hw0] at hw1 hb1
 simp only [size_alloc] at hb1
 go_enter Tryz.func81, Tryz.ntmps81
 go_wp2_with (first | ((with_reducible refine allocTrap (b := W.heap.size + 1) (size_alloc _ _) ?_ ?_); rfl; refine Hid.out ?_))
 refine Lib.hid ?_
 rw [← hw1, ← hb1, ← hb0]
 clear hw0 hb0 hw1 hb1
 go_wp2_with (first | ((with_reducible refine load33 r hl ?_ ?_ ?_); rfl; rfl) | ((with_reducible refine loadCore r hl ?_ ?_ ?_); rfl; rfl) | ((with_reducible refine loadCsr r hl ?_ ?_ ?_); rfl; rfl) | ((with_reducible refine loadTrap g ?_ ?_ ?_); rfl; rfl) | (go_at_call 97; (first | (with_reducible refine (C1.out _ om.out).mono ?_)); rintro e w' ⟨rfl, d'⟩; replace r := r.dn d'; replace g := g.dn d'; replace om := Lib.hid (om.out.dn d'); replace HD := hT HD d'; clear d') | ((with_reducible refine allocTrap (b := w'.heap.size) rfl ?_ ?_); rfl; refine Hid.out ?_))
 refine Lib.hid ?_
 obtain ⟨x', b_t, hw, hb, t, d', nn⟩ := new_blk w' 46 #[.int .i64 0, .int .u32 0]
 have n_r_t := Lib.hid (nn _ r.lt)
 have n_g_t := Lib.hid (nn _ g.lt)
 have HL_t : Hid (W.heap.size ≤ b_t) := Lib.hid (by have := HD.out.size; omega)
 rw [← hw, ← hb]
 clear hw hb nn
 replace r := r.dn d'
 replace g := g.dn d'
 replace om := Lib.hid (om.out.dn d')
 replace HD := hT HD d'
 clear d'
 go_wp2_with (first | ((with_reducible refine load33 r hl ?_ ?_ ?_); rfl; rfl) | ((with_reducible refine loadCore r hl ?_ ?_ ?_); rfl; rfl) | ((with_reducible refine loadCsr r hl ?_ ?_ ?_); rfl; rfl) | ((with_reducible refine loadTrap g ?_ ?_ ?_); rfl; rfl) | ((with_reducible refine loadTrap t ?_ ?_ ?_); rfl; rfl) | ((with_reducible refine storeTrap (k := 0) (v := 0) t ?_ ?_ ?_ ?_); rfl; rfl; rfl; intro w' r' t'; refine Hid.out ?_))
 refine Lib.hid ?_
 replace om := Lib.hid (om.out.trn t (NoU8.trap _ _) t')
 replace r := r.trn t' n_r_t.out
 replace g := g.trn t' n_g_t.out
 replace HD := Lib.hid (HD.out.trn HL_t.out t')
 clear t' t
 have t := r'
 clear r'
 have c0 := r.mem hl
 go_wp2_with (first | ((with_reducible refine load33 r hl ?_ ?_ ?_); rfl; rfl) | ((with_reducible refine loadCore r hl ?_ ?_ ?_); rfl; rfl) | ((with_reducible refine loadCsr r hl ?_ ?_ ?_); rfl; rfl) | ((with_reducible refine loadTrap g ?_ ?_ ?_); rfl; rfl) | ((with_reducible refine loadTrap t ?_ ?_ ?_); rfl; rfl) | (go_at_call 98; (first | (with_reducible refine (C2.out _).mono ?_)); rintro e w' ⟨rfl, d'⟩; replace r := r.dn d'; replace g := g.dn d'; replace t := t.dn d'; replace om := Lib.hid (om.out.dn d'); replace HD := hT HD d'; replace c0 := r.mem hl; clear d') | (go_at_call 99; (with_reducible refine (C3.out _ om.out).mono ?_); rintro e w' ⟨rfl, rfl⟩) | ((with_reducible refine storeTrap (k := 0) (v := 0) g ?_ ?_ ?_ ?_); rfl; rfl; rfl; intro w' r' t'; refine Hid.out ?_))
 refine Lib.hid ?_
 replace om := Lib.hid (om.out.trn g (NoU8.trap _ _) t')
 replace r := r.trn t' n_r_g.out
 replace t := t.trn t' n_g_t.out.symm
 replace HD := Lib.hid (HD.out.trn HL_g.out t')
 clear t' g
 have g := r'
 clear r'
 replace c0 := r.mem hl
 go_wp2_with fail
 exact retWT rfl rfl rfl g ⟨rfl, HD.out⟩ rfl
theorem fload (m : Mc) (a n : Int) (W : World) (hm : m.Ok W) (hs : m.xs.length ≤ 100000) (a0 : 0 ≤ a) (a1 : a < 4294967296) (n0 : 1 ≤ n) (n1 : n ≤ 4) (x k v : Int) (ex : M.alv m.c m.xs a n = x) (ek : M.acz m.c m.xs.length a n = k) (ev : M.atv m.c m.xs.length a n = v) :
   Calls Tryz.prog 81 #[.agg (mach m), .int .u32 a, .int .i64 n] W fun e W' => e = .returned (.tuple #[.int .u32 x, .agg #[.int .i64 k, .int .u32 v]]) ∧ Dn W W' := by
 by_cases h : k = 0
 · subst h
   rw [M.atv_yes ek] at ev
   subst ev
   exact load_ok m a n W hm hs a0 a1 n0 n1 x ek ex
 · have h2 := M.alv_no (xs := m.xs) (by rw [ek]; exact h)
   rw [ex] at h2
   subst h2
   exact load_trap m a n W hm hs a0 a1 n0 n1 k v ek ev h
def Mc.Up (m : Mc) (zs : List Int) (m' : Mc) : Prop := ∃ A k, m' = { m with A := A, k := k, xs := zs }
theorem M.core_pc {c : List Int} (h : M.Core c) : 0 ≤ M.pc c ∧ M.pc c < 4294967296 := h.rng 16
set_option maxRecDepth 100000 in
set_option maxHeartbeats 2000000 in
theorem ffetch (m : Mc) (W : World) (hm : m.Ok W) (hs : m.xs.length ≤ 100000) (x k v : Int) (ex : M.alv m.c m.xs (M.pc m.c) 4 = x) (ek : M.acz m.c m.xs.length (M.pc m.c) 4 = k) (ev : M.atv m.c m.xs.length (M.pc m.c) 4 = v) :
   Calls Tryz.prog 64 #[.agg (mach m)] W fun e W' => e = .returned (.tuple #[.int .u32 x, .agg #[.int .i64 k, .int .u32 v]]) ∧ Dn W W' := by
 have hl := hm.len
 have hp := M.core_pc hm.core
 have om := Lib.hid hm
 have C1 := Lib.hid fun w => fun (ow : m.Ok w) => fload m (M.pc m.c) 4 w ow hs hp.1 hp.2 (by decide) (by decide) x k v ex ek ev
 have hpc : m.c.getD 16 0 = M.pc m.c := rfl
 have HD := Lib.hid (Dn.refl W)
 obtain ⟨x0, b_r, hw0, hb0, r, d', nn⟩ := new_blk W 30 (mach m)
 clear nn
 replace om := Lib.hid (om.out.dn d')
 replace HD := hT HD d'
 clear d'
 obtain ⟨x1, b_g, hw1, hb1, g, d', nn⟩ := new_blk x0 46 #[.int .i64 0, .int .u32 0]
 have n_r_g := Lib.hid (nn _ r.lt)
 have HL_g : Hid (W.heap.size ≤ b_g) := Lib.hid (by have := HD.out.size; omega)
 clear nn
 replace r := r.dn d'
 replace om := Lib.hid (om.out.dn d')
 replace HD := hT HD d'
 clear d'
 rw [hw0] at hw1 hb1
 simp only [size_alloc] at hb1
 go_enter Tryz.func64, Tryz.ntmps64
 go_wp2_with (first | ((with_reducible refine allocTrap (b := W.heap.size + 1) (size_alloc _ _) ?_ ?_); rfl; refine Hid.out ?_))
 refine Lib.hid ?_
 rw [← hw1, ← hb1, ← hb0]
 clear hw0 hb0 hw1 hb1
 have c0 := r.word hl 16 rfl
 rw [hpc] at c0
 clear hpc ex ek ev
 go_wp2_with (first | ((with_reducible refine load33 r hl ?_ ?_ ?_); rfl; rfl) | ((with_reducible refine loadCore r hl ?_ ?_ ?_); rfl; rfl) | ((with_reducible refine loadCsr r hl ?_ ?_ ?_); rfl; rfl) | ((with_reducible refine loadTrap g ?_ ?_ ?_); rfl; rfl) | (go_at_call 81; (first | (with_reducible refine (C1.out _ om.out).mono ?_)); rintro e w' ⟨rfl, d'⟩; replace r := r.dn d'; replace g := g.dn d'; replace om := Lib.hid (om.out.dn d'); replace HD := hT HD d'; clear d') | ((with_reducible refine storeTrap (k := k) (v := v) g ?_ ?_ ?_ ?_); rfl; rfl; rfl; intro w' r' t'; refine Hid.out ?_))
 refine Lib.hid ?_
 replace om := Lib.hid (om.out.trn g (NoU8.trap _ _) t')
 replace r := r.trn t' n_r_g.out
 replace HD := Lib.hid (HD.out.trn HL_g.out t')
 clear t' g
 have g := r'
 clear r'
 go_wp2_with fail
 exact retWT rfl rfl rfl g ⟨rfl, HD.out⟩ rfl
set_option maxRecDepth 100000 in
set_option maxHeartbeats 2000000 in
theorem store_trap (m : Mc) (a n : Int) (u : Int) (W : World) (hm : m.Ok W) (hs : m.xs.length ≤ 100000) (a0 : 0 ≤ a) (a1 : a < 4294967296) (n0 : 1 ≤ n) (n1 : n ≤ 4) (u0 : 0 ≤ u) (u1 : u < 4294967296) (k v : Int) (ek : M.acz m.c m.xs.length a n = k) (ev : M.atv m.c m.xs.length a n = v) (hk : k ≠ 0) :
   Calls Tryz.prog 161 #[.agg (mach m), .int .u32 a, .int .i64 n, .int .u32 u] W fun e W' => ∃ m', e = .returned (.tuple #[.agg (mach m'), .agg #[.int .i64 k, .int .u32 v]]) ∧ Hid (m'.Ok W') ∧ Hid (m.Up m.xs m') ∧ Dn W W' := by
 obtain ⟨p, ep⟩ : ∃ p, M.apa m.c m.xs.length a n = p := ⟨_, rfl⟩
 have C1 := Lib.hid fun w => fun (ow : m.Ok w) => resolve m a n p k v w ow hs a0 a1 n0 n1 ep ek ev
 have C2 := Lib.hid fun w => trapped_ k v true w (by simp [hk])
 clear ep ek ev hk
 have hl := hm.len
 have om := Lib.hid hm
 have HD := Lib.hid (Dn.refl W)
 obtain ⟨x0, b_r, hw0, hb0, r, d', nn⟩ := new_blk W 30 (mach m)
 clear nn
 replace om := Lib.hid (om.out.dn d')
 replace HD := hT HD d'
 clear d'
 obtain ⟨x1, b_q, hw1, hb1, q, d', nn⟩ := new_blk x0 30 (mach Mc.zero)
 have n_r_q := Lib.hid (nn _ r.lt)
 have HL_q : Hid (W.heap.size ≤ b_q) := Lib.hid (by have := HD.out.size; omega)
 clear nn
 replace r := r.dn d'
 replace om := Lib.hid (om.out.dn d')
 replace HD := hT HD d'
 clear d'
 rw [hw0] at hw1 hb1
 simp only [size_alloc] at hb1
 obtain ⟨x2, b_g, hw2, hb2, g, d', nn⟩ := new_blk x1 46 #[.int .i64 0, .int .u32 0]
 have n_r_g := Lib.hid (nn _ r.lt)
 have n_q_g := Lib.hid (nn _ q.lt)
 have HL_g : Hid (W.heap.size ≤ b_g) := Lib.hid (by have := HD.out.size; omega)
 clear nn
 replace r := r.dn d'
 replace q := q.dn d'
 replace om := Lib.hid (om.out.dn d')
 replace HD := hT HD d'
 clear d'
 rw [hw1] at hw2 hb2
 simp only [size_alloc] at hb2
 go_enter Tryz.func161, Tryz.ntmps161
 go_wp2_with (first | ((with_reducible refine alloc33 (b := W.heap.size + 1) (size_alloc _ _) ?_ ?_); rfl) | ((with_reducible refine allocTrap (b := W.heap.size + 1 + 1) (size2 _ _ _) ?_ ?_); rfl; refine Hid.out ?_))
 refine Lib.hid ?_
 rw [← hw2, ← hb2, ← hb1, ← hb0]
 clear hw0 hb0 hw1 hb1 hw2 hb2
 go_wp2_with (first | ((with_reducible refine load33 r hl ?_ ?_ ?_); rfl; rfl) | ((with_reducible refine loadCore r hl ?_ ?_ ?_); rfl; rfl) | ((with_reducible refine loadCsr r hl ?_ ?_ ?_); rfl; rfl) | ((with_reducible refine load33 q zlen ?_ ?_ ?_); rfl; rfl) | ((with_reducible refine loadCore q zlen ?_ ?_ ?_); rfl; rfl) | ((with_reducible refine loadCsr q zlen ?_ ?_ ?_); rfl; rfl) | ((with_reducible refine loadTrap g ?_ ?_ ?_); rfl; rfl) | (go_at_call 97; (first | (with_reducible refine (C1.out _ om.out).mono ?_)); rintro e w' ⟨rfl, d'⟩; replace r := r.dn d'; replace q := q.dn d'; replace g := g.dn d'; replace om := Lib.hid (om.out.dn d'); replace HD := hT HD d'; clear d') | ((with_reducible refine allocTrap (b := w'.heap.size) rfl ?_ ?_); rfl; refine Hid.out ?_))
 refine Lib.hid ?_
 obtain ⟨x', b_t, hw, hb, t, d', nn⟩ := new_blk w' 46 #[.int .i64 0, .int .u32 0]
 have n_r_t := Lib.hid (nn _ r.lt)
 have n_q_t := Lib.hid (nn _ q.lt)
 have n_g_t := Lib.hid (nn _ g.lt)
 have HL_t : Hid (W.heap.size ≤ b_t) := Lib.hid (by have := HD.out.size; omega)
 rw [← hw, ← hb]
 clear hw hb nn
 replace r := r.dn d'
 replace q := q.dn d'
 replace g := g.dn d'
 replace om := Lib.hid (om.out.dn d')
 replace HD := hT HD d'
 clear d'
 go_wp2_with (first | ((with_reducible refine load33 r hl ?_ ?_ ?_); rfl; rfl) | ((with_reducible refine loadCore r hl ?_ ?_ ?_); rfl; rfl) | ((with_reducible refine loadCsr r hl ?_ ?_ ?_); rfl; rfl) | ((with_reducible refine load33 q zlen ?_ ?_ ?_); rfl; rfl) | ((with_reducible refine loadCore q zlen ?_ ?_ ?_); rfl; rfl) | ((with_reducible refine loadCsr q zlen ?_ ?_ ?_); rfl; rfl) | ((with_reducible refine loadTrap g ?_ ?_ ?_); rfl; rfl) | ((with_reducible refine loadTrap t ?_ ?_ ?_); rfl; rfl) | ((with_reducible refine storeTrap (k := k) (v := v) t ?_ ?_ ?_ ?_); rfl; rfl; rfl; intro w' r' t'; refine Hid.out ?_))
 refine Lib.hid ?_
 replace om := Lib.hid (om.out.trn t (NoU8.trap _ _) t')
 replace r := r.trn t' n_r_t.out
 replace q := q.trn t' n_q_t.out
 replace g := g.trn t' n_g_t.out
 replace HD := Lib.hid (HD.out.trn HL_t.out t')
 clear t' t
 have t := r'
 clear r'
 go_wp2_with (first | ((with_reducible refine load33 r hl ?_ ?_ ?_); rfl; rfl) | ((with_reducible refine loadCore r hl ?_ ?_ ?_); rfl; rfl) | ((with_reducible refine loadCsr r hl ?_ ?_ ?_); rfl; rfl) | ((with_reducible refine load33 q zlen ?_ ?_ ?_); rfl; rfl) | ((with_reducible refine loadCore q zlen ?_ ?_ ?_); rfl; rfl) | ((with_reducible refine loadCsr q zlen ?_ ?_ ?_); rfl; rfl) | ((with_reducible refine loadTrap g ?_ ?_ ?_); rfl; rfl) | ((with_reducible refine loadTrap t ?_ ?_ ?_); rfl; rfl) | (go_at_call 98; (first | (with_reducible refine (C2.out _).mono ?_)); rintro e w' ⟨rfl, d'⟩; replace r := r.dn d'; replace q := q.dn d'; replace g := g.dn d'; replace t := t.dn d'; replace om := Lib.hid (om.out.dn d'); replace HD := hT HD d'; clear d'))
 have d' : Dn w' { w' with drawn := w'.drawn + 1 } := (Dn.refl w').drew
 refine wp_region_ret2 (by kernel_rfl) (by kernel_rfl) r t q g n_q_t.out.symm n_q_g.out.symm Tryz.underlying30 rfl (info_mach hl) (by rw [mach_size zlen, mach_size hl]) (mach_one _) Tryz.underlying46 rfl infoTrap rfl (by simp [Value.oneCell']) rfl rfl rfl rfl rfl rfl rfl rfl rfl rfl rfl ?_
 simp only [Act.put, tA, tS, tZ]
 replace r := r.dn d'
 replace q := q.dn d'
 replace g := g.dn d'
 replace t := t.dn d'
 replace om := Lib.hid (om.out.dn d')
 replace HD := hT HD d'
 clear d'
 generalize ({ w' with drawn := w'.drawn + 1 } : World) = w' at r q g t om HD ⊢
 intro w' v' r' t' r2' t2'
 replace om := Lib.hid (om.out.trn q (NoU8.mach _) t')
 replace r := r.trn t' n_r_q.out
 replace g := g.trn t' n_q_g.out.symm
 replace t := t.trn t' n_q_t.out.symm
 replace HD := Lib.hid (HD.out.trn HL_q.out t')
 clear t' q
 have q := r'
 clear r'
 replace om := Lib.hid (om.out.trn g (NoU8.trap _ _) t2')
 replace r := r.trn t2' n_r_g.out
 replace q := q.trn t2' n_q_g.out
 replace t := t.trn t2' n_g_t.out.symm
 replace HD := Lib.hid (HD.out.trn HL_g.out t2')
 clear t2' g
 have g := r2'
 clear r2'
 go_wp2_with fail
 exact retMT rfl rfl rfl q hl g ⟨m, rfl, om, Lib.hid ⟨m.A, m.k, rfl⟩, HD.out⟩ rfl
set_option maxRecDepth 100000 in
set_option maxHeartbeats 2000000 in
theorem store_ok (m : Mc) (a n : Int) (u : Int) (W : World) (hm : m.Ok W) (hs : m.xs.length ≤ 100000) (a0 : 0 ≤ a) (a1 : a < 4294967296) (n0 : 1 ≤ n) (n1 : n ≤ 4) (u0 : 0 ≤ u) (u1 : u < 4294967296) (zs : List Int) (ek : M.acz m.c m.xs.length a n = 0) (hz : M.asv m.c m.xs a n u = zs) :
   Calls Tryz.prog 161 #[.agg (mach m), .int .u32 a, .int .i64 n, .int .u32 u] W fun e W' => ∃ m', e = .returned (.tuple #[.agg (mach m'), .agg #[.int .i64 0, .int .u32 0]]) ∧ Hid (m'.Ok W') ∧ Hid (m.Up zs m') ∧ Dn W W' := by
 have hk := M.acz_hit ek
 have hu := M.ub_rng hm.core
 obtain ⟨pn, hpn⟩ : ∃ pn : Nat, M.ub m.c + a = (pn : Int) := ⟨(M.ub m.c + a).toNat, by omega⟩
 obtain ⟨nn, hnn⟩ : ∃ nn : Nat, n = (nn : Int) := ⟨n.toNat, by omega⟩
 have el : M.st m.xs pn nn u = zs := by rw [← hz]; unfold M.asv; rw [if_pos ek, hpn, hnn]; rfl
 have C1 := Lib.hid fun w => fun (ow : m.Ok w) => resolve m a n (M.ub m.c + a) 0 0 w ow hs a0 a1 n0 n1 (M.apa_yes ek) ek (M.atv_yes ek)
 have C2 := Lib.hid fun w => trapped_ 0 0 false w rfl
 rw [hpn] at C1
 have C3 := Lib.hid fun w => fun (ow : m.Ok w) => store_at (W := w) pn nn (a' := (pn : Int)) (n' := n) (v := u) (b := true) ow.mem hs (by omega) (by omega) (by omega) u0 u1 rfl rfl hnn el (decide_eq_true (by omega))
 have zl : Hid (m.xs.length = zs.length) := Lib.hid (by rw [← hz, M.asv_len])
 clear hk hu hpn hnn el ek hz
 have hl := hm.len
 have om := Lib.hid hm
 have HD := Lib.hid (Dn.refl W)
 obtain ⟨x0, b_r, hw0, hb0, r, d', nn⟩ := new_blk W 30 (mach m)
 have HL_r : Hid (W.heap.size ≤ b_r) := Lib.hid (by have := HD.out.size; omega)
 clear nn
 replace om := Lib.hid (om.out.dn d')
 replace HD := hT HD d'
 clear d'
 obtain ⟨x1, b_q, hw1, hb1, q, d', nn⟩ := new_blk x0 30 (mach Mc.zero)
 have n_r_q := Lib.hid (nn _ r.lt)
 have HL_q : Hid (W.heap.size ≤ b_q) := Lib.hid (by have := HD.out.size; omega)
 clear nn
 replace r := r.dn d'
 replace om := Lib.hid (om.out.dn d')
 replace HD := hT HD d'
 clear d'
 rw [hw0] at hw1 hb1
 simp only [size_alloc] at hb1
 obtain ⟨x2, b_g, hw2, hb2, g, d', nn⟩ := new_blk x1 46 #[.int .i64 0, .int .u32 0]
 have n_r_g := Lib.hid (nn _ r.lt)
 have n_q_g := Lib.hid (nn _ q.lt)
 have HL_g : Hid (W.heap.size ≤ b_g) := Lib.hid (by have := HD.out.size; omega)
 clear nn
 replace r := r.dn d'
 replace q := q.dn d'
 replace om := Lib.hid (om.out.dn d')
 replace HD := hT HD d'
 clear d'
 rw [hw1] at hw2 hb2
 simp only [size_alloc] at hb2
 go_enter Tryz.func161, Tryz.ntmps161
 go_wp2_with (first | ((with_reducible refine alloc33 (b := W.heap.size + 1) (size_alloc _ _) ?_ ?_); rfl) | ((with_reducible refine allocTrap (b := W.heap.size + 1 + 1) (size2 _ _ _) ?_ ?_); rfl; refine Hid.out ?_))
 refine Lib.hid ?_
 rw [← hw2, ← hb2, ← hb1, ← hb0]
 clear hw0 hb0 hw1 hb1 hw2 hb2
 go_wp2_with (first | ((with_reducible refine load33 r hl ?_ ?_ ?_); rfl; rfl) | ((with_reducible refine loadCore r hl ?_ ?_ ?_); rfl; rfl) | ((with_reducible refine loadCsr r hl ?_ ?_ ?_); rfl; rfl) | ((with_reducible refine load33 q zlen ?_ ?_ ?_); rfl; rfl) | ((with_reducible refine loadCore q zlen ?_ ?_ ?_); rfl; rfl) | ((with_reducible refine loadCsr q zlen ?_ ?_ ?_); rfl; rfl) | ((with_reducible refine loadTrap g ?_ ?_ ?_); rfl; rfl) | (go_at_call 97; (first | (with_reducible refine (C1.out _ om.out).mono ?_)); rintro e w' ⟨rfl, d'⟩; replace r := r.dn d'; replace q := q.dn d'; replace g := g.dn d'; replace om := Lib.hid (om.out.dn d'); replace HD := hT HD d'; clear d') | ((with_reducible refine allocTrap (b := w'.heap.size) rfl ?_ ?_); rfl; refine Hid.out ?_))
 refine Lib.hid ?_
 obtain ⟨x', b_t, hw, hb, t, d', nn⟩ := new_blk w' 46 #[.int .i64 0, .int .u32 0]
 have n_r_t := Lib.hid (nn _ r.lt)
 have n_q_t := Lib.hid (nn _ q.lt)
 have n_g_t := Lib.hid (nn _ g.lt)
 have HL_t : Hid (W.heap.size ≤ b_t) := Lib.hid (by have := HD.out.size; omega)
 rw [← hw, ← hb]
 clear hw hb nn
 replace r := r.dn d'
 replace q := q.dn d'
 replace g := g.dn d'
 replace om := Lib.hid (om.out.dn d')
 replace HD := hT HD d'
 clear d'
 go_wp2_with (first | ((with_reducible refine load33 r hl ?_ ?_ ?_); rfl; rfl) | ((with_reducible refine loadCore r hl ?_ ?_ ?_); rfl; rfl) | ((with_reducible refine loadCsr r hl ?_ ?_ ?_); rfl; rfl) | ((with_reducible refine load33 q zlen ?_ ?_ ?_); rfl; rfl) | ((with_reducible refine loadCore q zlen ?_ ?_ ?_); rfl; rfl) | ((with_reducible refine loadCsr q zlen ?_ ?_ ?_); rfl; rfl) | ((with_reducible refine loadTrap g ?_ ?_ ?_); rfl; rfl) | ((with_reducible refine loadTrap t ?_ ?_ ?_); rfl; rfl) | ((with_reducible refine storeTrap (k := 0) (v := 0) t ?_ ?_ ?_ ?_); rfl; rfl; rfl; intro w' r' t'; refine Hid.out ?_))
 refine Lib.hid ?_
 replace om := Lib.hid (om.out.trn t (NoU8.trap _ _) t')
 replace r := r.trn t' n_r_t.out
 replace q := q.trn t' n_q_t.out
 replace g := g.trn t' n_g_t.out
 replace HD := Lib.hid (HD.out.trn HL_t.out t')
 clear t' t
 have t := r'
 clear r'
 have c0 := r.mem hl
 go_wp2_with (first | ((with_reducible refine load33 r hl ?_ ?_ ?_); rfl; rfl) | ((with_reducible refine loadCore r hl ?_ ?_ ?_); rfl; rfl) | ((with_reducible refine loadCsr r hl ?_ ?_ ?_); rfl; rfl) | ((with_reducible refine load33 q zlen ?_ ?_ ?_); rfl; rfl) | ((with_reducible refine loadCore q zlen ?_ ?_ ?_); rfl; rfl) | ((with_reducible refine loadCsr q zlen ?_ ?_ ?_); rfl; rfl) | ((with_reducible refine loadTrap g ?_ ?_ ?_); rfl; rfl) | ((with_reducible refine loadTrap t ?_ ?_ ?_); rfl; rfl) | (go_at_call 98; (first | (with_reducible refine (C2.out _).mono ?_)); rintro e w' ⟨rfl, d'⟩; replace r := r.dn d'; replace q := q.dn d'; replace g := g.dn d'; replace t := t.dn d'; replace om := Lib.hid (om.out.dn d'); replace HD := hT HD d'; replace c0 := r.mem hl; clear d') | (go_at_call 173; (with_reducible refine (C3.out _ om.out).mono ?_); rintro e w' ⟨A', k', rfl, oz, d'⟩; replace d' := d'.out; replace r := r.dn d'; replace q := q.dn d'; replace g := g.dn d'; replace t := t.dn d'; replace om := Lib.hid (om.out.dn d'); replace HD := hT HD d'; replace c0 := r.mem hl; clear d'; refine Hid.out ?_))
 refine Lib.hid ?_
 go_wp2_with (first | ((with_reducible refine load33 r hl ?_ ?_ ?_); rfl; rfl) | ((with_reducible refine loadCore r hl ?_ ?_ ?_); rfl; rfl) | ((with_reducible refine loadCsr r hl ?_ ?_ ?_); rfl; rfl) | ((with_reducible refine load33 q zlen ?_ ?_ ?_); rfl; rfl) | ((with_reducible refine loadCore q zlen ?_ ?_ ?_); rfl; rfl) | ((with_reducible refine loadCsr q zlen ?_ ?_ ?_); rfl; rfl) | ((with_reducible refine loadTrap g ?_ ?_ ?_); rfl; rfl) | ((with_reducible refine loadTrap t ?_ ?_ ?_); rfl; rfl) | ((with_reducible refine storeMem (A' := A') (k' := k') (zs := zs) r hl zl.out ?_ ?_ ?_ ?_); rfl; rfl; rfl; intro w' r' t'; refine Hid.out ?_))
 refine Lib.hid ?_
 clear c0
 replace om := Lib.hid (om.out.trn r (NoU8.mach _) t')
 replace oz := Lib.hid (oz.out.trn r (NoU8.mach _) t')
 replace q := q.trn t' n_r_q.out.symm
 replace g := g.trn t' n_r_g.out.symm
 replace t := t.trn t' n_r_t.out.symm
 replace HD := Lib.hid (HD.out.trn HL_r.out t')
 clear t' r
 have r := r'
 clear r'
 obtain ⟨m', hm'⟩ : ∃ m', m' = { m with A := A', k := k', xs := zs } := ⟨_, rfl⟩
 rw [← hm'] at r
 have om' : Hid (m'.Ok w') := Lib.hid (by rw [hm']; exact ⟨om.out.core, oz.out, om.out.out, om.out.t0, om.out.t1⟩)
 have hl' := om'.out.len
 have HU : Hid (m.Up zs m') := Lib.hid ⟨A', k', hm'⟩
 clear hm' oz om
 go_wp2_with (first | ((with_reducible refine load33 r hl' ?_ ?_ ?_); rfl; rfl) | ((with_reducible refine loadCore r hl' ?_ ?_ ?_); rfl; rfl) | ((with_reducible refine loadCsr r hl' ?_ ?_ ?_); rfl; rfl) | ((with_reducible refine load33 q zlen ?_ ?_ ?_); rfl; rfl) | ((with_reducible refine loadCore q zlen ?_ ?_ ?_); rfl; rfl) | ((with_reducible refine loadCsr q zlen ?_ ?_ ?_); rfl; rfl) | ((with_reducible refine loadTrap g ?_ ?_ ?_); rfl; rfl) | ((with_reducible refine loadTrap t ?_ ?_ ?_); rfl; rfl) | ((with_reducible refine store33 m' hl' q zlen ?_ ?_ ?_ ?_); rfl; rfl; rfl; intro w' r' t'; refine Hid.out ?_))
 refine Lib.hid ?_
 replace om' := Lib.hid (om'.out.trn q (NoU8.mach _) t')
 replace r := r.trn t' n_r_q.out
 replace g := g.trn t' n_q_g.out.symm
 replace t := t.trn t' n_q_t.out.symm
 replace HD := Lib.hid (HD.out.trn HL_q.out t')
 clear t' q
 have q := r'
 clear r'
 go_wp2_with (first | ((with_reducible refine load33 r hl' ?_ ?_ ?_); rfl; rfl) | ((with_reducible refine loadCore r hl' ?_ ?_ ?_); rfl; rfl) | ((with_reducible refine loadCsr r hl' ?_ ?_ ?_); rfl; rfl) | ((with_reducible refine load33 q hl' ?_ ?_ ?_); rfl; rfl) | ((with_reducible refine loadCore q hl' ?_ ?_ ?_); rfl; rfl) | ((with_reducible refine loadCsr q hl' ?_ ?_ ?_); rfl; rfl) | ((with_reducible refine loadTrap g ?_ ?_ ?_); rfl; rfl) | ((with_reducible refine loadTrap t ?_ ?_ ?_); rfl; rfl) | ((with_reducible refine storeTrap (k := 0) (v := 0) g ?_ ?_ ?_ ?_); rfl; rfl; rfl; intro w' r' t'; refine Hid.out ?_))
 refine Lib.hid ?_
 replace om' := Lib.hid (om'.out.trn g (NoU8.trap _ _) t')
 replace r := r.trn t' n_r_g.out
 replace q := q.trn t' n_q_g.out
 replace t := t.trn t' n_g_t.out.symm
 replace HD := Lib.hid (HD.out.trn HL_g.out t')
 clear t' g
 have g := r'
 clear r'
 go_wp2_with fail
 exact retMT rfl rfl rfl q hl' g ⟨m', rfl, om', HU, HD.out⟩ rfl
theorem fstore (m : Mc) (a n : Int) (u : Int) (W : World) (hm : m.Ok W) (hs : m.xs.length ≤ 100000) (a0 : 0 ≤ a) (a1 : a < 4294967296) (n0 : 1 ≤ n) (n1 : n ≤ 4) (u0 : 0 ≤ u) (u1 : u < 4294967296) (zs : List Int) (k v : Int) (hz : M.asv m.c m.xs a n u = zs) (ek : M.acz m.c m.xs.length a n = k) (ev : M.atv m.c m.xs.length a n = v) :
   Calls Tryz.prog 161 #[.agg (mach m), .int .u32 a, .int .i64 n, .int .u32 u] W fun e W' => ∃ m', e = .returned (.tuple #[.agg (mach m'), .agg #[.int .i64 k, .int .u32 v]]) ∧ Hid (m'.Ok W') ∧ Hid (m.Up zs m') ∧ Dn W W' := by
 by_cases h : k = 0
 · subst h
   rw [M.atv_yes ek] at ev
   subst ev
   exact store_ok m a n u W hm hs a0 a1 n0 n1 u0 u1 zs ek hz
 · have h2 := M.asv_no (xs := m.xs) (v := u) (by rw [ek]; exact h)
   rw [hz] at h2
   subst h2
   exact store_trap m a n u W hm hs a0 a1 n0 n1 u0 u1 k v ek ev h
set_option maxRecDepth 100000 in
set_option maxHeartbeats 2000000 in
theorem fpend (m : Mc) (W : World) (hm : m.Ok W) :
   Calls Tryz.prog 28 #[.agg (mach m)] W fun e W' => e = .returned (.bool (M.due m.c m.t)) ∧ Dn W W' := by
 have hl := hm.len
 have om := Lib.hid hm
 have C1 := Lib.hid fun w => trapIe m.c w hm.core
 have C2 := Lib.hid fun w => timerCompare m.c w hm.core
 have t0 := hm.t0
 have t1 := hm.t1
 cases hi : M.ien m.c
 · rw [hi] at C1
   have HB : Hid (M.due m.c m.t = false) := Lib.hid (by unfold M.due; rw [hi]; rfl)
   rw [HB.out]
   clear HB hi
   have HD := Lib.hid (Dn.refl W)
   obtain ⟨x0, b_r, hw0, hb0, r, d', nn⟩ := new_blk W 30 (mach m)
   have HL_r : Hid (W.heap.size ≤ b_r) := Lib.hid (by have := HD.out.size; omega)
   clear nn
   replace om := Lib.hid (om.out.dn d')
   replace HD := hT HD d'
   clear d'
   go_enter Tryz.func28, Tryz.ntmps28
   go_wp2_with fail
   rw [← hw0, ← hb0]
   clear hw0 hb0
   have c0 := r.time hl
   have QC1 := Lib.hid (later_of x0 C1.out)
   have QC2 := Lib.hid (later_of x0 C2.out)
   have lc0 := fun d os => cell_regrown c0 d os
   refine wp_region_quiet_below (by kernel_rfl) (by kernel_rfl) ?_
   repeat (first | go_big_quiet_skip | (go_big_quiet_want; first | ((with_reducible refine qop33 r hl ?_ ?_); rfl; simp only [Act.put, tA, tS, tZ]; go_big_quiet_on) | ((with_reducible refine qopCore r hl ?_ ?_); rfl; simp only [Act.put, tA, tS, tZ]; go_big_quiet_on) | ((with_reducible refine qopCsr r hl ?_ ?_); rfl; simp only [Act.put, tA, tS, tZ]; go_big_quiet_on) | (go_big_quiet_op; first | go_big_quiet_on | go_big_quiet_call (first | (with_reducible exact QC1.out _ _) | (with_reducible exact QC2.out _ _)))))
   refine wpQuiet_nil ?_
   intro _ hw'
   obtain ⟨⟨dq, osq⟩, hw''⟩ := hw'
   subst hw''
   have d' := below_regrown x0 dq osq
   clear QC1 QC2 lc0
   replace r := r.dn d'
   replace om := Lib.hid (om.out.dn d')
   replace HD := hT HD d'
   replace c0 := r.time hl
   clear d'
   generalize grow (redrawn x0 dq) osq = w' at r om HD c0 ⊢
   go_wp2
   go_ret
   exact ⟨rfl, HD.out⟩
 · rw [hi] at C1
   have HB : Hid (M.due m.c m.t = decide (M.tcmp m.c ≤ m.t)) := Lib.hid (by unfold M.due; rw [hi]; rfl)
   rw [HB.out]
   clear HB hi
   have HD := Lib.hid (Dn.refl W)
   obtain ⟨x0, b_r, hw0, hb0, r, d', nn⟩ := new_blk W 30 (mach m)
   have HL_r : Hid (W.heap.size ≤ b_r) := Lib.hid (by have := HD.out.size; omega)
   clear nn
   replace om := Lib.hid (om.out.dn d')
   replace HD := hT HD d'
   clear d'
   go_enter Tryz.func28, Tryz.ntmps28
   go_wp2_with fail
   rw [← hw0, ← hb0]
   clear hw0 hb0
   have c0 := r.time hl
   have QC1 := Lib.hid (later_of x0 C1.out)
   have QC2 := Lib.hid (later_of x0 C2.out)
   have lc0 := fun d os => cell_regrown c0 d os
   refine wp_region_quiet_below (by kernel_rfl) (by kernel_rfl) ?_
   repeat (first | go_big_quiet_skip | (go_big_quiet_want; first | ((with_reducible refine qop33 r hl ?_ ?_); rfl; simp only [Act.put, tA, tS, tZ]; go_big_quiet_on) | ((with_reducible refine qopCore r hl ?_ ?_); rfl; simp only [Act.put, tA, tS, tZ]; go_big_quiet_on) | ((with_reducible refine qopCsr r hl ?_ ?_); rfl; simp only [Act.put, tA, tS, tZ]; go_big_quiet_on) | (go_big_quiet_op; first | go_big_quiet_on | go_big_quiet_call (first | (with_reducible exact QC1.out _ _) | (with_reducible exact QC2.out _ _)))))
   refine wpQuiet_nil ?_
   intro _ hw'
   obtain ⟨⟨dq, osq⟩, hw''⟩ := hw'
   subst hw''
   have d' := below_regrown x0 dq osq
   clear QC1 QC2 lc0
   replace r := r.dn d'
   replace om := Lib.hid (om.out.dn d')
   replace HD := hT HD d'
   replace c0 := r.time hl
   clear d'
   generalize grow (redrawn x0 dq) osq = w' at r om HD c0 ⊢
   go_wp2
   go_ret
   exact ⟨rfl, HD.out⟩
end Go.Proofs.YtclpdjpaaagkdaaGreatDoor
namespace Go.Proofs.YtclpdjpaaagkdaaGreatDoor.M
set_option linter.unusedVariables false

theorem getD_set (c : List Int) (i j : Nat) (x : Int) : (c.set i x).getD j 0 = if i = j ∧ j < c.length then x else c.getD j 0 := by
 rw [List.getD_eq_getElem?_getD, List.getElem?_set, List.getD_eq_getElem?_getD]
 by_cases e : i = j
 · subst e
   by_cases h : i < c.length
   · simp [h]
   · simp [h]
 · simp [e]
theorem same_of {c d : List Int} (hl : c.length = d.length) (h : ∀ j : Nat, j < c.length → c.getD j 0 = d.getD j 0) : c = d := by
 apply List.ext_getElem hl
 intro j h1 h2
 have := h j h1
 rwa [List.getD_eq_getElem?_getD, List.getD_eq_getElem?_getD, List.getElem?_eq_getElem h1, List.getElem?_eq_getElem h2] at this

def stored (i : Int) : Bool := decide (0 < i) && decide (i < 16)
theorem stored_iff (i : Int) : stored i = true ↔ 0 < i ∧ i < 16 := by simp [stored]
theorem stored_no (i : Int) : stored i = false ↔ i ≤ 0 ∨ 16 ≤ i := by
 rw [Bool.eq_false_iff, ne_eq, stored_iff]; omega
def reg (c : List Int) (i : Int) : Int := if stored i = true then c.getD i.toNat 0 else 0
def setreg (c : List Int) (i v : Int) : List Int := if stored i = true then c.set i.toNat v else c
theorem reg_in {c : List Int} {i : Int} (h : stored i = true) : reg c i = c.getD i.toNat 0 := by unfold reg; rw [if_pos h]
theorem reg_out {c : List Int} {i : Int} (h : stored i = false) : reg c i = 0 := by unfold reg; rw [h]; rfl
theorem setreg_in {c : List Int} {i v : Int} (h : stored i = true) : setreg c i v = c.set i.toNat v := by unfold setreg; rw [if_pos h]
theorem setreg_out {c : List Int} {i v : Int} (h : stored i = false) : setreg c i v = c := by unfold setreg; rw [h]; rfl
theorem setreg_len (c : List Int) (i v : Int) : (setreg c i v).length = c.length := by unfold setreg; split <;> simp
theorem getD_setreg {c : List Int} (h : c.length = 16) (i v : Int) (j : Nat) : (setreg c i v).getD j 0 = if stored i = true ∧ i = j then v else c.getD j 0 := by
 cases hs : stored i
 · rw [setreg_out hs]; simp
 · have hb := (stored_iff i).1 hs
   rw [setreg_in hs, getD_set]
   by_cases e : i = j
   · rw [if_pos (by omega), if_pos ⟨rfl, e⟩]
   · rw [if_neg (by omega), if_neg (fun h => e h.2)]
end Go.Proofs.YtclpdjpaaagkdaaGreatDoor.M
namespace Go.Proofs.YtclpdjpaaagkdaaGreatDoor.M

structure U (x : Int) : Prop where
 lo : 0 ≤ x
 hi : x < 4294967296

def sg (x : Int) : Int := if x < 2147483648 then x else x - 4294967296
def lt (x y : Int) : Bool := decide (sg x < sg y)
def sh (y : Int) : Nat := (y % 32).toNat
def one (b : Bool) : Int := if b then 1 else 0

def ev (op x y : Int) : Int :=
 if op = 1 then (x + y) % 4294967296
 else if op = 2 then (x - y) % 4294967296
 else if op = 3 then ((x.toNat &&& y.toNat : Nat) : Int)
 else if op = 4 then ((x.toNat ||| y.toNat : Nat) : Int)
 else if op = 5 then ((x.toNat ^^^ y.toNat : Nat) : Int)
 else if op = 6 then one (lt x y)
 else if op = 7 then x * 2 ^ sh y % 4294967296
 else if op = 8 then x / 2 ^ sh y
 else 0

def tk (op x y : Int) : Bool := decide (op = 15 ∧ x = y ∨ op = 16 ∧ x ≠ y) || decide (op = 17) && lt x y

theorem ev1 (x y : Int) : ev 1 x y = (x + y) % 4294967296 := rfl
theorem ev2 (x y : Int) : ev 2 x y = (x - y) % 4294967296 := rfl
theorem ev3 (x y : Int) : ev 3 x y = ((x.toNat &&& y.toNat : Nat) : Int) := rfl
theorem ev4 (x y : Int) : ev 4 x y = ((x.toNat ||| y.toNat : Nat) : Int) := rfl
theorem ev5 (x y : Int) : ev 5 x y = ((x.toNat ^^^ y.toNat : Nat) : Int) := rfl
theorem ev6 (x y : Int) : ev 6 x y = one (lt x y) := rfl
theorem ev7 (x y : Int) : ev 7 x y = x * 2 ^ sh y % 4294967296 := rfl
theorem ev8 (x y : Int) : ev 8 x y = x / 2 ^ sh y := rfl
theorem ev_no (op x y : Int) (h : ¬ (1 ≤ op ∧ op ≤ 8)) : ev op x y = 0 := by
 unfold ev
 rw [if_neg (by omega), if_neg (by omega), if_neg (by omega), if_neg (by omega), if_neg (by omega), if_neg (by omega), if_neg (by omega), if_neg (by omega)]

theorem sh_lt (y : Int) : sh y < 32 := by unfold sh; omega
theorem cast_pow (k : Nat) : ((2 ^ k : Nat) : Int) = (2 : Int) ^ k := by simp
theorem pow_pos (k : Nat) : (0 : Int) < 2 ^ k := by rw [← cast_pow]; have := Nat.two_pow_pos k; omega

theorem one_rng (b : Bool) : 0 ≤ one b ∧ one b ≤ 1 := by cases b <;> decide

theorem U.ev {op x y : Int} (hx : U x) (hy : U y) : U (ev op x y) := by
 obtain ⟨x0, x1⟩ := hx
 obtain ⟨y0, y1⟩ := hy
 unfold M.ev
 split
 · exact ⟨by omega, by omega⟩
 split
 · exact ⟨by omega, by omega⟩
 split
 · have : x.toNat &&& y.toNat < 2 ^ 32 := Nat.and_lt_two_pow _ (by omega)
   exact ⟨by omega, by omega⟩
 split
 · have : x.toNat ||| y.toNat < 2 ^ 32 := Nat.or_lt_two_pow (by omega) (by omega)
   exact ⟨by omega, by omega⟩
 split
 · have : x.toNat ^^^ y.toNat < 2 ^ 32 := Nat.xor_lt_two_pow (by omega) (by omega)
   exact ⟨by omega, by omega⟩
 split
 · have := one_rng (lt x y)
   exact ⟨by omega, by omega⟩
 split
 · exact ⟨by omega, by omega⟩
 split
 · exact ⟨Int.ediv_nonneg x0 (Int.le_of_lt (pow_pos _)), Int.lt_of_le_of_lt (Int.ediv_le_self _ x0) x1⟩
 · exact ⟨by omega, by omega⟩

end Go.Proofs.YtclpdjpaaagkdaaGreatDoor.M
namespace Go.Proofs.YtclpdjpaaagkdaaGreatDoor.M
open Go.RowKit
set_option linter.unusedVariables false

def adv (c : List Int) (d : Int) : List Int := c.set 16 ((pc c + d) % 4294967296)
def nxt (c : List Int) : Int := (pc c + 4) % 4294967296
def iw (imm : Int) : Int := imm % 4294967296
def ea (c : List Int) (ra imm : Int) : Int := (reg c ra + iw imm) % 4294967296
def far (imm : Int) : Int := (4 * iw imm) % 4294967296
structure Res where
 c : List Int
 z : List Int
 k : Int
 v : Int
def exL (c xs : List Int) (rd a n : Int) : Res := if acz c xs.length a n = 0 then ⟨adv (setreg c rd (alv c xs a n)) 4, xs, 0, 0⟩ else ⟨c, xs, acz c xs.length a n, a⟩
def exS (c xs : List Int) (rd a n : Int) : Res := if acz c xs.length a n = 0 then ⟨adv c 4, asv c xs a n (reg c rd), 0, 0⟩ else ⟨c, xs, acz c xs.length a n, a⟩
def ex (c xs : List Int) (op rd ra rb imm : Int) : Res :=
 if 1 ≤ op ∧ op ≤ 8 then ⟨adv (setreg c rd (ev op (reg c ra) (reg c rb))) 4, xs, 0, 0⟩
 else if op = 9 then ⟨adv (setreg c rd (ea c ra imm)) 4, xs, 0, 0⟩
 else if op = 10 then ⟨adv (setreg c rd (iw imm * 16384 % 4294967296)) 4, xs, 0, 0⟩
 else if op = 11 then exL c xs rd (ea c ra imm) 4
 else if op = 12 then exS c xs rd (ea c ra imm) 4
 else if op = 13 then exL c xs rd (ea c ra imm) 1
 else if op = 14 then exS c xs rd (ea c ra imm) 1
 else if 15 ≤ op ∧ op ≤ 17 then ⟨if tk op (reg c rd) (reg c ra) = true then adv c (far imm) else adv c 4, xs, 0, 0⟩
 else if op = 18 then ⟨adv (setreg c rd (nxt c)) (far imm), xs, 0, 0⟩
 else if op = 19 then ⟨(setreg c rd (nxt c)).set 16 (ea c ra imm), xs, 0, 0⟩
 else ⟨c, xs, 5, 0⟩

section
variable (c xs : List Int) (op rd ra rb imm : Int)
theorem ex_alu (h : 1 ≤ op ∧ op ≤ 8) : ex c xs op rd ra rb imm = ⟨adv (setreg c rd (ev op (reg c ra) (reg c rb))) 4, xs, 0, 0⟩ := by unfold ex; rw [if_pos h]
theorem ex_addi : ex c xs 9 rd ra rb imm = ⟨adv (setreg c rd (ea c ra imm)) 4, xs, 0, 0⟩ := rfl
theorem ex_lui : ex c xs 10 rd ra rb imm = ⟨adv (setreg c rd (iw imm * 16384 % 4294967296)) 4, xs, 0, 0⟩ := rfl
theorem ex_lw : ex c xs 11 rd ra rb imm = exL c xs rd (ea c ra imm) 4 := rfl
theorem ex_sw : ex c xs 12 rd ra rb imm = exS c xs rd (ea c ra imm) 4 := rfl
theorem ex_lb : ex c xs 13 rd ra rb imm = exL c xs rd (ea c ra imm) 1 := rfl
theorem ex_sb : ex c xs 14 rd ra rb imm = exS c xs rd (ea c ra imm) 1 := rfl
theorem ex_br (h : 15 ≤ op ∧ op ≤ 17) : ex c xs op rd ra rb imm = ⟨if tk op (reg c rd) (reg c ra) = true then adv c (far imm) else adv c 4, xs, 0, 0⟩ := by
 unfold ex
 rw [if_neg (by omega), if_neg (by omega), if_neg (by omega), if_neg (by omega), if_neg (by omega), if_neg (by omega), if_neg (by omega), if_pos h]
theorem ex_jal : ex c xs 18 rd ra rb imm = ⟨adv (setreg c rd (nxt c)) (far imm), xs, 0, 0⟩ := rfl
theorem ex_jalr : ex c xs 19 rd ra rb imm = ⟨(setreg c rd (nxt c)).set 16 (ea c ra imm), xs, 0, 0⟩ := rfl
theorem ex_ecall : ex c xs 20 rd ra rb imm = ⟨c, xs, 5, 0⟩ := rfl
theorem exL_ok {a n : Int} (h : acz c xs.length a n = 0) : exL c xs rd a n = ⟨adv (setreg c rd (alv c xs a n)) 4, xs, 0, 0⟩ := by unfold exL; rw [if_pos h]
theorem exL_no {a n : Int} (h : acz c xs.length a n ≠ 0) : exL c xs rd a n = ⟨c, xs, acz c xs.length a n, a⟩ := by unfold exL; rw [if_neg h]
theorem exS_ok {a n : Int} (h : acz c xs.length a n = 0) : exS c xs rd a n = ⟨adv c 4, asv c xs a n (reg c rd), 0, 0⟩ := by unfold exS; rw [if_pos h]
theorem exS_no {a n : Int} (h : acz c xs.length a n ≠ 0) : exS c xs rd a n = ⟨c, xs, acz c xs.length a n, a⟩ := by unfold exS; rw [if_neg h]
end

theorem reg_take (c : List Int) (h : c.length = 29) (i : Int) : reg (c.take 16) i = reg c i := by
 unfold reg
 split
 · rename_i hs
   have := (stored_iff i).1 hs
   rw [List.getD_eq_getElem?_getD, List.getD_eq_getElem?_getD, List.getElem?_take, if_pos (by omega)]
 · rfl
theorem setreg_take (c : List Int) (h : c.length = 29) (i v : Int) : setreg (c.take 16) i v ++ c.drop 16 = setreg c i v := by
 unfold setreg
 split
 · rename_i hs
   have := (stored_iff i).1 hs
   apply List.ext_getElem?
   intro j
   rw [List.getElem?_append, List.getElem?_set, List.getElem?_set, List.getElem?_take, List.getElem?_drop, List.length_set, List.length_take]
   split
   · split
     · rename_i h1 h2
       subst h2
       rw [if_pos (by omega), if_pos (by omega)]
     · rename_i h1 h2
       rw [if_pos (by omega)]
   · rw [if_neg (by omega)]
     congr 1; omega
 · simp
theorem Core.setreg {c : List Int} (h : Core c) (i : Int) {x : Int} (hx : 0 ≤ x ∧ x < 4294967296) : Core (M.setreg c i x) := by
 unfold M.setreg
 split
 · exact h.set _ _ hx.1 hx.2
 · exact h
theorem pc_adv {c : List Int} (h : c.length = 29) (d : Int) : (adv c d).getD 16 0 = (pc c + d) % 4294967296 := by
 unfold adv
 rw [getD_set, if_pos ⟨rfl, by omega⟩]
theorem wrap_rng (x : Int) : 0 ≤ x % 4294967296 ∧ x % 4294967296 < 4294967296 := by omega
theorem Core.adv {c : List Int} (h : Core c) (d : Int) : Core (adv c d) := h.set _ _ (wrap_rng _).1 (wrap_rng _).2
theorem reg_rng {c : List Int} (h : Core c) (i : Int) : 0 ≤ reg c i ∧ reg c i < 4294967296 := by
 unfold reg
 split
 · exact h.rng _
 · decide
theorem U_reg {c : List Int} (h : Core c) (i : Int) : U (reg c i) := ⟨(reg_rng h i).1, (reg_rng h i).2⟩
theorem ea_rng (c : List Int) (ra imm : Int) : 0 ≤ ea c ra imm ∧ ea c ra imm < 4294967296 := wrap_rng _
theorem iw_rng (imm : Int) : 0 ≤ iw imm ∧ iw imm < 4294967296 := wrap_rng _
theorem far_rng (imm : Int) : 0 ≤ far imm ∧ far imm < 4294967296 := wrap_rng _
theorem nxt_rng (c : List Int) : 0 ≤ nxt c ∧ nxt c < 4294967296 := wrap_rng _
theorem adv_zero {c : List Int} (h : Core c) : adv c 0 = c := by
 have hp : 0 ≤ pc c ∧ pc c < 4294967296 := h.rng 16
 have hl := h.len
 unfold adv
 rw [Int.add_zero, Int.emod_eq_of_lt hp.1 hp.2]
 apply List.ext_getElem?
 intro i
 rw [List.getElem?_set]
 split
 · rename_i e
   subst e
   rw [if_pos (by omega), List.getElem?_eq_getElem (by omega)]
   unfold pc
   rw [List.getD_eq_getElem?_getD, List.getElem?_eq_getElem (by omega)]
   rfl
 · rfl
end Go.Proofs.YtclpdjpaaagkdaaGreatDoor.M
namespace Go.Proofs.YtclpdjpaaagkdaaGreatDoor
open Go.ChangeShapes Go.WideShapes Go.ChangeAt Go.RowKit Go.Sort
set_option linter.unusedVariables false

def ins (op rd ra rb imm : Int) : Array Value := #[.int .i64 op, .int .i64 rd, .int .i64 ra, .int .i64 rb, .int .i32 imm]
def prg (m : Mc) (op rd ra rb imm x y z : Int) : Array Value := mach m ++ #[.int .i64 op, .int .i64 rd, .int .i64 ra, .int .i64 rb, .int .i32 imm, .int .u32 x, .int .u32 y, .int .u32 z]
theorem NoU8.ins (op rd ra rb imm : Int) : NoU8 (ins op rd ra rb imm) := by
 intro i x h
 have h1 := Array.mem_of_getElem? h
 simp [Go.Proofs.YtclpdjpaaagkdaaGreatDoor.ins] at h1
theorem z29 : (zeros 29).length = 29 := rfl
theorem z16 : (zeros 16).length = 16 := rfl
theorem infoI : (Tryz.prog.info? 63).map (·.size) = some 5 := by kernel_rfl
theorem zeroTrap : (Tryz.prog.info? 46).map (fun i => (i.zero, i.size)) = some (some (.agg #[.int .i64 0, .int .u32 0]), (#[.int .i64 0, .int .u32 0] : Array Value).size) := by kernel_rfl
theorem zeroMach : (Tryz.prog.info? 30).map (fun i => (i.zero, i.size)) = some (some (.agg (mach Mc.zero)), (mach Mc.zero).size) := by kernel_rfl
section
variable {m : Mc} {op rd ra rb imm x y z : Int} (hl : m.c.length = 29)
include hl
theorem prg_mach : (prg m op rd ra rb imm x y z).extract 0 (0 + 33) = mach m := by
 unfold prg
 have e : (0 + 33) = (mach m).size := by rw [mach_size hl]
 rw [e]
 simp
theorem prg_core : (prg m op rd ra rb imm x y z).extract 0 (0 + 29) = ints .u32 m.c := by
 rw [← mach_core hl]
 unfold prg
 rw [Array.extract_append]
 simp [mach_size hl]
theorem prg_tail {i : Nat} (hi : i < 8) : (prg m op rd ra rb imm x y z)[33 + i]? = (#[.int .i64 op, .int .i64 rd, .int .i64 ra, .int .i64 rb, .int .i32 imm, .int .u32 x, .int .u32 y, .int .u32 z] : Array Value)[i]? := by
 unfold prg
 rw [Array.getElem?_append, mach_size hl, if_neg (by omega), Nat.add_sub_cancel_left]
theorem mach_regs : (mach m).extract 0 (0 + 16) = ints .u32 (m.c.take 16) := by
 apply Array.toList_inj.1
 simp [mach, ints, List.map_take]
 omega
end

section
variable {w : World} {b : Nat} {m : Mc} {op rd ra rb imm x y z : Int} {t : TypeId}
theorem Blk.prd (g : Blk w b t (prg m op rd ra rb imm x y z)) (hl : m.c.length = 29) : w.cell? ⟨b, 34, none⟩ = some (.int .i64 rd) := g.cell (prg_tail hl (i := 1) (by decide))
theorem Blk.pimm (g : Blk w b t (prg m op rd ra rb imm x y z)) (hl : m.c.length = 29) : w.cell? ⟨b, 37, none⟩ = some (.int .i32 imm) := g.cell (prg_tail hl (i := 4) (by decide))
theorem Blk.iop (g : Blk w b t (ins op rd ra rb imm)) : w.cell? ⟨b, 0, none⟩ = some (.int .i64 op) := g.cell rfl
theorem Blk.ird (g : Blk w b t (ins op rd ra rb imm)) : w.cell? ⟨b, 1, none⟩ = some (.int .i64 rd) := g.cell rfl
theorem Blk.ira (g : Blk w b t (ins op rd ra rb imm)) : w.cell? ⟨b, 2, none⟩ = some (.int .i64 ra) := g.cell rfl
theorem Blk.irb (g : Blk w b t (ins op rd ra rb imm)) : w.cell? ⟨b, 3, none⟩ = some (.int .i64 rb) := g.cell rfl
theorem Blk.iimm (g : Blk w b t (ins op rd ra rb imm)) : w.cell? ⟨b, 4, none⟩ = some (.int .i32 imm) := g.cell rfl
end

section
variable {ops : Array Oper} {rest : List Oper} {dst : Option Tmp} {x y : Operand} {ty : TypeId} {pos : String} {aft : Array Edge} {gd : Option (Nat × Bool)} {a : Act} {w : World} {Q : Exit → Act → World → Prop} {b : Nat} {m : Mc} {op rd ra rb imm u v z : Int}
theorem loadI (r : Blk w b 63 (ins op rd ra rb imm)) (hw : Region.wanted ⟨dst, .load 63 x, ty, pos, aft, gd⟩ (yielded ops a.tmps) = true) (hx : a.eval x = .pointer (some ⟨b, 0, none⟩))
   (h : wpList Tryz.prog ops Q rest (a.put dst (.agg (ins op rd ra rb imm))) w) : wpList Tryz.prog ops Q (⟨dst, .load 63 x, ty, pos, aft, gd⟩ :: rest) a w :=
 wpList_load_whole r Tryz.underlying63 rfl infoI hw hx h
theorem loadPc (r : Blk w b 127 (prg m op rd ra rb imm u v z)) (hl : m.c.length = 29) (hw : Region.wanted ⟨dst, .load 26 x, ty, pos, aft, gd⟩ (yielded ops a.tmps) = true) (hx : a.eval x = .pointer (some ⟨b, 0, none⟩))
   (h : wpList Tryz.prog ops Q rest (a.put dst (.agg (ints .u32 m.c))) w) : wpList Tryz.prog ops Q (⟨dst, .load 26 x, ty, pos, aft, gd⟩ :: rest) a w :=
 wpList_load_cut r 0 29 (prg_core hl) (by rw [ints_size, hl]) Tryz.underlying26 rfl info29 hw hx h
theorem loadRegs (r : Blk w b 30 (mach m)) (hl : m.c.length = 29) (hw : Region.wanted ⟨dst, .load 23 x, ty, pos, aft, gd⟩ (yielded ops a.tmps) = true) (hx : a.eval x = .pointer (some ⟨b, 0, none⟩))
   (h : wpList Tryz.prog ops Q rest (a.put dst (.agg (ints .u32 (m.c.take 16)))) w) : wpList Tryz.prog ops Q (⟨dst, .load 23 x, ty, pos, aft, gd⟩ :: rest) a w :=
 wpList_load_cut r 0 16 (mach_regs hl) (by rw [ints_size, List.length_take, hl]; rfl) Tryz.underlying23 rfl info16 hw hx h
theorem lay_core (hl : m.c.length = 29) (c : List Int) (hc : c.length = 29) : lay (mach m) 0 (ints .u32 c) = mach { m with c := c } := by
 apply Array.toList_inj.1
 simp [lay, mach, ints, hl, hc]
theorem lay_regs (hl : m.c.length = 29) (e : List Int) (he : e.length = 16) : lay (mach m) 0 (ints .u32 e) = mach { m with c := e ++ m.c.drop 16 } := by
 apply Array.toList_inj.1
 simp [lay, mach, ints, he, List.map_drop]
 rw [List.drop_append_of_le_length (by simp; omega)]
theorem storeCore (c : List Int) (hc : c.length = 29) (r : Blk w b 30 (mach m)) (hl : m.c.length = 29)
   (hw : Region.wanted ⟨none, .store 26 x y, ty, pos, aft, gd⟩ (yielded ops a.tmps) = true) (hx : a.eval x = .pointer (some ⟨b, 0, none⟩)) (hy : a.eval y = .agg (ints .u32 c))
   (h : ∀ w', Blk w' b 30 (mach { m with c := c }) → Trn b w w' → wpList Tryz.prog ops Q rest a w') : wpList Tryz.prog ops Q (⟨none, .store 26 x y, ty, pos, aft, gd⟩ :: rest) a w := by
 refine wpList_store_at 0 (.agg (ints .u32 c)) r (by simp only [Value.cells, ints_size, hc]; exact info29) (by simp only [Value.cells, ints_size, hc, mach_size hl]; omega) (ints_one _ c) hw hx hy fun w' r' t' => h w' ?_ t'
 rwa [show lay (mach m) 0 (Value.agg (ints .u32 c)).cells = _ from lay_core hl c hc] at r'
theorem storeRegs (e : List Int) (he : e.length = 16) (r : Blk w b 30 (mach m)) (hl : m.c.length = 29)
   (hw : Region.wanted ⟨none, .store 23 x y, ty, pos, aft, gd⟩ (yielded ops a.tmps) = true) (hx : a.eval x = .pointer (some ⟨b, 0, none⟩)) (hy : a.eval y = .agg (ints .u32 e))
   (h : ∀ w', Blk w' b 30 (mach { m with c := e ++ m.c.drop 16 }) → Trn b w w' → wpList Tryz.prog ops Q rest a w') : wpList Tryz.prog ops Q (⟨none, .store 23 x y, ty, pos, aft, gd⟩ :: rest) a w := by
 refine wpList_store_at 0 (.agg (ints .u32 e)) r (by simp only [Value.cells, ints_size, he]; exact info16) (by simp only [Value.cells, ints_size, he, mach_size hl]; omega) (ints_one _ e) hw hx hy fun w' r' t' => h w' ?_ t'
 rwa [show lay (mach m) 0 (Value.agg (ints .u32 e)).cells = _ from lay_regs hl e he] at r'
theorem restore16x {c : List Int} (d : List Int) (hd : d.length = 16) (r : Row w b 23 .u32 c) (hc : c.length = 16)
   (hw : Region.wanted ⟨none, .store 23 x y, ty, pos, aft, gd⟩ (yielded ops a.tmps) = true) (hx : a.eval x = .pointer (some ⟨b, 0, none⟩)) (hy : a.eval y = .agg (ints .u32 d))
   (h : ∀ w', Row w' b 23 .u32 d → Trn b w w' → wpList Tryz.prog ops Q rest a w') : wpList Tryz.prog ops Q (⟨none, .store 23 x y, ty, pos, aft, gd⟩ :: rest) a w :=
 wpList_store_whole (ints .u32 d) r.blk (info_16 d hd) (by rw [ints_size, ints_size, hc, hd]) (ints_one _ d) hw hx hy h
end

section
variable {ops : Array Oper} {rest : List Oper} {dst : Option Tmp} {x : Operand} {ty : TypeId} {pos : String} {aft : Array Edge} {gd : Option (Nat × Bool)} {a : Act} {w : World} {Q : Act → Prop} {b : Nat} {c : List Int}
theorem stillCregs (r : Blk w b 26 (ints .u32 c)) (hl : c.length = 29) (hw : Region.wanted ⟨dst, .load 23 x, ty, pos, aft, gd⟩ (yielded ops a.tmps) = true) (hx : a.eval x = .pointer (some ⟨b, 0, none⟩))
   (h : wpStill Tryz.prog ops w Q rest (a.put dst (.agg (ints .u32 (c.take 16))))) : wpStill Tryz.prog ops w Q (⟨dst, .load 23 x, ty, pos, aft, gd⟩ :: rest) a :=
 still_cut r 0 16 (by rw [part_ints]; rfl) (by rw [ints_size, List.length_take, hl]; rfl) Tryz.underlying23 rfl info16 hw hx h
end
section
variable {P : Program} {k : IntKind}
theorem run_load1 {s : TypeId} {b o : Nat} {v : Value} {k : IntKind} (hs : P.underlying s = some (.int k)) (u : World) (h : u.cell? ⟨b, o, none⟩ = some v) : (loadVar s ⟨b, o, none⟩).run P u = .ok v u := by
 simp [loadVar, isAgg, run_underlying hs, go_sem, h]
end
section
variable {ops : Array Oper} {dst : Option Tmp} {x y : Operand} {ty : TypeId} {pos : String} {aft : Array Edge} {gd : Option (Nat × Bool)} {a : Act} {w0 : World} {b : Nat} {m : Mc} {op rd ra rb imm u v z : Int} {bs : List Nat}
theorem calx33 (r : Blk w0 b 30 (mach m)) (hl : m.c.length = 29) (hn : b ∉ bs) (hw : Region.wanted ⟨dst, .load 30 x, ty, pos, aft, gd⟩ (yielded ops a.tmps) = true) (hx : a.eval x = .pointer (some ⟨b, 0, none⟩)) :
   Calx Tryz.prog ops bs w0 ⟨dst, .load 30 x, ty, pos, aft, gd⟩ (.agg (mach m)) a := calx_cut r hn 0 33 (by rw [← mach_size hl]; simp) (mach_size hl) Tryz.underlying30 rfl info33 hw hx
theorem calxPm (r : Blk w0 b 127 (prg m op rd ra rb imm u v z)) (hl : m.c.length = 29) (hn : b ∉ bs) (hw : Region.wanted ⟨dst, .load 30 x, ty, pos, aft, gd⟩ (yielded ops a.tmps) = true) (hx : a.eval x = .pointer (some ⟨b, 0, none⟩)) :
   Calx Tryz.prog ops bs w0 ⟨dst, .load 30 x, ty, pos, aft, gd⟩ (.agg (mach m)) a := calx_cut r hn 0 33 (prg_mach hl) (mach_size hl) Tryz.underlying30 rfl info33 hw hx
theorem calxTrap {k : Int} (r : Blk w0 b 46 #[.int .i64 k, .int .u32 v]) (hn : b ∉ bs) (hw : Region.wanted ⟨dst, .load 46 x, ty, pos, aft, gd⟩ (yielded ops a.tmps) = true) (hx : a.eval x = .pointer (some ⟨b, 0, none⟩)) :
   Calx Tryz.prog ops bs w0 ⟨dst, .load 46 x, ty, pos, aft, gd⟩ (.agg #[.int .i64 k, .int .u32 v]) a := calx_cut r hn 0 2 (by simp) rfl Tryz.underlying46 rfl infoTrap hw hx
theorem calxI (r : Blk w0 b 63 (ins op rd ra rb imm)) (hn : b ∉ bs) (hw : Region.wanted ⟨dst, .load 63 x, ty, pos, aft, gd⟩ (yielded ops a.tmps) = true) (hx : a.eval x = .pointer (some ⟨b, 0, none⟩)) :
   Calx Tryz.prog ops bs w0 ⟨dst, .load 63 x, ty, pos, aft, gd⟩ (.agg (ins op rd ra rb imm)) a := calx_cut r hn 0 5 (by simp [ins]) rfl Tryz.underlying63 rfl infoI hw hx
theorem calx16 {c : List Int} (r : Blk w0 b 23 (ints .u32 c)) (hl : c.length = 16) (hn : b ∉ bs) (hw : Region.wanted ⟨dst, .load 23 x, ty, pos, aft, gd⟩ (yielded ops a.tmps) = true) (hx : a.eval x = .pointer (some ⟨b, 0, none⟩)) :
   Calx Tryz.prog ops bs w0 ⟨dst, .load 23 x, ty, pos, aft, gd⟩ (.agg (ints .u32 c)) a := calx_cut r hn 0 16 (by rw [show 0 + 16 = (ints .u32 c).size by rw [ints_size, hl]]; simp) (by rw [ints_size, hl]) Tryz.underlying23 rfl info16 hw hx
theorem calxInt {t s : TypeId} {cs : Array Value} {v : Value} {k : IntKind} {i : Nat} (r : Blk w0 b t cs) (hn : b ∉ bs) (hs : Tryz.prog.underlying s = some (.int k)) (hw : Region.wanted ⟨dst, .load s x, ty, pos, aft, gd⟩ (yielded ops a.tmps) = true) (hx : a.eval x = .pointer (some ⟨b, i, none⟩)) (hv : cs[i]? = some v) :
   Calx Tryz.prog ops bs w0 ⟨dst, .load s x, ty, pos, aft, gd⟩ v a := calx_cell r hn i hv (fun u h => run_load1 hs u h) hw hx
end

theorem zeroCore : (Tryz.prog.info? 26).map (fun i => (i.zero, i.size)) = some (some (.agg (ints .u32 (zeros 29))), (ints .u32 (zeros 29)).size) := by kernel_rfl
theorem zeroR : (Tryz.prog.info? 23).map (fun i => (i.zero, i.size)) = some (some (.agg (ints .u32 (zeros 16))), (ints .u32 (zeros 16)).size) := by kernel_rfl
theorem take16 {c : List Int} (h : c.length = 29) : (c.take 16).length = 16 := by rw [List.length_take, h]; rfl
theorem drop17 {c : List Int} (h : c.length = 29) : (c.drop 17).length = 12 := by rw [List.length_drop, h]
section
variable {P : Program}
theorem run_loadB {s : TypeId} {b o : Nat} {v : Value} (hs : P.underlying s = some .bool) (u : World) (h : u.cell? ⟨b, o, none⟩ = some v) : (loadVar s ⟨b, o, none⟩).run P u = .ok v u := by
 simp [loadVar, isAgg, run_underlying hs, go_sem, h]
theorem run_loadS {s e : TypeId} {b o : Nat} {v : Value} (hs : P.underlying s = some (.slice e)) (u : World) (h : u.cell? ⟨b, o, none⟩ = some v) : (loadVar s ⟨b, o, none⟩).run P u = .ok v u := by
 simp [loadVar, isAgg, run_underlying hs, go_sem, h]
end
section
variable {ops : Array Oper} {dst : Option Tmp} {x y : Operand} {ty : TypeId} {pos : String} {aft : Array Edge} {gd : Option (Nat × Bool)} {a : Act} {w0 : World} {b : Nat} {m : Mc} {bs : List Nat}
theorem calxSlice {t s e : TypeId} {cs : Array Value} {v : Value} {i : Nat} (r : Blk w0 b t cs) (hn : b ∉ bs) (hs : Tryz.prog.underlying s = some (.slice e)) (hw : Region.wanted ⟨dst, .load s x, ty, pos, aft, gd⟩ (yielded ops a.tmps) = true) (hx : a.eval x = .pointer (some ⟨b, i, none⟩)) (hv : cs[i]? = some v) :
   Calx Tryz.prog ops bs w0 ⟨dst, .load s x, ty, pos, aft, gd⟩ v a := calx_cell r hn i hv (fun u h => run_loadS hs u h) hw hx
theorem calxRegs (r : Blk w0 b 30 (mach m)) (hl : m.c.length = 29) (hn : b ∉ bs) (hw : Region.wanted ⟨dst, .load 23 x, ty, pos, aft, gd⟩ (yielded ops a.tmps) = true) (hx : a.eval x = .pointer (some ⟨b, 0, none⟩)) :
   Calx Tryz.prog ops bs w0 ⟨dst, .load 23 x, ty, pos, aft, gd⟩ (.agg (ints .u32 (m.c.take 16))) a := calx_cut r hn 0 16 (mach_regs hl) (by rw [ints_size, List.length_take, hl]; rfl) Tryz.underlying23 rfl info16 hw hx
theorem calxCsr (r : Blk w0 b 30 (mach m)) (hl : m.c.length = 29) (hn : b ∉ bs) (hw : Region.wanted ⟨dst, .load 24 x, ty, pos, aft, gd⟩ (yielded ops a.tmps) = true) (hx : a.eval x = .pointer (some ⟨b, 17, none⟩)) :
   Calx Tryz.prog ops bs w0 ⟨dst, .load 24 x, ty, pos, aft, gd⟩ (.agg (ints .u32 (m.c.drop 17))) a := calx_cut r hn 17 12 (mach_csr hl) (by rw [ints_size, List.length_drop, hl]) Tryz.underlying24 rfl info12 hw hx
end
theorem field_pc {c : List Int} (hl : c.length = 29) (w : World) : (Instr.field 26 (.agg (ints .u32 c)) 1).run Tryz.prog w = .ok (.int .u32 (c.getD 16 0)) w := by
 have p2 := run_part_int (P := Tryz.prog) (k := .u32) Tryz.underlying22 c 16 (by omega) w
 have hf : (Tryz.prog.fieldsOf 26)[1]?.map (fun f => (f.type, f.offset)) = some (22, 16) := by kernel_rfl
 unfold Instr.field
 rw [Sem.run_bind, run_underlying core_fields w]
 simp only [Result.andThen_ok]
 cases hq : (Tryz.prog.fieldsOf 26)[1]? with
 | none => rw [hq] at hf; cases hf
 | some f =>
   rw [hq] at hf
   simp only [Option.map_some, Option.some.injEq, Prod.mk.injEq] at hf
   simp [hf.1, hf.2, asAgg, p2]
theorem retB {P : Program} {fn : Func} {p : Tmp} {act : Act} {w : World} {b : Nat} {t : TypeId} {cs : Array Value} {d : TypeDesc} {Post : Ending → World → Prop} (h : fn.results = #[.cell p t]) (hp : act.tmps.getD p undef = .pointer (some ⟨b, 0, none⟩)) (g : Blk w b t cs)
   (hu : P.underlying t = some d) (hd : d.isRow = true) (hi : (P.info? t).map (·.size) = some cs.size) (K : Post (.returned (.agg cs)) w) (hf : act.defers = []) : bodyPost P fn Post .ret act w :=
 bodyPost_ret (results_cell_row h _ _ b t _ (0, 0) _ hp g hu (by cases d <;> simp_all) hi) hf K
theorem retM {fn : Func} {p : Tmp} {act : Act} {w : World} {b : Nat} {m : Mc} {Post : Ending → World → Prop} (h : fn.results = #[.cell p 30]) (hp : act.tmps.getD p undef = .pointer (some ⟨b, 0, none⟩)) (g : Blk w b 30 (mach m)) (hl : m.c.length = 29)
   (K : Post (.returned (.agg (mach m))) w) (hd : act.defers = []) : bodyPost Tryz.prog fn Post .ret act w := by
 have hp' : act.tmps[p]?.getD undef = .pointer (some ⟨b, 0, none⟩) := by simpa using hp
 have hl1 := run_loadVar_row (P := Tryz.prog) w b 30 30 _ (0, 0) _ g Tryz.underlying30 rfl (info_mach hl)
 refine bodyPost_ret ?_ hd K
 simp [results, h, hp', asAddr, hl1]

theorem isStored (i : Int) (W : World) : Calls Tryz.prog 140 #[.int .i64 i] W fun e W' => e = .returned (.bool (M.stored i)) ∧ W = W' := by
 by_cases h0 : 0 < i
 · have HE : Hid (M.stored i = decide (i < 16)) := Lib.hid (by simp [M.stored, h0])
   go_enter Tryz.func140, Tryz.ntmps140
   go_wp2
   go_ret
   exact ⟨ret_bool HE.out.symm, rfl⟩
 · have HE : Hid (M.stored i = false) := Lib.hid (by simp [M.stored, h0])
   go_enter Tryz.func140, Tryz.ntmps140
   go_wp2
   go_ret
   exact ⟨ret_bool HE.out.symm, rfl⟩

theorem regGet (c : List Int) (i : Int) (W : World) (hl : c.length = 16) :
   Calls Tryz.prog 113 #[.agg (ints .u32 c), .int .i64 i] W fun e W' => e = .returned (.int .u32 (M.reg c i)) ∧ Dn W W' := by
 have hd := (Dn.refl W).alloc (.cells (ints .u32 c) 23)
 cases he : M.stored i
 · have HE : Hid (M.reg c i = 0) := Lib.hid (M.reg_out he)
   go_enter Tryz.func113, Tryz.ntmps113
   go_wp2_with (go_at_call 140; refine (isStored _ _).mono ?_; rintro e w' ⟨rfl, rfl⟩)
   go_ret
   exact ⟨ret_int HE.out.symm, hd⟩
 · have hb := (M.stored_iff i).1 he
   have HE : Hid (M.reg c i = c.getD i.toNat 0) := Lib.hid (M.reg_in he)
   have kc : (W.alloc (.cells (ints .u32 c) 23)).cell? ⟨W.heap.size, i.toNat, none⟩ = some (.int .u32 (c.getD i.toNat 0)) := (Row.new W 23 .u32 c).cell i.toNat (by omega)
   generalize c.getD i.toNat 0 = z at HE kc
   go_enter Tryz.func113, Tryz.ntmps113
   go_wp2_with (go_at_call 140; refine (isStored _ _).mono ?_; rintro e w' ⟨rfl, rfl⟩)
   go_ret
   exact ⟨ret_int HE.out.symm, hd⟩

theorem regSet (c : List Int) (i v : Int) (W : World) (hl : c.length = 16) :
   Calls Tryz.prog 136 #[.agg (ints .u32 c), .int .i64 i, .int .u32 v] W fun e W' => e = .returned (.agg (ints .u32 (M.setreg c i v))) ∧ Dn W W' := by
 have hd := (Dn.refl W).alloc (.cells (ints .u32 c) 23)
 cases he : M.stored i
 · have HE : Hid (M.setreg c i v = c) := Lib.hid (M.setreg_out he)
   go_enter Tryz.func136, Tryz.ntmps136
   go_wp2_with (first
     | (go_at_call 140; refine (isStored _ _).mono ?_; rintro e w' ⟨rfl, rfl⟩)
     | ((with_reducible refine alloc16 (b := W.heap.size + 1) (size_alloc _ _) ?_ ?_); rfl)
     | ((with_reducible refine load16 ((Row.new W 23 .u32 c).dn ((Dn.refl _).alloc _)) hl ?_ ?_ ?_); rfl; rfl)
     | ((with_reducible refine store16 (b := W.heap.size + 1) c hl zsize16 ?_ ?_ ?_ (size_alloc _ _).symm ?_); rfl; rfl; rfl))
   exact ret16 Tryz.results136 rfl (Row.second _ _ _ _ c) hl ⟨by rw [HE.out], hd.alloc _⟩ rfl
 · have hb := (M.stored_iff i).1 he
   have kg := ints_get .u32 c i.toNat (by omega)
   have e2 : (ints .u32 c).setIfInBounds i.toNat (.int .u32 v) = ints .u32 (M.setreg c i v) := by rw [ints_set, M.setreg_in he]
   have hl2 : (M.setreg c i v).length = 16 := (M.setreg_len c i v).trans hl
   have fr : ∀ Z, ((W.alloc (.cells (ints .u32 c) 23)).alloc Z).frozen? ⟨W.heap.size, i.toNat, none⟩ = false := fun Z => ((Row.new W 23 .u32 c).dn ((Dn.refl _).alloc Z)).fr i.toNat
   have kc : ∀ Z, ((W.alloc (.cells (ints .u32 c) 23)).alloc Z).cell? ⟨W.heap.size, i.toNat, none⟩ = some (.int .u32 (c.getD i.toNat 0)) := fun Z => ((Row.new W 23 .u32 c).dn ((Dn.refl _).alloc Z)).cell i.toNat (by omega)
   go_enter Tryz.func136, Tryz.ntmps136
   go_wp2_with (first
     | (go_at_call 140; refine (isStored _ _).mono ?_; rintro e w' ⟨rfl, rfl⟩)
     | ((with_reducible refine alloc16 (b := W.heap.size + 1) (size_alloc _ _) ?_ ?_); rfl)
     | ((with_reducible refine load16 ((Row.new W 23 .u32 (M.setreg c i v)).dn ((Dn.refl _).alloc _)) hl2 ?_ ?_ ?_); rfl; rfl)
     | ((with_reducible refine store16 (b := W.heap.size + 1) (M.setreg c i v) hl2 zsize16 ?_ ?_ ?_ (size_alloc _ _).symm ?_); rfl; rfl; rfl))
   exact ret16 Tryz.results136 rfl (Row.second _ _ _ _ _) hl2 ⟨rfl, ((Dn.refl W).alloc _).alloc _⟩ rfl

end Go.Proofs.YtclpdjpaaagkdaaGreatDoor
