/-
  Contracts over the translated program and the plain facts behind them, of the texts: TrapLaws, C4Math, C4Laws, C4Calls, C4Refs, Rb, ExMath2, TrapDo, TrapRefs, PvMath, PvBase. Conditions: those that stand in each theorem.
-/
import Derived.WalkKit
import Derived.Deep.QuietTactic
import Derived.BigQuiet
import Derived.Deep.AppendSrc
import Derived.Test.YtclpdjpaaagkdaaGreatDoorPmB
import Derived.Test.YtclpdjpaaagkdaaGreatDoorPmA
import Derived.Test.YtclpdjpaaagkdaaGreatDoorPmF
namespace Go.Proofs.YtclpdjpaaagkdaaGreatDoor.M
set_option linter.unusedVariables false

theorem goTo_at {c : List Int} (h : Core c) (p s : Int) (j : Nat) : (goTo c p s).getD j 0 = if j = 16 then p else if j = 17 then s else c.getD j 0 := by
 unfold goTo
 have hl := h.len
 rw [getD_set, getD_set, List.length_set, hl]
 by_cases h16 : j = 16
 · subst h16; simp
 · by_cases h17 : j = 17
   · subst h17; simp
   · rw [if_neg (by omega), if_neg (by omega), if_neg h16, if_neg h17]
theorem enter_at {c : List Int} (h : Core c) {k v : Int} (hk : k ≠ 0) (v0 : 0 ≤ v) (v1 : v < 4294967296) (j : Nat) : (enter c k v).getD j 0 = if j = 16 then csr c 4 else if j = 17 then ent (csr c 0) else if j = 18 then pc c else if j = 19 then k % 4294967296 else if j = 20 then v else c.getD j 0 := by
 have hl := h.len
 have h3 : Core (((c.set 18 (pc c)).set 19 (k % 4294967296)).set 20 v) := ((h.set 18 _ h.pc.1 h.pc.2).set 19 _ (by omega) (by omega)).set 20 v v0 v1
 unfold enter
 rw [if_neg hk, goTo_at h3, getD_set, getD_set, getD_set, List.length_set, List.length_set, hl]
 by_cases h16 : j = 16
 · subst h16; simp
 by_cases h17 : j = 17
 · subst h17; simp
 rw [if_neg h16, if_neg h17, if_neg h16, if_neg h17]
 by_cases h18 : j = 18
 · subst h18; simp
 by_cases h19 : j = 19
 · subst h19; simp
 by_cases h20 : j = 20
 · subst h20; simp
 rw [if_neg (by omega), if_neg (by omega), if_neg (by omega), if_neg h18, if_neg h19, if_neg h20]
theorem ent_facts (s : Int) : ent s / 16 = s / 16 ∧ ent s % 2 = 1 ∧ ent s / 2 % 2 = 0 ∧ ent s / 4 % 2 = s % 2 ∧ ent s / 8 % 2 = s / 2 % 2 := by
 obtain ⟨q, d3, d2, d1, d0, h3, h2, h1, h0, e, eq, e3, e2, e1, e0⟩ := bt_bits s
 unfold ent
 rw [← eq, ← e1, ← e0]
 clear e eq e3 e2 e1 e0
 omega
theorem sup_def (c : List Int) : sup c = decide (csr c 0 % 2 = 1) := by rw [sup_bt]; unfold bt; rw [Int.ediv_one]
theorem en_csr {c : List Int} (h : Core c) {k v : Int} (hk : k ≠ 0) (v0 : 0 ≤ v) (v1 : v < 4294967296) (i : Nat) : csr (enter c k v) i = if i = 0 then ent (csr c 0) else if i = 1 then pc c else if i = 2 then k % 4294967296 else if i = 3 then v else csr c i := by
 have e : csr (enter c k v) i = (enter c k v).getD (17 + i) 0 := rfl
 rw [e, enter_at h hk v0 v1, if_neg (by omega)]
 by_cases h0 : i = 0
 · subst h0; rfl
 by_cases h1 : i = 1
 · subst h1; rfl
 by_cases h2 : i = 2
 · subst h2; rfl
 by_cases h3 : i = 3
 · subst h3; rfl
 rw [if_neg (by omega), if_neg (by omega), if_neg (by omega), if_neg (by omega), if_neg h0, if_neg h1, if_neg h2, if_neg h3]
 rfl
theorem en_sup {c : List Int} (h : Core c) {k v : Int} (hk : k ≠ 0) (v0 : 0 ≤ v) (v1 : v < 4294967296) : sup (enter c k v) = true := by
 rw [sup_def, en_csr h hk v0 v1, if_pos rfl, (ent_facts _).2.1]; rfl
end Go.Proofs.YtclpdjpaaagkdaaGreatDoor.M
namespace Go.Proofs.YtclpdjpaaagkdaaGreatDoor.Cs.M
open Go.RowKit

def at_ (c : List Int) (i : Int) : Int := c.getD i.toNat 0

def maskL : List Int := [14, 4294967292, 4294967295, 4294967295, 4294967292, 4294967292, 4294967295, 0, 0, 4294967295, 4294967295, 4294967295]
def ex (n : Int) : Bool := decide (0 ≤ n) && decide (n < 12)
def mask (n : Int) : Int := if ex n = true then maskL.getD n.toNat 0 else 0
def mix (o m v : Int) : Int := (((o.toNat &&& (4294967295 - m.toNat)) ||| (v.toNat &&& m.toNat) : Nat) : Int)
def rd (c : List Int) (time n : Int) : Int := if n = 7 then time % 4294967296 else if n = 8 then time / 4294967296 else if ex n = true then at_ c n else 0
def wr (c : List Int) (n v : Int) : List Int := if ex n = true then c.set n.toNat (mix (at_ c n) (mask n) v) else c
structure Ok (c : List Int) : Prop where
 len : c.length = 12
 rng : ∀ i : Int, 0 ≤ at_ c i ∧ at_ c i < 4294967296

theorem ex_iff (n : Int) : ex n = true ↔ 0 ≤ n ∧ n < 12 := by unfold ex; simp
theorem ex_no (n : Int) : ex n = false ↔ n < 0 ∨ 12 ≤ n := by
 unfold ex
 by_cases h0 : 0 ≤ n <;> by_cases h1 : n < 12 <;> simp [h0, h1] <;> omega

theorem mask_rng (n : Int) : 0 ≤ mask n ∧ mask n < 4294967296 := by
 unfold mask
 split
 · have h : ∀ x ∈ maskL, 0 ≤ x ∧ x < 4294967296 := by unfold maskL; simp
   rw [List.getD_eq_getElem?_getD]
   cases hx : maskL[n.toNat]? with
   | none => simp
   | some x => exact h x (List.mem_of_getElem? hx)
 · decide

theorem and_lt {a b k : Nat} (h : b < 2 ^ k) : a &&& b < 2 ^ k := Nat.and_lt_two_pow a h
theorem mix_rng (o m v : Int) (h0 : 0 ≤ m) (h : m < 4294967296) : 0 ≤ mix o m v ∧ mix o m v < 4294967296 := by
 unfold mix
 have h1 : o.toNat &&& (4294967295 - m.toNat) < 2 ^ 32 := and_lt (by omega)
 have h2 : v.toNat &&& m.toNat < 2 ^ 32 := and_lt (by omega)
 have h3 := Nat.or_lt_two_pow h1 h2
 omega

theorem wr_ok {c : List Int} (h : Ok c) (n v : Int) : Ok (wr c n v) := by
 unfold wr
 split
 · rename_i he
   have hb := (ex_iff n).1 he
   refine ⟨by rw [List.length_set]; exact h.len, fun i => ?_⟩
   have hm := mask_rng n
   have hx := mix_rng (at_ c n) (mask n) v hm.1 hm.2
   have hr := h.rng i
   unfold at_ at hr ⊢
   rw [List.getD_eq_getElem?_getD] at hr ⊢
   rw [List.getElem?_set]
   split
   · split
     · exact hx
     · simp
   · exact hr
 · exact h

theorem rd_rng {c : List Int} (h : Ok c) (time n : Int) (h0 : 0 ≤ time) (h1 : time < 18446744073709551616) : 0 ≤ rd c time n ∧ rd c time n < 4294967296 := by
 unfold rd
 split
 · omega
 · split
   · omega
   · split
     · exact h.rng n
     · omega

theorem mix_eq (o m v : Int) (o0 : 0 ≤ o) (o1 : o < 4294967296) (m0 : 0 ≤ m) (m1 : m < 4294967296) (v0 : 0 ≤ v) (v1 : v < 4294967296) :
   bits .or .u32 (bits .andNot .u32 o m) (bits .and .u32 v m) = mix o m v := by
 obtain ⟨o, rfl⟩ := Int.eq_ofNat_of_zero_le o0
 obtain ⟨m, rfl⟩ := Int.eq_ofNat_of_zero_le m0
 obtain ⟨v, rfl⟩ := Int.eq_ofNat_of_zero_le v0
 rw [u32_andNot_nat _ _ (by omega) (by omega), u32_and_nat _ _ (by omega) (by omega), u32_or_nat _ _ (Nat.lt_of_le_of_lt Nat.and_le_left (by omega)) (Nat.lt_of_le_of_lt Nat.and_le_left (by omega))]
 rfl

end Go.Proofs.YtclpdjpaaagkdaaGreatDoor.Cs.M
namespace Go.Proofs.YtclpdjpaaagkdaaGreatDoor.Cs.M
open Go.RowKit

theorem bit_mix (o m v : Nat) (hm : m < 4294967296) (i : Nat) (hi : i < 32) : ((o &&& (4294967295 - m)) ||| (v &&& m)).testBit i = if m.testBit i then v.testBit i else o.testBit i := by
 have e : 4294967295 - m = 2 ^ 32 - (m + 1) := by omega
 rw [Nat.testBit_or, Nat.testBit_and, Nat.testBit_and, e, Nat.testBit_two_pow_sub_succ (by omega)]
 cases m.testBit i <;> simp [hi]

theorem mix_bit (o m v : Int) (m0 : 0 ≤ m) (m1 : m < 4294967296) (i : Nat) (hi : i < 32) : (mix o m v).toNat.testBit i = if m.toNat.testBit i then v.toNat.testBit i else o.toNat.testBit i := by
 unfold mix
 rw [Int.toNat_natCast, bit_mix _ _ _ (by omega) i hi]

theorem wr_no (c : List Int) (n v : Int) (hn : ex n = false) : wr c n v = c := by unfold wr; rw [hn]; rfl

end Go.Proofs.YtclpdjpaaagkdaaGreatDoor.Cs.M
namespace Go.Proofs.YtclpdjpaaagkdaaGreatDoor.Cs
open Go.ChangeShapes Go.WideShapes Go.ChangeAt Go.RowKit Go.Sort
set_option linter.unusedVariables false

structure CsrTabs (W : World) : Prop where
 masks : ∃ t fr, W.heap[(2 : Nat)]? = some (.cells (ints .u32 M.maskL) t fr)
theorem CsrTabs.dn {W W' : World} (h : CsrTabs W) (k : Dn W W') : CsrTabs W' :=
 ⟨h.masks.imp fun _ ⟨fr, e⟩ => ⟨fr, (k.block _ (Array.getElem?_eq_some_iff.1 e).1).trans e⟩⟩

theorem exists_ (n : Int) (W : World) : Calls Tryz.prog 154 #[.int .i64 n] W fun e W' => e = .returned (.bool (M.ex n)) ∧ W = W' := by
 by_cases h0 : 0 ≤ n
 · have HE : Hid (M.ex n = decide (n < 12)) := Lib.hid (by simp [M.ex, h0])
   go_enter Tryz.func154, Tryz.ntmps154
   go_wp2
   go_ret
   exact ⟨ret_bool HE.out.symm, rfl⟩
 · have HE : Hid (M.ex n = false) := Lib.hid (by simp [M.ex, h0])
   go_enter Tryz.func154, Tryz.ntmps154
   go_wp2
   go_ret
   exact ⟨ret_bool HE.out.symm, rfl⟩

theorem read (c : List Int) (time n : Int) (W : World) (hl : c.length = 12) (h0 : 0 ≤ time) (h1 : time < 18446744073709551616) :
   Calls Tryz.prog 135 #[.agg (ints .u32 c), .int .u64 time, .int .i64 n] W fun e W' => e = .returned (.int .u32 (M.rd c time n)) ∧ Dn W W' := by
 have hd := (Dn.refl W).alloc (.cells (ints .u32 c) 24)
 cases he : M.ex n
 · have hb := (M.ex_no n).1 he
   have HE : Hid (M.rd c time n = 0) := Lib.hid (by unfold M.rd; rw [if_neg (by omega), if_neg (by omega), he]; rfl)
   go_enter Tryz.func135, Tryz.ntmps135
   go_wp2_with (go_at_call 154; refine (exists_ _ _).mono ?_; rintro e w' ⟨rfl, rfl⟩)
   go_ret
   exact ⟨ret_int HE.out.symm, hd⟩
 have hb := (M.ex_iff n).1 he
 by_cases a3 : n = 7
 · have HE : Hid (M.rd c time n = time % 4294967296) := Lib.hid (by unfold M.rd; rw [if_pos a3])
   go_enter Tryz.func135, Tryz.ntmps135
   go_wp2_with (go_at_call 154; refine (exists_ _ _).mono ?_; rintro e w' ⟨rfl, rfl⟩)
   go_ret
   exact ⟨ret_int HE.out.symm, hd⟩
 by_cases a4 : n = 8
 · have HE : Hid (M.rd c time n = time / 4294967296) := Lib.hid (by unfold M.rd; rw [if_neg a3, if_pos a4])
   go_enter Tryz.func135, Tryz.ntmps135
   go_wp2_with (go_at_call 154; refine (exists_ _ _).mono ?_; rintro e w' ⟨rfl, rfl⟩)
   go_ret
   exact ⟨ret_int HE.out.symm, hd⟩
 have HE : Hid (M.rd c time n = M.at_ c n) := Lib.hid (by unfold M.rd; rw [if_neg a3, if_neg a4, if_pos he])
 have kc : (W.alloc (.cells (ints .u32 c) 24)).cell? ⟨W.heap.size, n.toNat, none⟩ = some (.int .u32 (M.at_ c n)) := (Row.new W 24 .u32 c).cell n.toNat (by omega)
 go_enter Tryz.func135, Tryz.ntmps135
 go_wp2_with (go_at_call 154; refine (exists_ _ _).mono ?_; rintro e w' ⟨rfl, rfl⟩)
 go_ret
 exact ⟨ret_int HE.out.symm, hd⟩

theorem mask_cell {W : World} (T : CsrTabs W) (n : Int) (he : M.ex n = true) : W.cell? ⟨2, n.toNat, none⟩ = some (.int .u32 (M.mask n)) := by
 have hb := (M.ex_iff n).1 he
 obtain ⟨t, fr, h⟩ := T.masks
 rw [cell_of_row W _ _ _ _ _ h, ints_get _ _ _ (show n.toNat < 12 by omega)]
 unfold M.mask; rw [if_pos he]
theorem writeMask (n : Int) (W : World) (T : CsrTabs W) :
   Calls Tryz.prog 155 #[.int .i64 n] W fun e W' => e = .returned (.int .u32 (M.mask n)) ∧ W = W' := by
 cases he : M.ex n
 · have HE : Hid (M.mask n = 0) := Lib.hid (by unfold M.mask; rw [he]; rfl)
   go_enter Tryz.func155, Tryz.ntmps155
   go_wp2_with (go_at_call 154; refine (exists_ _ _).mono ?_; rintro e w' ⟨rfl, rfl⟩)
   go_ret
   exact ⟨ret_int HE.out.symm, rfl⟩
 · have hb := (M.ex_iff n).1 he
   have kc := mask_cell T n he
   go_enter Tryz.func155, Tryz.ntmps155
   go_wp2_with (go_at_call 154; refine (exists_ _ _).mono ?_; rintro e w' ⟨rfl, rfl⟩)
   go_ret
   exact ⟨rfl, rfl⟩

theorem info12 : (Tryz.prog.info? 24).map (·.size) = some 12 := by kernel_rfl

theorem info_ints (c : List Int) (h : c.length = 12) : (Tryz.prog.info? 24).map (·.size) = some (ints .u32 c).size := by rw [ints_size, h]; exact info12

section
variable {ops : Array Oper} {rest : List Oper} {dst : Option Tmp} {x y : Operand} {ty : TypeId} {pos : String} {aft : Array Edge} {gd : Option (Nat × Bool)} {a : Act} {w : World} {Q : Exit → Act → World → Prop} {b : Nat} {c : List Int}
theorem load12 (r : Row w b 24 .u32 c) (hl : c.length = 12) (hw : Region.wanted ⟨dst, .load 24 x, ty, pos, aft, gd⟩ (yielded ops a.tmps) = true) (hx : a.eval x = .pointer (some ⟨b, 0, none⟩))
   (h : wpList Tryz.prog ops Q rest (a.put dst (.agg (ints .u32 c))) w) : wpList Tryz.prog ops Q (⟨dst, .load 24 x, ty, pos, aft, gd⟩ :: rest) a w :=
 wpList_load_blk r Tryz.underlying24 (info_ints c hl) hw hx h
theorem store12 (d : List Int) (hl : d.length = 12) (hw : Region.wanted ⟨none, .store 24 x y, ty, pos, aft, gd⟩ (yielded ops a.tmps) = true) (hx : a.eval x = .pointer (some ⟨b, 0, none⟩)) (hy : a.eval y = .agg (ints .u32 d)) (hb : b = w.heap.size)
   (h : wpList Tryz.prog ops Q rest a (w.alloc (.cells (ints .u32 d) 24))) :
   wpList Tryz.prog ops Q (⟨none, .store 24 x y, ty, pos, aft, gd⟩ :: rest) a (w.alloc (.cells #[.int .u32 0, .int .u32 0, .int .u32 0, .int .u32 0, .int .u32 0, .int .u32 0, .int .u32 0, .int .u32 0, .int .u32 0, .int .u32 0, .int .u32 0, .int .u32 0] 24)) :=
 wpList_store_last (info_ints d hl) (by rw [ints_size, hl]; rfl) (ints_one _ d) hw hx hy hb h
end
theorem size_alloc (w : World) (o : Obj) : (w.alloc o).heap.size = w.heap.size + 1 := by simp

theorem Row.next (w : World) (o : Obj) (c : List Int) : Row ((w.alloc o).alloc (.cells (ints .u32 c) 24)) (w.heap.size + 1) 24 .u32 c := by
 have h := Row.new (w.alloc o) 24 .u32 c
 rwa [size_alloc] at h
theorem ret12 {fn : Func} {p : Tmp} {act : Act} {w : World} {b : Nat} {c : List Int} {Post : Ending → World → Prop} (h : fn.results = #[.cell p 24]) (hp : act.tmps.getD p undef = .pointer (some ⟨b, 0, none⟩)) (r : Row w b 24 .u32 c) (hl : c.length = 12)
   (k : Post (.returned (.agg (ints .u32 c))) w) (hd : act.defers = []) : bodyPost Tryz.prog fn Post .ret act w :=
 bodyPost_ret (results_cell_row h _ _ b 24 _ (0, 0) _ hp r Tryz.underlying24 rfl (info_ints c hl)) hd k

theorem write (c : List Int) (n v : Int) (W : World) (T : CsrTabs W) (hc : M.Ok c) (h0 : 0 ≤ v) (h1 : v < 4294967296) :
   Calls Tryz.prog 137 #[.agg (ints .u32 c), .int .i64 n, .int .u32 v] W fun e W' => e = .returned (.agg (ints .u32 (M.wr c n v))) ∧ Dn W W' := by
 have hl := hc.len
 have hd := (Dn.refl W).alloc (.cells (ints .u32 c) 24)
 cases he : M.ex n
 · have HE : Hid (M.wr c n v = c) := Lib.hid (by unfold M.wr; rw [he]; rfl)
   go_enter Tryz.func137, Tryz.ntmps137
   go_wp2_with (first
     | (go_at_call 154; refine (exists_ _ _).mono ?_; rintro e w' ⟨rfl, rfl⟩)
     | ((with_reducible refine load12 ((Row.new W 24 .u32 c).dn ((Dn.refl _).alloc _)) hl ?_ ?_ ?_); rfl; rfl)
     | ((with_reducible refine store12 (b := W.heap.size + 1) c hl ?_ ?_ ?_ (size_alloc _ _).symm ?_); rfl; rfl; rfl))
   exact ret12 Tryz.results137 rfl (Row.next _ _ c) hl ⟨by rw [HE.out], hd.alloc _⟩ rfl
 · have hb := (M.ex_iff n).1 he
   have kc : ∀ Z, ((W.alloc (.cells (ints .u32 c) 24)).alloc Z).cell? ⟨W.heap.size, n.toNat, none⟩ = some (.int .u32 (M.at_ c n)) := fun Z => ((Row.new W 24 .u32 c).dn ((Dn.refl _).alloc Z)).cell n.toNat (by omega)
   have fr : ∀ Z, ((W.alloc (.cells (ints .u32 c) 24)).alloc Z).frozen? ⟨W.heap.size, n.toNat, none⟩ = false := fun Z => ((Row.new W 24 .u32 c).dn ((Dn.refl _).alloc Z)).fr n.toNat
   have hm := M.mask_rng n
   have hr := hc.rng n
   have e1 := M.mix_eq (M.at_ c n) (M.mask n) v hr.1 hr.2 hm.1 hm.2 h0 h1
   have e2 : (ints .u32 c).setIfInBounds n.toNat (.int .u32 (M.mix (M.at_ c n) (M.mask n) v)) = ints .u32 (M.wr c n v) := by rw [ints_set]; unfold M.wr; rw [if_pos he]
   have hl2 := (M.wr_ok hc n v).len
   go_enter Tryz.func137, Tryz.ntmps137
   go_wp2_with (first
     | (go_at_call 154; refine (exists_ _ _).mono ?_; rintro e w' ⟨rfl, rfl⟩)
     | (go_at_call 155; refine (writeMask _ _ (T.dn (hd.alloc _))).mono ?_; rintro e w' ⟨rfl, rfl⟩)
     | ((with_reducible refine load12 ((Row.new W 24 .u32 (M.wr c n v)).dn ((Dn.refl _).alloc _)) hl2 ?_ ?_ ?_); rfl; rfl)
     | ((with_reducible refine store12 (b := W.heap.size + 1) (M.wr c n v) hl2 ?_ ?_ ?_ (size_alloc _ _).symm ?_); rfl; rfl; rfl))
   exact ret12 Tryz.results137 rfl (Row.next _ _ _) hl2 ⟨rfl, ((Dn.refl W).alloc _).alloc _⟩ rfl

end Go.Proofs.YtclpdjpaaagkdaaGreatDoor.Cs
namespace Go.Proofs.YtclpdjpaaagkdaaGreatDoor.Cs
open Go.ChangeShapes Go.WideShapes Go.ChangeAt Go.RowKit Go.Sort
set_option linter.unusedVariables false

theorem twelve (n : Int) (h : M.ex n = true) : n = 0 ∨ n = 1 ∨ n = 2 ∨ n = 3 ∨ n = 4 ∨ n = 5 ∨ n = 6 ∨ n = 7 ∨ n = 8 ∨ n = 9 ∨ n = 10 ∨ n = 11 := by
 have := (M.ex_iff n).1 h
 omega

def wb (n i : Int) : Bool := if n = 0 then decide (1 ≤ i) && decide (i ≤ 3) else if n = 1 ∨ n = 4 ∨ n = 5 then decide (2 ≤ i) else if n = 2 ∨ n = 3 ∨ n = 6 ∨ n = 9 ∨ n = 10 ∨ n = 11 then true else false
theorem mask_bit (n : Int) (i : Nat) (hi : i < 32) : (M.mask n).toNat.testBit i = wb n i := by
 cases he : M.ex n
 · have hb := (M.ex_no n).1 he
   have : M.mask n = 0 := by unfold M.mask; rw [he]; rfl
   rw [this]
   unfold wb
   rw [if_neg (by omega), if_neg (by omega), if_neg (by omega)]
   simp
 · revert i
   rcases twelve n he with rfl | rfl | rfl | rfl | rfl | rfl | rfl | rfl | rfl | rfl | rfl | rfl <;> decide

set_option maxHeartbeats 400000 in
theorem writable (n i : Int) (W : World) : Calls Tryz.prog 75 #[.int .i64 n, .int .i64 i] W fun e W' => e = .returned (.bool (wb n i)) ∧ W = W' := by
 cases he : M.ex n
 · have hb := (M.ex_no n).1 he
   have HE : Hid (wb n i = false) := Lib.hid (by unfold wb; rw [if_neg (by omega), if_neg (by omega), if_neg (by omega)])
   have e0 : (n == 0) = false := by simp; omega
   have e1 : (n == 1) = false := by simp; omega
   have e2 : (n == 2) = false := by simp; omega
   have e3 : (n == 3) = false := by simp; omega
   have e4 : (n == 4) = false := by simp; omega
   have e5 : (n == 5) = false := by simp; omega
   have e6 : (n == 6) = false := by simp; omega
   have e9 : (n == 9) = false := by simp; omega
   have e10 : (n == 10) = false := by simp; omega
   have e11 : (n == 11) = false := by simp; omega
   clear hb
   go_enter Tryz.func75, Tryz.ntmps75
   go_wp2
   go_ret
   exact ⟨ret_bool HE.out.symm, rfl⟩
 · rcases twelve n he with rfl | rfl | rfl | rfl | rfl | rfl | rfl | rfl | rfl | rfl | rfl | rfl
   case inl =>
     by_cases h : 1 ≤ i
     · have HE : Hid (wb 0 i = decide (i ≤ 3)) := Lib.hid (by unfold wb; simp [h])
       go_enter Tryz.func75, Tryz.ntmps75
       go_wp2
       go_ret
       exact ⟨ret_bool HE.out.symm, rfl⟩
     · have HE : Hid (wb 0 i = false) := Lib.hid (by unfold wb; simp [h])
       go_enter Tryz.func75, Tryz.ntmps75
       go_wp2
       go_ret
       exact ⟨ret_bool HE.out.symm, rfl⟩
   all_goals
     go_enter Tryz.func75, Tryz.ntmps75
     go_wp2
     go_ret
     exact ⟨rfl, rfl⟩

theorem refRead (c : List Int) (time n : Int) (W : World) (hl : c.length = 12) (h0 : 0 ≤ time) (h1 : time < 18446744073709551616) :
   Calls Tryz.prog 52 #[.agg (ints .u32 c), .int .u64 time, .int .i64 n] W fun e W' => e = .returned (.int .u32 (M.rd c time n)) ∧ Dn W W' := by
 have hd := (Dn.refl W).alloc (.cells (ints .u32 c) 24)
 by_cases a3 : n = 7
 · have HE : Hid (M.rd c time n = time % 4294967296) := Lib.hid (by unfold M.rd; rw [if_pos a3])
   go_enter Tryz.func52, Tryz.ntmps52
   go_wp2
   go_ret
   exact ⟨ret_int HE.out.symm, hd⟩
 by_cases a4 : n = 8
 · have HE : Hid (M.rd c time n = time / 4294967296) := Lib.hid (by unfold M.rd; rw [if_neg a3, if_pos a4])
   go_enter Tryz.func52, Tryz.ntmps52
   go_wp2
   go_ret
   exact ⟨ret_int HE.out.symm, hd⟩
 have b3 : (n == 7) = false := by simpa using a3
 have b4 : (n == 8) = false := by simpa using a4
 cases he : M.ex n
 · have HE : Hid (M.rd c time n = 0) := Lib.hid (by unfold M.rd; rw [if_neg (by omega), if_neg (by omega), he]; rfl)
   rcases (M.ex_no n).1 he with h | h
   · have h1 : decide (n < 0) = true := by simpa using h
     go_enter Tryz.func52, Tryz.ntmps52
     go_wp2
     go_ret
     exact ⟨ret_int HE.out.symm, hd⟩
   · have h1 : decide (n < 0) = false := by simp; omega
     have h2 : decide (11 < n) = true := by simp; omega
     go_enter Tryz.func52, Tryz.ntmps52
     go_wp2
     go_ret
     exact ⟨ret_int HE.out.symm, hd⟩
 have hb := (M.ex_iff n).1 he
 have HE : Hid (M.rd c time n = M.at_ c n) := Lib.hid (by unfold M.rd; rw [if_neg a3, if_neg a4, if_pos he])
 have kc : (W.alloc (.cells (ints .u32 c) 24)).cell? ⟨W.heap.size, n.toNat, none⟩ = some (.int .u32 (M.at_ c n)) := (Row.new W 24 .u32 c).cell n.toNat (by omega)
 have h1 : decide (n < 0) = false := by simp; omega
 have h2 : decide (11 < n) = false := by simp; omega
 go_enter Tryz.func52, Tryz.ntmps52
 go_wp2
 go_ret
 exact ⟨ret_int HE.out.symm, hd⟩

theorem bit_more (x k : Nat) : x % 2 ^ (k + 1) = x % 2 ^ k + (if x.testBit k = true then 2 ^ k else 0) := by
 rw [Nat.pow_succ, Nat.mod_mul, Nat.testBit_eq_decide_div_mod_eq]
 have : x / 2 ^ k % 2 < 2 := Nat.mod_lt _ (by decide)
 by_cases h : x / 2 ^ k % 2 = 1
 · simp [h]
 · have h0 : x / 2 ^ k % 2 = 0 := by omega
   simp [h0]
theorem pow_half (k : Nat) (hk : k < 32) : 2 ^ k ≤ 2147483648 := Nat.pow_le_pow_right (n := 2) (by decide) (show k ≤ 31 by omega)

def WrRel (W : World) (X : Nat) (o p i b : Value) (w : World) : Prop := ∃ (k a q : Nat), k ≤ 32 ∧ i = .int .i64 k ∧ o = .int .u32 a ∧ p = .int .u32 q ∧ a = X % 2 ^ k ∧ q = 2 ^ k % 4294967296 ∧ w = W

theorem bit_of (x : Int) (k : Nat) (h0 : 0 ≤ x) : x / ((2 ^ k : Nat) : Int) % 2 = if x.toNat.testBit k = true then 1 else 0 := by
 obtain ⟨x, rfl⟩ := Int.eq_ofNat_of_zero_le h0
 rw [Int.toNat_natCast, Nat.testBit_eq_decide_div_mod_eq, ← Int.natCast_ediv, show ((x / 2 ^ k : Nat) : Int) % 2 = ((x / 2 ^ k % 2 : Nat) : Int) from rfl]
 have : x / 2 ^ k % 2 < 2 := Nat.mod_lt _ (by decide)
 by_cases h : x / 2 ^ k % 2 = 1
 · simp [h]
 · have h2 : x / 2 ^ k % 2 = 0 := by omega
   simp [h2]

theorem tmod_bit (x : Int) (k : Nat) (h0 : 0 ≤ x) : (x / ((2 ^ k : Nat) : Int)).tmod 2 = if x.toNat.testBit k = true then 1 else 0 := by
 rw [Int.tmod_eq_emod_of_nonneg (Int.ediv_nonneg h0 (Int.natCast_nonneg _)), bit_of x k h0]

set_option maxHeartbeats 1000000 in
theorem refWrite_in (c : List Int) (n v : Int) (W : World) (hc : M.Ok c) (h0 : 0 ≤ v) (h1 : v < 4294967296) (he : M.ex n = true) :
   Calls Tryz.prog 53 #[.agg (ints .u32 c), .int .i64 n, .int .u32 v] W fun e W' => e = .returned (.agg (ints .u32 (M.wr c n v))) ∧ Dn W W' := by
 have hl := hc.len
 have hb := (M.ex_iff n).1 he
 have g1 : decide (n < 0) = false := by simp; omega
 have g2 : decide (11 < n) = false := by simp; omega
 have hd := ((Dn.refl W).alloc (.cells (ints .u32 c) 24))
 have rc := Row.new W 24 .u32 c
 have hm := M.mask_rng n
 have ho := hc.rng n
 have hx := M.mix_rng (M.at_ c n) (M.mask n) v hm.1 hm.2
 have HX : Hid (∀ k : Nat, k < 32 → (M.mix (M.at_ c n) (M.mask n) v).toNat.testBit k = if wb n k = true then v.toNat.testBit k else (M.at_ c n).toNat.testBit k) := Lib.hid (fun k hk => by rw [M.mix_bit _ _ _ hm.1 hm.2 k hk, mask_bit n k hk])
 obtain ⟨X, hX⟩ : ∃ X, X = (M.mix (M.at_ c n) (M.mask n) v).toNat := ⟨_, rfl⟩
 rw [← hX] at HX
 go_enter Tryz.func53, Tryz.ntmps53
 go_wp2_with fail
 have hc0 : ((W.alloc (.cells (ints .u32 c) 24)).alloc (.cells #[.int .u32 0, .int .u32 0, .int .u32 0, .int .u32 0, .int .u32 0, .int .u32 0, .int .u32 0, .int .u32 0, .int .u32 0, .int .u32 0, .int .u32 0, .int .u32 0] 24)).cell? ⟨W.heap.size, n.toNat, none⟩ = some (.int .u32 (M.at_ c n)) := (rc.dn ((Dn.refl _).alloc _)).cell n.toNat (by omega)
 obtain ⟨w0, hw0⟩ : ∃ w0, w0 = (W.alloc (.cells (ints .u32 c) 24)).alloc (.cells #[.int .u32 0, .int .u32 0, .int .u32 0, .int .u32 0, .int .u32 0, .int .u32 0, .int .u32 0, .int .u32 0, .int .u32 0, .int .u32 0, .int .u32 0, .int .u32 0] 24) := ⟨_, rfl⟩
 rw [← hw0] at hc0 ⊢
 have HW0 := Lib.hid hw0
 have HXX := Lib.hid hX
 clear hw0 hX
 go_loopw [7, 8, 9, 10] (fun o p i b w => WrRel w0 X o p i b w) (fun _ _ i _ _ => 32 - (intOf i).toNat)
 case atStart => exact ⟨0, 0, 1, by decide, rfl, rfl, rfl, by simp [Nat.mod_one], rfl, rfl⟩
 case round =>
   obtain ⟨k, a, q, hk, rfl, rfl, rfl, ha, hq, rfl⟩ := hrel
   have HA := Lib.hid ha
   have HQ := Lib.hid hq
   clear ha hq
   by_cases hlt : k < 32
   · have hlt2 : (k : Int) < 32 := by omega
     have hp := pow_half k hlt
     have hpos := Nat.two_pow_pos k
     have hq2 : q = 2 ^ k := by rw [HQ.out]; exact Nat.mod_eq_of_lt (by omega)
     have ha2 : a < q := by rw [HA.out, hq2]; exact Nat.mod_lt _ hpos
     have hq3 : q ≤ 2147483648 := by omega
     have hq0 : 0 < q := by omega
     have hq4 : ((q : Int) == 0) = false := by simp; omega
     have HM := Lib.hid (bit_more X k)
     have hbit := HX.out k hlt
     have b1 := tmod_bit (M.at_ c n) k ho.1
     have b2 := tmod_bit v k h0
     rw [← hq2] at b1 b2
     rw [← HA.out, ← hq2] at HM
     have HP : Hid (2 ^ (k + 1) = q * 2) := Lib.hid (by rw [Nat.pow_succ, hq2])
     clear hq2 hpos hp
     cases hw : wb n k
     · rw [hw] at hbit
       simp only [Bool.false_eq_true, if_false] at hbit
       clear b2
       cases hz : (M.at_ c n).toNat.testBit k
       · rw [hz] at hbit b1
         have HBIT := Lib.hid hbit
         simp only [Bool.false_eq_true, if_false] at b1
         clear hbit
         go_wp2_with fail
         refine (writable _ _ _).mono ?_
         rintro e w ⟨rfl, rfl⟩
         go_wp2
         go_roundw
         case rel => exact ⟨k + 1, a, q * 2 % 4294967296, by omega, by go_num, by first | rfl | (congr 1; omega) | go_num, by first | (congr 1; omega) | go_num, by rw [HM.out, HBIT.out]; rfl, by rw [HP.out], rfl⟩
         case measure => simp [intOf]; omega
       · rw [hz] at hbit b1
         have HBIT := Lib.hid hbit
         simp only [if_true] at b1
         clear hbit
         go_wp2_with fail
         refine (writable _ _ _).mono ?_
         rintro e w ⟨rfl, rfl⟩
         go_wp2
         go_roundw
         case rel => exact ⟨k + 1, a + q, q * 2 % 4294967296, by omega, by go_num, by first | rfl | (congr 1; omega) | go_num, by first | (congr 1; omega) | go_num, by rw [HM.out, HBIT.out]; rfl, by rw [HP.out], rfl⟩
         case measure => simp [intOf]; omega
     · rw [hw] at hbit
       simp only [if_true] at hbit
       clear b1
       cases hz : v.toNat.testBit k
       · rw [hz] at hbit b2
         have HBIT := Lib.hid hbit
         simp only [Bool.false_eq_true, if_false] at b2
         clear hbit
         go_wp2_with fail
         refine (writable _ _ _).mono ?_
         rintro e w ⟨rfl, rfl⟩
         go_wp2
         go_roundw
         case rel => exact ⟨k + 1, a, q * 2 % 4294967296, by omega, by go_num, by first | rfl | (congr 1; omega) | go_num, by first | (congr 1; omega) | go_num, by rw [HM.out, HBIT.out]; rfl, by rw [HP.out], rfl⟩
         case measure => simp [intOf]; omega
       · rw [hz] at hbit b2
         have HBIT := Lib.hid hbit
         simp only [if_true] at b2
         clear hbit
         go_wp2_with fail
         refine (writable _ _ _).mono ?_
         rintro e w ⟨rfl, rfl⟩
         go_wp2
         go_roundw
         case rel => exact ⟨k + 1, a + q, q * 2 % 4294967296, by omega, by go_num, by first | rfl | (congr 1; omega) | go_num, by first | (congr 1; omega) | go_num, by rw [HM.out, HBIT.out]; rfl, by rw [HP.out], rfl⟩
         case measure => simp [intOf]; omega
   · obtain rfl : k = 32 := by omega
     have e : (a : Int) = M.mix (M.at_ c n) (M.mask n) v := by rw [HA.out]; have := HXX.out; rw [Nat.mod_eq_of_lt (by omega)]; omega
     have hw := HW0.out
     subst hw
     have kc : ∀ Z, ((W.alloc (.cells (ints .u32 c) 24)).alloc Z).cell? ⟨W.heap.size, n.toNat, none⟩ = some (.int .u32 (M.at_ c n)) := fun Z => ((Row.new W 24 .u32 c).dn ((Dn.refl _).alloc Z)).cell n.toNat (by omega)
     have fr : ∀ Z, ((W.alloc (.cells (ints .u32 c) 24)).alloc Z).frozen? ⟨W.heap.size, n.toNat, none⟩ = false := fun Z => ((Row.new W 24 .u32 c).dn ((Dn.refl _).alloc Z)).fr n.toNat
     have e2 : (ints .u32 c).setIfInBounds n.toNat (.int .u32 (M.mix (M.at_ c n) (M.mask n) v)) = ints .u32 (M.wr c n v) := by rw [ints_set]; unfold M.wr; rw [if_pos he]
     have hl2 := (M.wr_ok hc n v).len
     go_wp2_with (first
       | ((with_reducible refine load12 ((Row.new W 24 .u32 (M.wr c n v)).dn ((Dn.refl _).alloc _)) hl2 ?_ ?_ ?_); rfl; rfl)
       | ((with_reducible refine store12 (b := W.heap.size + 1) (M.wr c n v) hl2 ?_ ?_ ?_ (size_alloc _ _).symm ?_); rfl; rfl; rfl))
     exact ret12 Tryz.results53 rfl (Row.next _ _ _) hl2 ⟨rfl, ((Dn.refl W).alloc _).alloc _⟩ rfl

theorem refWrite (c : List Int) (n v : Int) (W : World) (hc : M.Ok c) (h0 : 0 ≤ v) (h1 : v < 4294967296) :
   Calls Tryz.prog 53 #[.agg (ints .u32 c), .int .i64 n, .int .u32 v] W fun e W' => e = .returned (.agg (ints .u32 (M.wr c n v))) ∧ Dn W W' := by
 have hl := hc.len
 cases he : M.ex n
 · have HE : Hid (M.wr c n v = c) := Lib.hid (M.wr_no c n v he)
   have hd := (Dn.refl W).alloc (.cells (ints .u32 c) 24)
   rcases (M.ex_no n).1 he with h | h
   · have h1 : decide (n < 0) = true := by simpa using h
     go_enter Tryz.func53, Tryz.ntmps53
     go_wp2_with (first
       | ((with_reducible refine load12 ((Row.new W 24 .u32 c).dn ((Dn.refl _).alloc _)) hl ?_ ?_ ?_); rfl; rfl)
       | ((with_reducible refine store12 (b := W.heap.size + 1) c hl ?_ ?_ ?_ (size_alloc _ _).symm ?_); rfl; rfl; rfl))
     exact ret12 Tryz.results53 rfl (Row.next _ _ c) hl ⟨by rw [HE.out], hd.alloc _⟩ rfl
   · have h1 : decide (n < 0) = false := by simp; omega
     have h2 : decide (11 < n) = true := by simp; omega
     go_enter Tryz.func53, Tryz.ntmps53
     go_wp2_with (first
       | ((with_reducible refine load12 ((Row.new W 24 .u32 c).dn ((Dn.refl _).alloc _)) hl ?_ ?_ ?_); rfl; rfl)
       | ((with_reducible refine store12 (b := W.heap.size + 1) c hl ?_ ?_ ?_ (size_alloc _ _).symm ?_); rfl; rfl; rfl))
     exact ret12 Tryz.results53 rfl (Row.next _ _ c) hl ⟨by rw [HE.out], hd.alloc _⟩ rfl
 · exact refWrite_in c n v W hc h0 h1 he

end Go.Proofs.YtclpdjpaaagkdaaGreatDoor.Cs
namespace Go.Proofs.YtclpdjpaaagkdaaGreatDoor.Rb
open Go.ChangeShapes Go.WideShapes Go.ChangeAt Go.RowKit
set_option linter.unusedVariables false

theorem pow_step (k : Nat) (hk : k < 32) : IntKind.u64.wrap ((2 : Int) ^ k * 2) = 2 ^ (k + 1) := by
 rw [IntKind.wrap_u64, Int.pow_succ]
 have h : (2 : Nat) ^ k ≤ 2 ^ 32 := Nat.pow_le_pow_right (by decide) (by omega)
 have h2 : ((2 ^ k : Nat) : Int) = (2 : Int) ^ k := M.cast_pow k
 have h3 := Nat.two_pow_pos k
 omega

set_option maxHeartbeats 400000 in
theorem pow (n : Int) (W : World) (hn0 : 0 ≤ n) (hn : n ≤ 32) :
   Calls Tryz.prog 59 #[.int .i64 n] W fun e W' => e = .returned (.int .u64 (2 ^ n.toNat)) ∧ W = W' := by
 go_enter Tryz.func59, Tryz.ntmps59
 go_wp2
 go_loop [3, 4] (fun p i => ∃ k : Nat, k ≤ n.toNat ∧ i = .int .i64 k ∧ p = .int .u64 (2 ^ k)) (fun _ i => n.toNat - (intOf i).toNat)
 case atStart => exact ⟨0, by omega, rfl, rfl⟩
 case round =>
   obtain ⟨k, hk, rfl, rfl⟩ := hrel
   by_cases hlt : (k : Int) < n
   · have HS := Lib.hid (pow_step k (by omega))
     go_wp2
     go_round
     case rel => exact ⟨k + 1, by omega, by go_num, by rw [HS.out]⟩
     case measure => simp [intOf]; omega
   · obtain rfl : n = k := by omega
     go_wp2
     go_ret
     exact ⟨rfl, rfl⟩

theorem pow_q (n : Int) (W : World) (hn0 : 0 ≤ n) (hn : n ≤ 32) :
   Calls Tryz.prog 59 #[.int .i64 n] W fun e W' => e = .returned (.int .u64 (2 ^ n.toNat)) ∧ W' = W :=
 (pow n W hn0 hn).mono fun _ _ ⟨he, hw⟩ => ⟨he, hw.symm⟩

theorem field_eq (w a n : Int) (hx0 : 0 ≤ w) (hx : w < 4294967296) (hn : n ≤ 32) :
   (IntKind.u64.wrap (w.tdiv (2 ^ a.toNat))).tmod (2 ^ n.toNat) % 4294967296 = M.E w a n := by
 have h1 : 0 ≤ w / 2 ^ a.toNat := Int.ediv_nonneg hx0 (Int.le_of_lt (M.pow_pos32 a))
 have h2 : w / 2 ^ a.toNat < 4294967296 := Int.lt_of_le_of_lt (Int.ediv_le_self _ hx0) hx
 have r := M.E_rng w a n hn
 rw [Int.tdiv_eq_ediv_of_nonneg hx0, IntKind.wrap_u64, Int.emod_eq_of_lt h1 (by omega), Int.tmod_eq_emod_of_nonneg h1, M.E_eq _ _ _ hx0]
 omega

set_option maxHeartbeats 400000 in
theorem field (w a n : Int) (W : World) (hx0 : 0 ≤ w) (hx : w < 4294967296) (ha0 : 0 ≤ a) (ha : a ≤ 32) (hn0 : 0 ≤ n) (hn : n ≤ 32) :
   Calls Tryz.prog 37 #[.int .u32 w, .int .i64 a, .int .i64 n] W fun e W' => e = .returned (.int .u32 (M.E w a n)) ∧ ∃ q, W' = W.drewN q := by
 have p1 : (2 : Int) ^ a.toNat ≠ 0 := by have := M.pow_pos32 a; omega
 have p2 : (2 : Int) ^ n.toNat ≠ 0 := by have := M.pow_pos32 n; omega
 go_enter Tryz.func37, Tryz.ntmps37
 go_wp2
 go_quiet ((go_at_call 59; exact Calls.quiet_of_same (pow_q _ _ (by omega) (by omega))))
 go_wp2
 go_ret
 exact ⟨ret_int (field_eq w a n hx0 hx hn), nq, rfl⟩

def PutRel (W : World) (x : Nat) (o i : Value) (w : World) : Prop := ∃ k : Nat, k ≤ 32 ∧ i = .int .i64 k ∧ o = .int .u64 ((x : Int) % 2 ^ k) ∧ ∃ q, w = W.drewN q

theorem put_step (x k : Nat) (b : Int) (hk : k < 32) (hb : b = M.ext x k 1) :
   IntKind.u64.wrap ((x : Int) % 2 ^ k + IntKind.u64.wrap (b * 2 ^ k)) = (x : Int) % 2 ^ (k + 1) := by
 have e1 : (x : Int) % 2 ^ (k + 1) = ((x % 2 ^ (k + 1) : Nat) : Int) := by rw [Int.natCast_emod, M.cast_pow]
 have e2 : (x : Int) % 2 ^ k = ((x % 2 ^ k : Nat) : Int) := by rw [Int.natCast_emod, M.cast_pow]
 have h : (2 : Nat) ^ k ≤ 2 ^ 32 := Nat.pow_le_pow_right (by decide) (by omega)
 have h3 := Nat.two_pow_pos k
 have h4 : x % 2 ^ k < 2 ^ k := Nat.mod_lt _ h3
 have h5 : x / 2 ^ k % 2 = 0 ∨ x / 2 ^ k % 2 = 1 := by omega
 rw [e1, e2, M.mod_succ, hb, IntKind.wrap_u64, IntKind.wrap_u64]
 unfold M.ext
 rw [Nat.pow_one, ← M.cast_pow k]
 generalize x % 2 ^ k = m at *
 generalize 2 ^ k = P at *
 rcases h5 with h5 | h5
 · rw [h5]; omega
 · rw [h5]; omega

theorem one_in (w a n v : Int) (k : Nat) (ha : 0 ≤ a) (hn : 0 ≤ n) (h1 : a ≤ k) (h2 : (k : Int) < a + n) : M.E v (k - a) 1 = M.ext (M.ins w.toNat a.toNat n.toNat v.toNat) k 1 := by
 rw [M.bit_of_ins_in _ _ _ _ _ (by omega)]
 unfold M.E
 rw [show ((k : Int) - a).toNat = k - a.toNat by omega]; rfl

theorem one_out (w a n v : Int) (k : Nat) (ha : 0 ≤ a) (hn : 0 ≤ n) (h : ¬ (a ≤ k ∧ (k : Int) < a + n)) : M.E w k 1 = M.ext (M.ins w.toNat a.toNat n.toNat v.toNat) k 1 := by
 rw [M.bit_of_ins_out _ _ _ _ _ (by omega)]
 unfold M.E
 rw [Int.toNat_natCast]; rfl

theorem I_mod (w a n v : Int) (hx : w < 4294967296) (ha0 : 0 ≤ a) (hn0 : 0 ≤ n) (hn : a + n ≤ 32) : (M.ins w.toNat a.toNat n.toNat v.toNat : Int) % 4294967296 = M.I w a n v := by
 have h := M.I_rng w a n v hx ha0 hn0 hn
 unfold M.I at h ⊢
 omega

set_option maxHeartbeats 1000000 in
theorem put (w a n v : Int) (W : World) (hx0 : 0 ≤ w) (hx : w < 4294967296) (hv0 : 0 ≤ v) (hv : v < 4294967296) (ha0 : 0 ≤ a) (hn0 : 0 ≤ n) (hn : a + n ≤ 32) :
   Calls Tryz.prog 38 #[.int .u32 w, .int .i64 a, .int .i64 n, .int .u32 v] W fun e W' => e = .returned (.int .u32 (M.I w a n v)) ∧ ∃ q, W' = W.drewN q := by
 go_enter Tryz.func38, Tryz.ntmps38
 go_wp2
 go_loopw [9, 10] (fun o i w' => PutRel W (M.ins w.toNat a.toNat n.toNat v.toNat) o i w') (fun _ i _ => 32 - (intOf i).toNat)
 case atStart => exact ⟨0, by omega, rfl, by simp, 0, rfl⟩
 case round =>
   obtain ⟨k, hk, rfl, rfl, q, rfl⟩ := hrel
   by_cases hlt : k < 32
   · have r1 := M.E_rng v ((k : Int) - a) 1 (by omega)
     have r2 := M.E_rng w k 1 (by omega)
     by_cases hin : a ≤ k ∧ (k : Int) < a + n
     · obtain ⟨hin1, hin2⟩ := hin
       have HS := Lib.hid (put_step _ k _ hlt (one_in w a n v k ha0 hn0 hin1 hin2))
       go_wp2_with (first
         | (go_at_call 37; refine (field _ _ _ _ (by omega) (by omega) (by omega) (by omega) (by omega) (by omega)).mono ?_; rintro e w' ⟨rfl, q1, rfl⟩)
         | (go_at_call 59; refine (pow _ _ (by omega) (by omega)).mono ?_; rintro e w' ⟨rfl, rfl⟩))
       exact ⟨⟨k + 1, by omega, by go_num, by rw [← HS.out], _, rfl⟩, by simp [intOf]; omega⟩
     · have HS := Lib.hid (put_step _ k _ hlt (one_out w a n v k ha0 hn0 hin))
       have hin' : ¬ a ≤ k ∨ (a ≤ k ∧ ¬ (k : Int) < a + n) := by omega
       clear hin
       rcases hin' with g | ⟨g1, g2⟩
       all_goals
         go_wp2_with (first
           | (go_at_call 37; refine (field _ _ _ _ (by omega) (by omega) (by omega) (by omega) (by omega) (by omega)).mono ?_; rintro e w' ⟨rfl, q1, rfl⟩)
           | (go_at_call 59; refine (pow _ _ (by omega) (by omega)).mono ?_; rintro e w' ⟨rfl, rfl⟩))
         exact ⟨⟨k + 1, by omega, by go_num, by rw [← HS.out], _, rfl⟩, by simp [intOf]; omega⟩
   · obtain rfl : k = 32 := by omega
     go_wp2
     go_ret
     exact ⟨ret_int (I_mod w a n v hx ha0 hn0 hn), q, rfl⟩

theorem field_dn (w a n : Int) (W : World) (hx0 : 0 ≤ w) (hx : w < 4294967296) (ha0 : 0 ≤ a) (ha : a ≤ 32) (hn0 : 0 ≤ n) (hn : n ≤ 32) :
   Calls Tryz.prog 37 #[.int .u32 w, .int .i64 a, .int .i64 n] W fun e W' => e = .returned (.int .u32 (M.E w a n)) ∧ Dn W W' :=
 (field w a n W hx0 hx ha0 ha hn0 hn).mono fun _ _ ⟨he, q, hw⟩ => ⟨he, hw ▸ (Dn.refl W).drewN q⟩
theorem put_dn (w a n v : Int) (W : World) (hx0 : 0 ≤ w) (hx : w < 4294967296) (hv0 : 0 ≤ v) (hv : v < 4294967296) (ha0 : 0 ≤ a) (hn0 : 0 ≤ n) (hn : a + n ≤ 32) :
   Calls Tryz.prog 38 #[.int .u32 w, .int .i64 a, .int .i64 n, .int .u32 v] W fun e W' => e = .returned (.int .u32 (M.I w a n v)) ∧ Dn W W' :=
 (put w a n v W hx0 hx hv0 hv ha0 hn0 hn).mono fun _ _ ⟨he, q, hw⟩ => ⟨he, hw ▸ (Dn.refl W).drewN q⟩
end Go.Proofs.YtclpdjpaaagkdaaGreatDoor.Rb
namespace Go.Proofs.YtclpdjpaaagkdaaGreatDoor.M
open Go.RowKit
set_option linter.unusedVariables false

end Go.Proofs.YtclpdjpaaagkdaaGreatDoor.M
namespace Go.Proofs.YtclpdjpaaagkdaaGreatDoor
open Go.ChangeShapes Go.WideShapes Go.ChangeAt Go.RowKit Go.Sort
set_option linter.unusedVariables false

theorem box_res2 (W : World) (c : List Int) (t t' : TypeId) (cs : Array Value) : ∃ w b0 b1 b2, w = ((W.alloc (.cells (ints .u32 c) t)).alloc (.cells cs t')).alloc (.cells (ints .u32 (zeros 29)) t) ∧ b0 = W.heap.size ∧ b1 = W.heap.size + 1 ∧ b2 = W.heap.size + 1 + 1 ∧
   Row w b0 t .u32 c ∧ Blk w b1 t' cs ∧ Row w b2 t .u32 (zeros 29) ∧ b0 ≠ b1 ∧ b0 ≠ b2 ∧ b1 ≠ b2 ∧ W.heap.size ≤ b0 ∧ W.heap.size ≤ b2 ∧ Dn W w := by
 have h1 := Blk.new (W.alloc (.cells (ints .u32 c) t)) t' cs
 have h2 := Row.new ((W.alloc (.cells (ints .u32 c) t)).alloc (.cells cs t')) t .u32 (zeros 29)
 simp only [size_alloc] at h1 h2
 exact ⟨_, _, _, _, rfl, rfl, rfl, rfl, ((Row.new W t .u32 c).old _).old _, h1.old _, h2, by omega, by omega, by omega, Nat.le_refl _, by omega, (((Dn.refl W).alloc _).alloc _).alloc _⟩
theorem size_alloc2 (w : World) (o p : Obj) : ((w.alloc o).alloc p).heap.size = w.heap.size + 1 + 1 := by simp

set_option maxHeartbeats 1000000 in
theorem trapReturn (c : List Int) (W : World) (hc : M.Core c) :
   Calls Tryz.prog 138 #[.agg (ints .u32 c)] W fun e W' => e = .returned (.agg (ints .u32 (M.leave c))) ∧ Dn W W' := by
 obtain ⟨w, b0, b1, hw, hb0, hb1, r0, r1, ne, l0, l1, D⟩ := box_res W c 26
 have s := hc.csr 1
 have C := Lib.hid fun w => trRtn c (M.csr c 1) w hc s.1 s.2
 have k0 : w.cell? ⟨b0, 18, none⟩ = some (.int .u32 (M.csr c 1)) := r0.cell 18 (by rw [hc.len]; decide)
 have hd : M.Core (M.goTo c (M.csr c 1) (M.rtn (M.csr c 0))) := hc.leave
 have HD := Lib.hid D
 have HL := Lib.hid (And.intro l0 l1)
 clear D l0 l1
 unfold M.leave
 generalize M.goTo c (M.csr c 1) (M.rtn (M.csr c 0)) = d at *
 go_enter Tryz.func138, Tryz.ntmps138
 go_wp2_with ((with_reducible refine alloc29 (b := W.heap.size + 1) (size_alloc _ _) ?_ ?_); rfl; refine Hid.out ?_)
 refine Lib.hid ?_
 rw [← hw, ← hb1, ← hb0]
 clear hw hb0 hb1
 go_wp2_with (first
   | ((with_reducible refine load29 r0 hc.len ?_ ?_ ?_); rfl; rfl)
   | (go_at_call 62; (with_reducible refine (C.out _).mono ?_); rintro e w1 ⟨rfl, d1⟩; replace r1 := r1.dn d1; replace HD := Lib.hid (HD.out.trans d1); clear d1 r0 k0)
   | ((with_reducible refine restore29 _ hd.len r1 core_zeros.len ?_ ?_ ?_ ?_); rfl; rfl; rfl; intro w4 r4 t4))
 exact ret29 rfl rfl r4 hd.len ⟨rfl, HD.out.trn HL.out.2 t4⟩ rfl

set_option maxHeartbeats 1000000 in
theorem trapEnter (c : List Int) (k v : Int) (W : World) (hc : M.Core c) (k0 : -9223372036854775808 ≤ k) (k1 : k < 9223372036854775808) (v0 : 0 ≤ v) (v1 : v < 4294967296) :
   Calls Tryz.prog 41 #[.agg (ints .u32 c), .agg #[.int .i64 k, .int .u32 v]] W fun e W' => e = .returned (.agg (ints .u32 (M.enter c k v))) ∧ Dn W W' := by
 obtain ⟨w, b0, b1, b2, hw, hb0, hb1, hb2, r0, g1, r2, n01, n02, n12, l0, l2, D⟩ := box_res2 W c 26 46 #[.int .i64 k, .int .u32 v]
 have j0 : w.cell? ⟨b1, 0, none⟩ = some (.int .i64 k) := g1.cell rfl
 have j1 : w.cell? ⟨b1, 1, none⟩ = some (.int .u32 v) := g1.cell rfl
 have HG := Lib.hid g1
 have HD := Lib.hid D
 have HL := Lib.hid (And.intro l0 l2)
 clear D l0 l2 g1
 by_cases hk : k = 0
 · have hd : M.enter c k v = c := by unfold M.enter; rw [if_pos hk]
   rw [hd]
   clear hd
   have hkb : (k == 0) = true := by simpa using hk
   subst hk
   go_enter Tryz.func41, Tryz.ntmps41
   go_wp2_with ((with_reducible refine alloc29 (b := W.heap.size + 1 + 1) (size_alloc2 _ _ _) ?_ ?_); rfl; refine Hid.out ?_)
   refine Lib.hid ?_
   rw [← hw, ← hb2, ← hb1, ← hb0]
   clear hw hb0 hb1 hb2
   go_wp2_with (first
     | ((with_reducible refine load29 r0 hc.len ?_ ?_ ?_); rfl; rfl)
     | ((with_reducible refine restore29 _ hc.len r2 core_zeros.len ?_ ?_ ?_ ?_); rfl; rfl; rfl; intro w4 r4 t4))
   exact ret29 rfl rfl r4 hc.len ⟨rfl, HD.out.trn HL.out.2 t4⟩ rfl
 · have hd : M.enter c k v = M.goTo (((c.set 18 (M.pc c)).set 19 (k % 4294967296)).set 20 v) (M.csr c 4) (M.ent (M.csr c 0)) := by unfold M.enter; rw [if_neg hk]
   have hdc : M.Core (M.enter c k v) := hc.enter v0 v1
   have hkb : (k == 0) = false := by simpa using hk
   have h1 := hc.set 18 _ hc.pc.1 hc.pc.2
   have h2 := h1.set 19 (k % 4294967296) (by omega) (by omega)
   have h3 := h2.set 20 v v0 v1
   have e0 : M.csr (((c.set 18 (M.pc c)).set 19 (k % 4294967296)).set 20 v) 0 = M.csr c 0 := by
     rw [M.csr_set h2 3 0 _ (by decide), if_neg (by decide), M.csr_set h1 2 0 _ (by decide), if_neg (by decide), M.csr_set hc 1 0 _ (by decide), if_neg (by decide)]
   have e4 : M.csr (((c.set 18 (M.pc c)).set 19 (k % 4294967296)).set 20 v) 4 = M.csr c 4 := by
     rw [M.csr_set h2 3 4 _ (by decide), if_neg (by decide), M.csr_set h1 2 4 _ (by decide), if_neg (by decide), M.csr_set hc 1 4 _ (by decide), if_neg (by decide)]
   have C := Lib.hid fun w => trEnt (((c.set 18 (M.pc c)).set 19 (k % 4294967296)).set 20 v) (M.csr c 4) w h3 (hc.csr 4).1 (hc.csr 4).2
   rw [e0, ← hd] at C
   have p0 : w.cell? ⟨b0, 16, none⟩ = some (.int .u32 (M.pc c)) := r0.cell 16 (by rw [hc.len]; decide)
   have HE := Lib.hid e4
   clear hd hk e0 e4
   generalize M.enter c k v = d at *
   generalize M.pc c = p at *
   go_enter Tryz.func41, Tryz.ntmps41
   go_wp2_with ((with_reducible refine alloc29 (b := W.heap.size + 1 + 1) (size_alloc2 _ _ _) ?_ ?_); rfl; refine Hid.out ?_)
   refine Lib.hid ?_
   rw [← hw, ← hb2, ← hb1, ← hb0]
   clear hw hb0 hb1 hb2
   go_wp2_with ((with_reducible refine store1 (i := 18) (u := p) r0 hc ?_ ?_ ?_ ?_ ?_); rfl; rfl; rfl; rfl; intro w2 r0' t2; refine Hid.out ?_)
   refine Lib.hid ?_
   replace r2 := r2.trn t2 n02.symm
   replace HG := Lib.hid (HG.out.trn t2 n01.symm)
   replace HD := Lib.hid (HD.out.trn HL.out.1 t2)
   replace j0 : w2.cell? ⟨b1, 0, none⟩ = some (.int .i64 k) := HG.out.cell rfl
   clear t2 r0 p0 j1
   go_wp2_with ((with_reducible refine store1 (i := 19) (u := k % 4294967296) r0' h1 ?_ ?_ ?_ ?_ ?_); rfl; rfl; rfl; rfl; intro w3 r0 t2; refine Hid.out ?_)
   refine Lib.hid ?_
   replace r2 := r2.trn t2 n02.symm
   replace HG := Lib.hid (HG.out.trn t2 n01.symm)
   replace HD := Lib.hid (HD.out.trn HL.out.1 t2)
   have j1 : w3.cell? ⟨b1, 1, none⟩ = some (.int .u32 v) := HG.out.cell rfl
   clear t2 r0' j0
   go_wp2_with ((with_reducible refine store1 (i := 20) (u := v) r0 h2 ?_ ?_ ?_ ?_ ?_); rfl; rfl; rfl; rfl; intro w4 r0' t2; refine Hid.out ?_)
   refine Lib.hid ?_
   replace r2 := r2.trn t2 n02.symm
   replace HD := Lib.hid (HD.out.trn HL.out.1 t2)
   have j4 : w4.cell? ⟨b0, 21, none⟩ = some (.int .u32 (M.csr c 4)) := by
     have h := r0'.cell 21 (by rw [h3.len]; decide)
     rw [← HE.out]
     exact h
   clear t2 r0 j1 HG HE
   go_wp2_with (first
     | ((with_reducible refine load29 r0' h3.len ?_ ?_ ?_); rfl; rfl)
     | (go_at_call 62; (with_reducible refine (C.out _).mono ?_); rintro e w5 ⟨rfl, d1⟩; replace r2 := r2.dn d1; replace HD := Lib.hid (HD.out.trans d1); clear d1 r0' j4)
     | ((with_reducible refine restore29 _ hdc.len r2 core_zeros.len ?_ ?_ ?_ ?_); rfl; rfl; rfl; intro w6 r6 t6))
   exact ret29 rfl rfl r6 hdc.len ⟨rfl, HD.out.trn HL.out.2 t6⟩ rfl

namespace M
theorem E_bit (s a : Int) (s0 : 0 ≤ s) : E s a 1 = s / 2 ^ a.toNat % 2 := by rw [← E_eq s a 1 s0]; rfl
theorem I_04 (s v : Int) (s0 : 0 ≤ s) (s1 : s < 4294967296) (v0 : 0 ≤ v) (v1 : v < 16) : I s 0 4 v = s / 16 * 16 + v := by
 have r := I_rng s 0 4 v s1 (by decide) (by decide) (by decide)
 have h1 := E_I s 0 4 v
 have h2 := E_apart s 0 4 v 4 28 (by decide) (by decide) (by decide) (by decide) (.inl (by decide))
 rw [← E_eq _ _ _ r.1, ← E_eq _ _ _ v0] at h1
 rw [← E_eq _ _ _ r.1, ← E_eq _ _ _ s0] at h2
 simp at h1 h2
 omega
theorem I_01 (s v : Int) (s0 : 0 ≤ s) (s1 : s < 4294967296) (v0 : 0 ≤ v) (v1 : v < 2) : I s 0 1 v = s / 2 * 2 + v := by
 have r := I_rng s 0 1 v s1 (by decide) (by decide) (by decide)
 have h1 := E_I s 0 1 v
 have h2 := E_apart s 0 1 v 1 31 (by decide) (by decide) (by decide) (by decide) (.inl (by decide))
 rw [← E_eq _ _ _ r.1, ← E_eq _ _ _ v0] at h1
 rw [← E_eq _ _ _ r.1, ← E_eq _ _ _ s0] at h2
 simp at h1 h2
 omega
theorem I_11 (s v : Int) (s0 : 0 ≤ s) (s1 : s < 4294967296) (v0 : 0 ≤ v) (v1 : v < 2) : I s 1 1 v = s / 4 * 4 + 2 * v + s % 2 := by
 have r := I_rng s 1 1 v s1 (by decide) (by decide) (by decide)
 have h1 := E_I s 1 1 v
 have h2 := E_apart s 1 1 v 2 30 (by decide) (by decide) (by decide) (by decide) (.inl (by decide))
 have h3 := E_apart s 1 1 v 0 1 (by decide) (by decide) (by decide) (by decide) (.inr (by decide))
 rw [← E_eq _ _ _ r.1, ← E_eq _ _ _ v0] at h1
 rw [← E_eq _ _ _ r.1, ← E_eq _ _ _ s0] at h2 h3
 simp at h1 h2 h3
 omega
theorem rt1 (s : Int) : (s / 2 * 2 + s / 4 % 2) / 8 % 2 = s / 8 % 2 := by
 obtain ⟨q, d3, d2, d1, d0, h3, h2, h1, h0, e, eq, e3, e2, e1, e0⟩ := bt_bits s
 rw [← e3, ← e2]
 have : s / 2 * 2 = 16 * q + 8 * d3 + 4 * d2 + 2 * d1 := by omega
 rw [this]
 clear e eq e3 e2 e1 e0 this
 omega
theorem rt2 (s : Int) : (s / 2 * 2 + s / 4 % 2) / 4 * 4 + 2 * (s / 8 % 2) + (s / 2 * 2 + s / 4 % 2) % 2 = rtn s := by
 obtain ⟨q, d3, d2, d1, d0, h3, h2, h1, h0, e, eq, e3, e2, e1, e0⟩ := bt_bits s
 unfold rtn
 rw [← e3, ← e2, ← eq]
 have : s / 2 * 2 = 16 * q + 8 * d3 + 4 * d2 + 2 * d1 := by omega
 rw [this]
 clear e eq e3 e2 e1 e0 this
 omega
theorem enter_alt (c : List Int) (k v : Int) (hk : k ≠ 0) : ((((c.set 17 (ent (csr c 0))).set 18 (pc c)).set 19 (k % 4294967296)).set 20 v).set 16 (csr c 4) = enter c k v := by
 unfold enter goTo
 rw [if_neg hk]
 rw [List.set_comm (i := 17) (j := 18) _ _ (by decide), List.set_comm (i := 17) (j := 19) _ _ (by decide), List.set_comm (i := 17) (j := 20) _ _ (by decide)]
end M

theorem rbField (s a r : Int) (W : World) (s0 : 0 ≤ s) (s1 : s < 4294967296) (a0 : 0 ≤ a) (a1 : a ≤ 32) (hr : s / 2 ^ a.toNat % 2 = r) :
   Calls Tryz.prog 37 #[.int .u32 s, .int .i64 a, .int .i64 1] W fun e W' => e = .returned (.int .u32 r) ∧ Dn W W' := by
 have h := Rb.field_dn s a 1 W s0 s1 a0 a1 (by decide) (by decide)
 rwa [M.E_bit s a s0, hr] at h
theorem rbPut (s a n v r : Int) (W : World) (s0 : 0 ≤ s) (s1 : s < 4294967296) (v0 : 0 ≤ v) (v1 : v < 4294967296) (a0 : 0 ≤ a) (n0 : 0 ≤ n) (hn : a + n ≤ 32) (hr : M.I s a n v = r) :
   Calls Tryz.prog 38 #[.int .u32 s, .int .i64 a, .int .i64 n, .int .u32 v] W fun e W' => e = .returned (.int .u32 r) ∧ Dn W W' := by
 subst hr
 exact Rb.put_dn s a n v W s0 s1 v0 v1 a0 n0 hn

theorem refEnabled (c : List Int) (W : World) (hc : M.Core c) :
   Calls Tryz.prog 31 #[.agg (ints .u32 c)] W fun e W' => e = .returned (.bool (M.ien c)) ∧ Dn W W' := by
 have k : (W.alloc (.cells (ints .u32 c) 26)).cell? ⟨W.heap.size, 17, none⟩ = some (.int .u32 (M.csr c 0)) := (Row.new W 26 .u32 c).cell 17 (by rw [hc.len]; decide)
 have r := hc.csr 0
 go_enter Tryz.func31, Tryz.ntmps31
 go_wp2
 go_ret
 refine ⟨ret_bool ?_, (Dn.refl W).alloc _⟩
 unfold M.ien M.bt
 generalize M.csr c 0 = x
 by_cases h : x / 2 % 2 = 1 <;> simp [h]

set_option maxHeartbeats 1000000 in
theorem refReturn (c : List Int) (W : World) (hc : M.Core c) :
   Calls Tryz.prog 50 #[.agg (ints .u32 c)] W fun e W' => e = .returned (.agg (ints .u32 (M.leave c))) ∧ Dn W W' := by
 obtain ⟨w, b0, b1, hw, hb0, hb1, r0, r1, ne, l0, l1, D⟩ := box_res W c 26
 have s := hc.csr 0
 have k0 : w.cell? ⟨b0, 17, none⟩ = some (.int .u32 (M.csr c 0)) := r0.cell 17 (by rw [hc.len]; decide)
 have hd : M.Core (M.leave c) := hc.leave
 have e1 : M.leave c = (c.set 17 (M.rtn (M.csr c 0))).set 16 (M.csr c 1) := rfl
 rw [e1] at hd ⊢
 clear e1
 have rr := M.rtn_rng _ s.1 s.2
 have h1 := hc.set 17 _ rr.1 rr.2
 have C1 := Lib.hid fun w => rbField (M.csr c 0) 2 _ w s.1 s.2 (by decide) (by decide) rfl
 have C2 := Lib.hid fun w => rbPut (M.csr c 0) 0 1 (M.csr c 0 / 4 % 2) (M.csr c 0 / 2 * 2 + M.csr c 0 / 4 % 2) w s.1 s.2 (by omega) (by omega) (by decide) (by decide) (by decide) (M.I_01 _ _ s.1 s.2 (by omega) (by omega))
 have C3 := Lib.hid fun w => rbField (M.csr c 0 / 2 * 2 + M.csr c 0 / 4 % 2) 3 (M.csr c 0 / 8 % 2) w (by omega) (by omega) (by decide) (by decide) (by rw [show (2 : Int) ^ (3 : Int).toNat = 8 from rfl]; exact M.rt1 _)
 have C4 := Lib.hid fun w => rbPut (M.csr c 0 / 2 * 2 + M.csr c 0 / 4 % 2) 1 1 (M.csr c 0 / 8 % 2) (M.rtn (M.csr c 0)) w (by omega) (by omega) (by omega) (by omega) (by decide) (by decide) (by decide) (by rw [M.I_11 _ _ (by omega) (by omega) (by omega) (by omega)]; exact M.rt2 _)
 rw [show (2 : Int) ^ (2 : Int).toNat = 4 from rfl] at C1
 have k1 : M.csr (c.set 17 (M.rtn (M.csr c 0))) 1 = M.csr c 1 := by rw [M.csr_set hc 0 1 _ (by decide), if_neg (by decide)]
 have HK := Lib.hid k1
 have HD := Lib.hid D
 have HL := Lib.hid (And.intro l0 l1)
 clear D l0 l1 k1 rr
 generalize M.rtn (M.csr c 0) = z at *
 generalize M.csr c 0 / 2 * 2 + M.csr c 0 / 4 % 2 = y at *
 generalize M.csr c 0 / 4 % 2 = x1 at *
 generalize M.csr c 0 / 8 % 2 = x2 at *
 go_enter Tryz.func50, Tryz.ntmps50
 go_wp2_with ((with_reducible refine alloc29 (b := W.heap.size + 1) (size_alloc _ _) ?_ ?_); rfl; refine Hid.out ?_)
 refine Lib.hid ?_
 rw [← hw, ← hb1, ← hb0]
 clear hw hb0 hb1
 go_wp2_with (first
   | (go_at_call 37; (first | (with_reducible refine (C1.out _).mono ?_) | (with_reducible refine (C3.out _).mono ?_)); rintro e w1 ⟨rfl, d1⟩; replace r0 := r0.dn d1; replace r1 := r1.dn d1; replace HD := Lib.hid (HD.out.trans d1); clear d1)
   | (go_at_call 38; (first | (with_reducible refine (C2.out _).mono ?_) | (with_reducible refine (C4.out _).mono ?_)); rintro e w1 ⟨rfl, d1⟩; replace r0 := r0.dn d1; replace r1 := r1.dn d1; replace HD := Lib.hid (HD.out.trans d1); clear d1)
   | ((with_reducible refine store1 (i := 17) (u := z) r0 hc ?_ ?_ ?_ ?_ ?_); rfl; rfl; rfl; rfl; intro w2 r2 t2; refine Hid.out ?_))
 refine Lib.hid ?_
 replace r1 := r1.trn t2 ne.symm
 replace HD := Lib.hid (HD.out.trn HL.out.1 t2)
 have j4 : w2.cell? ⟨b0, 18, none⟩ = some (.int .u32 (M.csr c 1)) := by
   have h := r2.cell 18 (by rw [h1.len]; decide)
   rw [← HK.out]
   exact h
 clear t2 r0 k0 HK
 go_wp2_with ((with_reducible refine store1 (i := 16) (u := M.csr c 1) r2 h1 ?_ ?_ ?_ ?_ ?_); rfl; rfl; rfl; rfl; intro w3 r3 t3; refine Hid.out ?_)
 refine Lib.hid ?_
 replace r1 := r1.trn t3 ne.symm
 replace HD := Lib.hid (HD.out.trn HL.out.1 t3)
 clear t3 r2 j4
 go_wp2_with (first
   | ((with_reducible refine load29 r3 hd.len ?_ ?_ ?_); rfl; rfl)
   | ((with_reducible refine restore29 _ hd.len r1 core_zeros.len ?_ ?_ ?_ ?_); rfl; rfl; rfl; intro w4 r4 t4))
 exact ret29 rfl rfl r4 hd.len ⟨rfl, HD.out.trn HL.out.2 t4⟩ rfl

set_option maxHeartbeats 1000000 in
theorem refEnter (c : List Int) (k v : Int) (W : World) (hc : M.Core c) (k0 : -9223372036854775808 ≤ k) (k1 : k < 9223372036854775808) (v0 : 0 ≤ v) (v1 : v < 4294967296) :
   Calls Tryz.prog 26 #[.agg (ints .u32 c), .agg #[.int .i64 k, .int .u32 v]] W fun e W' => e = .returned (.agg (ints .u32 (M.enter c k v))) ∧ Dn W W' := by
 obtain ⟨w, b0, b1, b2, hw, hb0, hb1, hb2, r0, g1, r2, n01, n02, n12, l0, l2, D⟩ := box_res2 W c 26 46 #[.int .i64 k, .int .u32 v]
 have j0 : w.cell? ⟨b1, 0, none⟩ = some (.int .i64 k) := g1.cell rfl
 have HG := Lib.hid g1
 have HD := Lib.hid D
 have HL := Lib.hid (And.intro l0 l2)
 clear D l0 l2 g1
 by_cases hk : k = 0
 · have hd : M.enter c k v = c := by unfold M.enter; rw [if_pos hk]
   rw [hd]
   clear hd
   have hkb : (k == 0) = true := by simpa using hk
   subst hk
   go_enter Tryz.func26, Tryz.ntmps26
   go_wp2_with ((with_reducible refine alloc29 (b := W.heap.size + 1 + 1) (size_alloc2 _ _ _) ?_ ?_); rfl; refine Hid.out ?_)
   refine Lib.hid ?_
   rw [← hw, ← hb2, ← hb1, ← hb0]
   clear hw hb0 hb1 hb2
   go_wp2_with (first
     | ((with_reducible refine load29 r0 hc.len ?_ ?_ ?_); rfl; rfl)
     | ((with_reducible refine restore29 _ hc.len r2 core_zeros.len ?_ ?_ ?_ ?_); rfl; rfl; rfl; intro w4 r4 t4))
   exact ret29 rfl rfl r4 hc.len ⟨rfl, HD.out.trn HL.out.2 t4⟩ rfl
 · have hkb : (k == 0) = false := by simpa using hk
   have s := hc.csr 0
   have HE := Lib.hid (M.enter_alt c k v hk)
   have re := M.ent_rng _ s.1 s.2
   have h1 := hc.set 17 _ re.1 re.2
   have h2 := h1.set 18 _ hc.pc.1 hc.pc.2
   have h3 := h2.set 19 (k % 4294967296) (by omega) (by omega)
   have h4 := h3.set 20 v v0 v1
   have h5 := h4.set 16 _ (hc.csr 4).1 (hc.csr 4).2
   have ep : M.pc (c.set 17 (M.ent (M.csr c 0))) = M.pc c := by
     unfold M.pc
     rw [List.getD_eq_getElem?_getD, List.getElem?_set, if_neg (by decide), List.getD_eq_getElem?_getD]
   have e4 : M.csr ((((c.set 17 (M.ent (M.csr c 0))).set 18 (M.pc c)).set 19 (k % 4294967296)).set 20 v) 4 = M.csr c 4 := by
     rw [M.csr_set h3 3 4 _ (by decide), if_neg (by decide), M.csr_set h2 2 4 _ (by decide), if_neg (by decide), M.csr_set h1 1 4 _ (by decide), if_neg (by decide), M.csr_set hc 0 4 _ (by decide), if_neg (by decide)]
   have C1 := Lib.hid fun w => rbField (M.csr c 0) 0 (M.csr c 0 % 2) w s.1 s.2 (by decide) (by decide) (by rw [show (2 : Int) ^ (0 : Int).toNat = 1 from rfl]; omega)
   have C2 := Lib.hid fun w => rbField (M.csr c 0) 1 (M.csr c 0 / 2 % 2) w s.1 s.2 (by decide) (by decide) (by rw [show (2 : Int) ^ (1 : Int).toNat = 2 from rfl])
   have C3 := Lib.hid fun w => rbPut (M.csr c 0) 0 4 (1 + 4 * (M.csr c 0 % 2) + 8 * (M.csr c 0 / 2 % 2)) (M.ent (M.csr c 0)) w s.1 s.2 (by omega) (by omega) (by decide) (by decide) (by decide) (by rw [M.I_04 _ _ s.1 s.2 (by omega) (by omega)]; unfold M.ent; omega)
   have q0 : w.cell? ⟨b0, 17, none⟩ = some (.int .u32 (M.csr c 0)) := r0.cell 17 (by rw [hc.len]; decide)
   have m0 : 0 ≤ M.csr c 0 % 2 ∧ M.csr c 0 % 2 ≤ 1 := by omega
   have i0 : 0 ≤ M.csr c 0 / 2 % 2 ∧ M.csr c 0 / 2 % 2 ≤ 1 := by omega
   have HP := Lib.hid ep
   have H4 := Lib.hid e4
   clear hk ep e4 re
   generalize M.enter c k v = d at *
   generalize M.ent (M.csr c 0) = z at *
   generalize M.csr c 0 % 2 = m at *
   generalize M.csr c 0 / 2 % 2 = i at *
   generalize M.pc c = p at *
   have x1 : IntKind.u32.wrap (4 * m) = 4 * m := by rw [IntKind.wrap_u32]; omega
   have x2 : IntKind.u32.wrap (1 + 4 * m) = 1 + 4 * m := by rw [IntKind.wrap_u32]; omega
   have x3 : IntKind.u32.wrap (8 * i) = 8 * i := by rw [IntKind.wrap_u32]; omega
   have x4 : IntKind.u32.wrap (1 + 4 * m + 8 * i) = 1 + 4 * m + 8 * i := by rw [IntKind.wrap_u32]; omega
   go_enter Tryz.func26, Tryz.ntmps26
   go_wp2_with ((with_reducible refine alloc29 (b := W.heap.size + 1 + 1) (size_alloc2 _ _ _) ?_ ?_); rfl; refine Hid.out ?_)
   refine Lib.hid ?_
   rw [← hw, ← hb2, ← hb1, ← hb0]
   clear hw hb0 hb1 hb2
   go_wp2_with (first
     | (go_at_call 37; (first | (with_reducible refine (C1.out _).mono ?_) | (with_reducible refine (C2.out _).mono ?_)); rintro e w1 ⟨rfl, d1⟩; replace r0 := r0.dn d1; replace r2 := r2.dn d1; replace HG := Lib.hid (HG.out.dn d1); replace HD := Lib.hid (HD.out.trans d1); clear d1)
     | (go_at_call 38; (with_reducible refine (C3.out _).mono ?_); rintro e w1 ⟨rfl, d1⟩; replace r0 := r0.dn d1; replace r2 := r2.dn d1; replace HG := Lib.hid (HG.out.dn d1); replace HD := Lib.hid (HD.out.trans d1); clear d1)
     | ((with_reducible refine store1 (i := 17) (u := z) r0 hc ?_ ?_ ?_ ?_ ?_); rfl; rfl; rfl; rfl; intro w2 r0' t2; refine Hid.out ?_))
   refine Lib.hid ?_
   replace r2 := r2.trn t2 n02.symm
   replace HG := Lib.hid (HG.out.trn t2 n01.symm)
   replace HD := Lib.hid (HD.out.trn HL.out.1 t2)
   have j5 : w2.cell? ⟨b0, 16, none⟩ = some (.int .u32 p) := by
     have h := r0'.cell 16 (by rw [h1.len]; decide)
     rw [← HP.out]
     exact h
   clear t2 r0 q0 j0 HP
   go_wp2_with ((with_reducible refine store1 (i := 18) (u := p) r0' h1 ?_ ?_ ?_ ?_ ?_); rfl; rfl; rfl; rfl; intro w3 r0 t2; refine Hid.out ?_)
   refine Lib.hid ?_
   replace r2 := r2.trn t2 n02.symm
   replace HG := Lib.hid (HG.out.trn t2 n01.symm)
   replace HD := Lib.hid (HD.out.trn HL.out.1 t2)
   have j0 : w3.cell? ⟨b1, 0, none⟩ = some (.int .i64 k) := HG.out.cell rfl
   clear t2 r0' j5
   go_wp2_with ((with_reducible refine store1 (i := 19) (u := k % 4294967296) r0 h2 ?_ ?_ ?_ ?_ ?_); rfl; rfl; rfl; rfl; intro w4 r0' t2; refine Hid.out ?_)
   refine Lib.hid ?_
   replace r2 := r2.trn t2 n02.symm
   replace HG := Lib.hid (HG.out.trn t2 n01.symm)
   replace HD := Lib.hid (HD.out.trn HL.out.1 t2)
   have j1 : w4.cell? ⟨b1, 1, none⟩ = some (.int .u32 v) := HG.out.cell rfl
   clear t2 r0 j0
   go_wp2_with ((with_reducible refine store1 (i := 20) (u := v) r0' h3 ?_ ?_ ?_ ?_ ?_); rfl; rfl; rfl; rfl; intro w5 r0 t2; refine Hid.out ?_)
   refine Lib.hid ?_
   replace r2 := r2.trn t2 n02.symm
   replace HD := Lib.hid (HD.out.trn HL.out.1 t2)
   have j4 : w5.cell? ⟨b0, 21, none⟩ = some (.int .u32 (M.csr c 4)) := by
     have h := r0.cell 21 (by rw [h4.len]; decide)
     rw [← H4.out]
     exact h
   clear t2 r0' j1 HG H4
   go_wp2_with ((with_reducible refine store1 (i := 16) (u := M.csr c 4) r0 h4 ?_ ?_ ?_ ?_ ?_); rfl; rfl; rfl; rfl; intro w6 r0' t2; refine Hid.out ?_)
   refine Lib.hid ?_
   replace r2 := r2.trn t2 n02.symm
   replace HD := Lib.hid (HD.out.trn HL.out.1 t2)
   clear t2 r0 j4
   rw [HE.out] at r0' h5
   go_wp2_with (first
     | ((with_reducible refine load29 r0' h5.len ?_ ?_ ?_); rfl; rfl)
     | ((with_reducible refine restore29 _ h5.len r2 core_zeros.len ?_ ?_ ?_ ?_); rfl; rfl; rfl; intro w7 r6 t6))
   exact ret29 rfl rfl r6 h5.len ⟨rfl, HD.out.trn HL.out.2 t6⟩ rfl
end Go.Proofs.YtclpdjpaaagkdaaGreatDoor
namespace Go.Proofs.YtclpdjpaaagkdaaGreatDoor.M
open Go.RowKit
set_option linter.unusedVariables false

def csw (c : List Int) (n v : Int) : List Int := c.take 17 ++ Cs.M.wr (c.drop 17) n v
structure PRes where
 c : List Int
 ys : List Int
 h : Bool
def px (c ys : List Int) (h : Bool) (t op rd ra imm : Int) : PRes :=
 if op = 21 then ⟨adv (setreg c rd (Cs.M.rd (c.drop 17) t imm)) 4, ys, h⟩
 else if op = 22 then ⟨adv (csw c imm (reg c ra)) 4, ys, h⟩
 else if op = 23 then ⟨leave c, ys, h⟩
 else if op = 24 then ⟨adv c 4, ys, true⟩
 else if op = 25 then ⟨adv c 4, ys ++ [reg c ra % 256], h⟩
 else ⟨c, ys, h⟩
section
variable (c ys : List Int) (h : Bool) (t rd ra imm : Int)
end
theorem csr_ok {c : List Int} (h : Core c) : Cs.M.Ok (c.drop 17) := by
 refine ⟨by rw [List.length_drop, h.len], fun i => ?_⟩
 unfold Cs.M.at_
 rw [List.getD_eq_getElem?_getD, List.getElem?_drop, ← List.getD_eq_getElem?_getD]
 exact h.rng _
theorem csw_len {c : List Int} (h : Core c) (n v : Int) : (csw c n v).length = 29 := by
 unfold csw
 rw [List.length_append, List.length_take, h.len, (Cs.M.wr_ok (csr_ok h) n v).len]; rfl
theorem csw_low {c : List Int} (h : Core c) (n v : Int) (j : Nat) (hj : j < 17) : (csw c n v).getD j 0 = c.getD j 0 := by
 unfold csw
 have hl := h.len
 rw [List.getD_eq_getElem?_getD, List.getD_eq_getElem?_getD, List.getElem?_append, if_pos (by rw [List.length_take]; omega), List.getElem?_take, if_pos hj]
theorem csw_high {c : List Int} (h : Core c) (n v : Int) (k : Nat) : (csw c n v).getD (17 + k) 0 = (Cs.M.wr (c.drop 17) n v).getD k 0 := by
 unfold csw
 have hl := h.len
 have e : (c.take 17).length = 17 := by rw [List.length_take]; omega
 rw [List.getD_eq_getElem?_getD, List.getD_eq_getElem?_getD, List.getElem?_append, if_neg (by omega), e, Nat.add_sub_cancel_left]
theorem Core.csw {c : List Int} (h : Core c) (n v : Int) : Core (csw c n v) := by
 refine ⟨csw_len h n v, fun i => ?_⟩
 by_cases hi : i < 17
 · rw [csw_low h n v i hi]; exact h.rng i
 · obtain ⟨k, rfl⟩ : ∃ k, i = 17 + k := ⟨i - 17, by omega⟩
   rw [csw_high h n v k]
   have := (Cs.M.wr_ok (csr_ok h) n v).rng k
   unfold Cs.M.at_ at this
   rwa [Int.toNat_natCast] at this
theorem csr_rd_rng {c : List Int} (h : Core c) {t n : Int} (t0 : 0 ≤ t) (t1 : t < 18446744073709551616) : 0 ≤ Cs.M.rd (c.drop 17) t n ∧ Cs.M.rd (c.drop 17) t n < 4294967296 := Cs.M.rd_rng (csr_ok h) t n t0 t1
theorem by_push {ys : List Int} (h : By ys) (v : Int) : By (ys ++ [v % 256]) := fun x hx => by
 rcases List.mem_append.1 hx with h1 | h1
 · exact h x h1
 · simp only [List.mem_cons, List.not_mem_nil, or_false] at h1
   subst h1; omega
end Go.Proofs.YtclpdjpaaagkdaaGreatDoor.M
namespace Go.Proofs.YtclpdjpaaagkdaaGreatDoor
open Go.ChangeShapes Go.WideShapes Go.ChangeAt Go.RowKit Go.Sort
open Go.Proofs.YtclpdjpaaagkdaaGreatDoor.M (By)
set_option linter.unusedVariables false

section
variable {ops : Array Oper} {rest : List Oper} {dst : Option Tmp} {x y z : Operand} {ty : TypeId} {pos : String} {aft : Array Edge} {gd : Option (Nat × Bool)} {a : Act} {w : World} {Q : Exit → Act → World → Prop} {b : Nat} {m : Mc}
theorem byte_bs (w : World) (x : Int) (h0 : 0 ≤ x) (h1 : x ≤ 255) : Bs (w.alloc (.cells #[.int .u8 x] 5)) (some ⟨w.heap.size, 0, none⟩) 1 [x] := by
 have h : Row (w.alloc (.cells (ints .u8 [x]) 5)) w.heap.size 5 .u8 [x] := Row.new w 5 .u8 [x]
 exact Bs.of_row h (fun y hy => by simp at hy; omega)
theorem Bs.full {A : Option Addr} {c : Nat} {xs : List Int} (h : Bs w A c xs) : Bs w A xs.length xs := ⟨Nat.le_refl _, h.2.1, h.2.2⟩
theorem run_app_new (w : World) (ty : TypeId) {B X : Option Addr} {c v : Nat} {ys : List Int} {u : Int} (hy : Bs w B v ys) (hx : Bs w X c [u]) (hn : ys.length ≤ 100000) :
   ∃ g cap w', (Builtin.append_ #[27, 27] ty #[.slice B ys.length ys.length, .slice X 1 c]).run Tryz.prog w = .ok (.slice (some ⟨g, 0, none⟩) (ys.length + 1) cap) w' ∧ Bs w' (some ⟨g, 0, none⟩) cap (ys ++ [u]) ∧ Dn w w' ∧ w.heap.size ≤ g := by
 obtain ⟨i, hi, hz, hs, hby⟩ := info_parts info8
 have hd : ∀ {A : Option Addr} {k : Nat} {xs : List Int}, Bs w A k xs → Bs w.drew A k xs := fun h => h.dn (Dn.drawn w)
 obtain ⟨ad, rfl, _, hc⟩ := hx.2.2 (by simp)
 have hnew : ∀ (w0 : World), Bs w0 (some ad) c [u] → ∀ j v, ([u].map (Value.int .u8))[j]? = some v → w0.cell? (ad.add j) = some v := fun w0 h j v hj => by
   obtain ⟨ad', e, _, hc⟩ := h.2.2 (by simp)
   cases e
   rw [List.getElem?_map] at hj
   obtain ⟨x, hyj, rfl⟩ := Option.map_eq_some_iff.1 hj
   exact hc j x hyj
 have hone : ∀ v ∈ [u].map (Value.int .u8), v.oneCell' = true := ones [u]
 have src := Src.ofSlice (P := Tryz.prog) w (size := i.size) (tx := 27) Tryz.underlying27 ad 1 c ([u].map (Value.int .u8)) (by simp [hs]) (hnew w hx) hone
 have hold : (Builtin.firstCells i.size ys.length (.slice B ys.length ys.length)).run Tryz.prog w.drew = .ok (ys.map (Value.int .u8)).toArray w.drew := by
   cases B with
   | none =>
     have h0 : ys = [] := by
       rcases Classical.em (ys = []) with h | h
       · exact h
       · obtain ⟨ad, e, _⟩ := hy.2.2 h; cases e
     subst h0
     exact run_firstCells_none _ _ _ _ _
   | some bd =>
     refine run_firstCells_some _ _ _ bd _ _ (ys.map (Value.int .u8)) (by simp [hs]) fun j v hj => ?_
     rw [List.getElem?_map] at hj
     obtain ⟨x, hyj, rfl⟩ := Option.map_eq_some_iff.1 hj
     obtain ⟨ad', e, _, hc⟩ := (hd hy).2.2 (by intro e; rw [e] at hyj; cases hyj)
     cases e
     exact hc j x hyj
 have hr := run_append_grow_src (P := Tryz.prog) w 27 27 ty 5 i _ Tryz.underlying27 hi hz B ys.length ys.length (ys.map (Value.int .u8)) hold (.slice (some ad) 1 c) 1 ([u].map (Value.int .u8)) src (by omega) (by omega) (growslice_fits (by omega) (by rw [hby]; omega))
 refine ⟨w.heap.size, _, _, hr, ?_, (Dn.drawn w).alloc _, Nat.le_refl _⟩
 have hge := grownCap_ge w (ys.length + 1) ys.length 5
 have hm := grownCap_le_maxLen w (ys.length + 1) ys.length 5 (by unfold maxLen; omega)
 generalize grownCap w (ys.length + 1) ys.length 5 = cap at hge hm ⊢
 have hby2 : By (ys ++ [u]) := fun x hx' => by
   rcases List.mem_append.1 hx' with h1 | h1
   · exact hy.2.1 x h1
   · exact hx.2.1 x h1
 have own : (w.drew.alloc (.cells (((ys.map (Value.int .u8)) ++ ([u].map (Value.int .u8))).toArray ++ Builtin.zeroCells (Value.int .u8 0).cells (cap - (ys.length + 1))) 5)).ownsRow w.heap.size 5 1 (.slice (some ⟨w.heap.size, 0, none⟩) (ys.length + 1) cap) (ys.length + 1) ((ys ++ [u]).map (Value.int .u8)) := by
   refine ⟨by simp, .inr ⟨w.heap.size, cap, _, rfl, Nat.le_refl _, heap_alloc_new w.drew _, hge, hm, ?_, ?_⟩⟩
   · simp only [Array.size_append, List.size_toArray, size_zeroCells, List.length_append, List.length_map, List.length_cons, List.length_nil, Value.cells]
     show _ + (cap - (ys.length + 1)) * 1 = _
     omega
   · simp only [Array.toList_append]
     rw [← List.map_append]
     exact List.take_left' (by simp)
 obtain ⟨A', c', e, hB⟩ := Bs.of_own (n := ys.length + 1) (by simp) hby2 own
 simp only [Value.slice.injEq] at e
 obtain ⟨rfl, _, rfl⟩ := e
 exact hB
theorem wpList_app {o : Oper} (hw : Region.wanted o (yielded ops a.tmps) = true) (s x : Operand) (ho : o.op = .call { callee := .builtin .append, args := #[s, x], argTypes := #[27, 27] }) {B X : Option Addr} {c v : Nat} {ys : List Int} {u : Int} (hy : Bs w B v ys) (hX : Bs w X c [u]) (hn : ys.length ≤ 100000) (hs : a.eval s = .slice B ys.length ys.length) (hx : a.eval x = .slice X 1 c)
   (h : ∀ g cap w', Bs w' (some ⟨g, 0, none⟩) cap (ys ++ [u]) → Dn w w' → w.heap.size ≤ g → wpList Tryz.prog ops Q rest (a.put o.dst (.slice (some ⟨g, 0, none⟩) (ys.length + 1) cap)) w') : wpList Tryz.prog ops Q (o :: rest) a w := by
 obtain ⟨g, cap, w', hr, h2, h3, h4⟩ := run_app_new w o.type hy hX hn
 unfold wpList
 rw [if_pos hw]
 refine .inl ?_
 unfold Oper.wp execOp
 simp only [ho, Go.resolve, invoke, builtin, Sem.run_bind, Sem.run_pure, Result.andThen_ok, List.map_toArray, List.map_cons, List.map_nil, hs, hx, hr]
 exact h g cap w' h2 h3 h4
theorem wpList_app_new {B X : Option Addr} {c v : Nat} {ys : List Int} {u : Int} {s : Operand} (hy : Bs w B v ys) (hX : Bs w X c [u]) (hn : ys.length ≤ 100000) (hs : a.eval s = .slice B ys.length ys.length) (hx : a.eval x = .slice X 1 c)
   (h : ∀ g cap w', Bs w' (some ⟨g, 0, none⟩) cap (ys ++ [u]) → Dn w w' → w.heap.size ≤ g → wpList Tryz.prog ops Q rest (a.put dst (.slice (some ⟨g, 0, none⟩) (ys.length + 1) cap)) w') :
   wpList Tryz.prog ops Q (⟨dst, .call { callee := .builtin .append, args := #[s, x], argTypes := #[27, 27] }, ty, pos, aft, none⟩ :: rest) a w := wpList_app rfl s x rfl hy hX hn hs hx h
end
section
variable {ops : Array Oper} {rest : List Oper} {dst : Option Tmp} {x : Operand} {ty : TypeId} {pos : String} {aft : Array Edge} {gd : Option (Nat × Bool)} {a : Act} {w : World} {Q : Act → Prop} {b : Nat} {m : Mc}
end
end Go.Proofs.YtclpdjpaaagkdaaGreatDoor
