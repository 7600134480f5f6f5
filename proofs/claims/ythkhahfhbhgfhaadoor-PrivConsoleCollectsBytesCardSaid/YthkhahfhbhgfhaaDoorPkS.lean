/-
  Contracts over the translated program and the plain facts behind them, of the texts: RegRefs, RelRefs, FetchRefs, ExRefs. Conditions: those that stand in each theorem.
-/
import Derived.Test.YthkhahfhbhgfhaaDoorPkB
import Derived.Test.YthkhahfhbhgfhaaDoorPkG
import Derived.Test.YthkhahfhbhgfhaaDoorPkC
namespace Go.Proofs.YthkhahfhbhgfhaaDoor
open Go.ChangeShapes Go.WideShapes Go.ChangeAt Go.RowKit Go.Sort
set_option linter.unusedVariables false

def GetRel (W : World) (i : Int) (x : Value) (w : World) : Prop := ∃ k : Nat, 1 ≤ k ∧ k ≤ 16 ∧ x = .int .i64 k ∧ (∀ j : Nat, 1 ≤ j → j < k → i ≠ j) ∧ w = W

theorem refGet (c : List Int) (i : Int) (W : World) (hl : c.length = 16) :
    Calls Tryd.prog 22 #[.agg (ints .u32 c), .int .i64 i] W fun e W' => e = .returned (.int .u32 (M.reg c i)) ∧ Dn W W' := by
  have D := Lib.hid ((Dn.refl W).alloc (.cells (ints .u32 c) 23))
  have R := Lib.hid (Row.new W 23 .u32 c)
  go_enter Tryd.func22, Tryd.ntmps22
  go_wp2_with fail
  obtain ⟨w0, hw0⟩ : ∃ w0, w0 = W.alloc (.cells (ints .u32 c) 23) := ⟨_, rfl⟩
  rw [← hw0] at D R ⊢
  clear hw0
  go_loopw [5] (fun x w => GetRel w0 i x w) (fun x _ => 16 - (intOf x).toNat)
  case atStart => exact ⟨1, by decide, by decide, rfl, fun j h1 h2 => absurd h2 (by omega), rfl⟩
  case round =>
    obtain ⟨k, hk1, hk, rfl, hno, rfl⟩ := hrel
    have HNO := Lib.hid hno
    clear hno
    by_cases hlt : k < 16
    · have hlt2 : (k : Int) < 16 := by omega
      by_cases heq : i = k
      · subst heq
        have HE : Hid (M.reg c k = c.getD k 0) := Lib.hid (by rw [M.reg_in ((M.stored_iff _).2 (by omega)), Int.toNat_natCast])
        have kc : wr.cell? ⟨W.heap.size, k, none⟩ = some (.int .u32 (c.getD k 0)) := R.out.cell k (by omega)
        generalize c.getD k 0 = z at HE kc
        go_wp2
        go_ret
        exact ⟨ret_int HE.out.symm, D.out⟩
      · have hne : ((k : Int) == i) = false := by simp; omega
        have HNE := Lib.hid heq
        clear heq
        go_wp2
        go_roundw
        case rel =>
          refine ⟨k + 1, by omega, by omega, by go_num, fun j h1 h2 => ?_, rfl⟩
          by_cases hj : j = k
          · subst hj; exact HNE.out
          · exact HNO.out j h1 (by omega)
        case measure => simp [intOf]; omega
    · obtain rfl : k = 16 := by omega
      have HE : Hid (M.reg c i = 0) := Lib.hid (by
        refine M.reg_out ((M.stored_no i).2 ?_)
        by_cases h0 : 0 < i ∧ i < 16
        · exact absurd (by omega) (HNO.out i.toNat (by omega) (by omega))
        · omega)
      go_wp2
      go_ret
      exact ⟨ret_int HE.out.symm, D.out⟩

structure PutAt (W : World) (c a : List Int) (w : World) : Prop where
  r : Row w W.heap.size 23 .u32 c
  o : Row w (W.heap.size + 1) 23 .u32 (zeros 16)
  p : Row w (W.heap.size + 1 + 1) 23 .u32 a
  d : Dn W w
theorem PutAt.put {W w : World} {c a : List Int} (h : PutAt W c a w) (k : Nat) (z : Int) : PutAt W c (a.set k z) (w.setCell ⟨W.heap.size + 1 + 1, k, none⟩ (.int .u32 z)) :=
  ⟨h.r.otherCell (by omega) _, h.o.otherCell (by omega) _, h.p.put k z, h.d.setCell (by show W.heap.size ≤ W.heap.size + 1 + 1; omega) _⟩
theorem PutAt.new (W : World) (c : List Int) : PutAt W c (zeros 16) (((W.alloc (.cells (ints .u32 c) 23)).alloc (.cells (ints .u32 (zeros 16)) 23)).alloc (.cells (ints .u32 (zeros 16)) 23)) :=
  ⟨(Row.new W _ _ c).dn (((Dn.refl _).alloc _).alloc _), (Row.second W _ _ _ _).dn ((Dn.refl _).alloc _), Row.third _ _ _ _ _ _, (((Dn.refl W).alloc _).alloc _).alloc _⟩
def PutRel (W : World) (c d : List Int) (x : Value) (w : World) : Prop := ∃ (k : Nat) (a : List Int), k ≤ 16 ∧ x = .int .i64 k ∧ a.length = 16 ∧ (∀ j : Nat, j < k → a.getD j 0 = d.getD j 0) ∧ PutAt W c a w
theorem put_more {a d : List Int} {k : Nat} {z : Int} (hl : a.length = 16) (hk : k < 16) (h : ∀ j : Nat, j < k → a.getD j 0 = d.getD j 0) (hz : d.getD k 0 = z) : ∀ j : Nat, j < k + 1 → (a.set k z).getD j 0 = d.getD j 0 := by
  intro j hj
  rw [M.getD_set]
  by_cases e : k = j
  · subst e; rw [if_pos ⟨rfl, by omega⟩, hz]
  · rw [if_neg (fun h => e h.1), h j (by omega)]

theorem refPut (c : List Int) (i v : Int) (W : World) (hl : c.length = 16) :
    Calls Tryd.prog 21 #[.agg (ints .u32 c), .int .i64 i, .int .u32 v] W fun e W' => e = .returned (.agg (ints .u32 (M.setreg c i v))) ∧ Dn W W' := by
  have P0 := Lib.hid (PutAt.new W c)
  have HD : Hid (∀ j : Nat, (M.setreg c i v).getD j 0 = if M.stored i = true ∧ i = j then v else c.getD j 0) := Lib.hid fun j => M.getD_setreg hl i v j
  have hld : (M.setreg c i v).length = 16 := (M.setreg_len c i v).trans hl
  generalize M.setreg c i v = d at HD hld ⊢
  go_enter Tryd.func21, Tryd.ntmps21
  go_wp2_with (first
    | ((with_reducible refine alloc16 (b := W.heap.size + 1) (size_alloc _ _) ?_ ?_); rfl)
    | ((with_reducible refine alloc16 (b := W.heap.size + 1 + 1) (size2 _ _ _) ?_ ?_); rfl))
  obtain ⟨w0, hw0⟩ : ∃ w0, w0 = ((W.alloc (.cells (ints .u32 c) 23)).alloc (.cells (ints .u32 (zeros 16)) 23)).alloc (.cells (ints .u32 (zeros 16)) 23) := ⟨_, rfl⟩
  rw [← hw0] at P0 ⊢
  clear hw0
  go_loopw [8] (fun x w => PutRel W c d x w) (fun x _ => 16 - (intOf x).toNat)
  case atStart => exact ⟨0, zeros 16, by decide, rfl, rfl, fun j h => absurd h (by omega), P0.out⟩
  case round =>
    obtain ⟨k, a, hk, rfl, hla, hno, hp⟩ := hrel
    have HNO := Lib.hid hno
    have P := Lib.hid hp
    clear hno hp P0
    by_cases hlt : k < 16
    · have hlt2 : (k : Int) < 16 := by omega
      have kr : wr.cell? ⟨W.heap.size, k, none⟩ = some (.int .u32 (c.getD k 0)) := P.out.r.cell k (by omega)
      have ko : wr.cell? ⟨W.heap.size + 1 + 1, k, none⟩ = some (.int .u32 (a.getD k 0)) := P.out.p.cell k (by omega)
      have kf : wr.frozen? ⟨W.heap.size + 1 + 1, k, none⟩ = false := P.out.p.fr k
      have HK := Lib.hid (HD.out k)
      generalize hz : c.getD k 0 = z at kr HK
      generalize a.getD k 0 = y at ko
      have kf2 : (wr.setCell ⟨W.heap.size + 1 + 1, k, none⟩ (.int .u32 z)).frozen? ⟨W.heap.size + 1 + 1, k, none⟩ = false := (P.out.put k z).p.fr k
      have ko2 : (wr.setCell ⟨W.heap.size + 1 + 1, k, none⟩ (.int .u32 z)).cell? ⟨W.heap.size + 1 + 1, k, none⟩ = some (.int .u32 ((a.set k z).getD k 0)) := (P.out.put k z).p.cell k (by simp; omega)
      clear hz
      by_cases heq : i = k
      · subst heq
        by_cases h0 : k = 0
        · subst h0
          have HZ : Hid (d.getD 0 0 = z) := Lib.hid (by rw [HK.out, if_neg (fun h => by have := (M.stored_iff _).1 h.1; omega)])
          go_wp2
          go_roundw
          case rel => exact ⟨0 + 1, a.set 0 z, by omega, by go_num, by simp [hla], put_more hla (by omega) HNO.out HZ.out, P.out.put 0 z⟩
          case measure => simp [intOf]
        · have HZ : Hid (d.getD k 0 = v) := Lib.hid (by rw [HK.out, if_pos ⟨(M.stored_iff _).2 (by omega), rfl⟩])
          have hne : ((k : Int) == 0) = false := by simp; omega
          go_wp2
          go_roundw
          case rel => exact ⟨k + 1, (a.set k z).set k v, by omega, by go_num, by simp [hla], put_more (by simp [hla]) (by omega) (fun j hj => by rw [M.getD_set, if_neg (by omega)]; exact HNO.out j hj) HZ.out, (P.out.put k z).put k v⟩
          case measure => simp [intOf]; omega
      · have HZ : Hid (d.getD k 0 = z) := Lib.hid (by rw [HK.out, if_neg (fun h => heq h.2)])
        have hne : ((k : Int) == i) = false := by simp; omega
        clear heq
        go_wp2
        go_roundw
        case rel => exact ⟨k + 1, a.set k z, by omega, by go_num, by simp [hla], put_more hla hlt HNO.out HZ.out, P.out.put k z⟩
        case measure => simp [intOf]; omega
    · obtain rfl : k = 16 := by omega
      obtain rfl : a = d := M.same_of (by omega) fun j hj => HNO.out j (by omega)
      have ra := P.out.p
      have ro := P.out.o
      go_wp2_with (first
        | ((with_reducible refine load16 ra hld ?_ ?_ ?_); rfl; rfl)
        | ((with_reducible refine restore16 ro a rfl hld ?_ ?_ ?_ ?_); rfl; rfl; rfl))
      exact ret16 Tryd.results21 rfl (ro.stored a) hld ⟨rfl, P.out.d.setRow (by omega) _⟩ rfl
end Go.Proofs.YthkhahfhbhgfhaaDoor
namespace Go.Proofs.YthkhahfhbhgfhaaDoor
open Go.ChangeShapes Go.WideShapes Go.ChangeAt Go.RowKit Go.Sort
set_option linter.unusedVariables false

end Go.Proofs.YthkhahfhbhgfhaaDoor
namespace Go.Proofs.YthkhahfhbhgfhaaDoor
open Go.ChangeShapes Go.WideShapes Go.ChangeAt Go.RowKit Go.Sort
set_option linter.unusedVariables false

set_option maxRecDepth 100000 in
set_option maxHeartbeats 2000000 in
theorem rfew (m : Mc) (b : Bool) (W : World) (hm : m.Ok W) (hx : m.xs.length ≤ 9223372036854775807) (hy : m.ys.length ≤ 9223372036854775807) (hb : decide (m.xs.length ≤ 600 ∧ m.ys.length ≤ 600) = b) :
    Calls Tryd.prog 10 #[.agg (mach m)] W fun e W' => e = .returned (.bool b) ∧ Dn W W' := by
  subst hb
  have hl := hm.len
  by_cases h1 : m.xs.length ≤ 600
  · by_cases h2 : m.ys.length ≤ 600
    · rw [decide_eq_true ⟨h1, h2⟩]
      have h3 : decide ((m.ys.length : Int) ≤ 600) = true := decide_eq_true (by omega)
      have k0 := (Blk.new W 30 (mach m)).mem hl
      have k1 := (Blk.new W 30 (mach m)).out hl
      go_enter Tryd.func10, Tryd.ntmps10
      go_wp2
      go_ret
      exact ⟨rfl, (Dn.refl W).alloc _⟩
    · rw [decide_eq_false (fun h => h2 h.2)]
      have h3 : decide ((m.ys.length : Int) ≤ 600) = false := decide_eq_false (by omega)
      have k0 := (Blk.new W 30 (mach m)).mem hl
      have k1 := (Blk.new W 30 (mach m)).out hl
      go_enter Tryd.func10, Tryd.ntmps10
      go_wp2
      go_ret
      exact ⟨rfl, (Dn.refl W).alloc _⟩
  · rw [decide_eq_false (fun h => h1 h.1)]
    have k0 := (Blk.new W 30 (mach m)).mem hl
    have k1 := (Blk.new W 30 (mach m)).out hl
    go_enter Tryd.func10, Tryd.ntmps10
    go_wp2
    go_ret
    exact ⟨rfl, (Dn.refl W).alloc _⟩
set_option maxRecDepth 100000 in
set_option maxHeartbeats 2000000 in
theorem rsame (m n : Mc) (W : World) (hm : m.Ok W) (hn : n.Ok W) (hs : m.xs.length ≤ 100000) (hs2 : m.ys.length ≤ 100000) (e1 : m.c = n.c) (e2 : m.xs = n.xs) (e3 : m.t = n.t) (e4 : m.ys = n.ys) (e5 : m.h = n.h) :
    Calls Tryd.prog 13 #[.agg (mach m), .agg (mach n)] W fun e W' => e = .returned (.bool true) ∧ Dn W W' := by
  have hl := hm.len
  have hl2 := hn.len
  have om := Lib.hid hm
  have on := Lib.hid hn
  have q1 := fun w => eq29 hl hl2 w
  rw [show (m.c == n.c) = true by simp [e1]] at q1
  have C1 := Lib.hid fun w => fun (ow : m.Ok w) (ox : n.Ok w) => same_yes m.A n.A m.k n.k _ _ m.xs n.xs w ow.mem ox.mem rfl rfl e2 hs
  have C2 := Lib.hid fun w => fun (ow : m.Ok w) (ox : n.Ok w) => same_yes m.B n.B m.q n.q _ _ m.ys n.ys w ow.out ox.out rfl rfl e4 hs2
  have b1 : (m.t == n.t) = true := by simp [e3]
  have b2 : (m.h == n.h) = true := by simp [e5]
  clear e1 e2 e3 e4 e5
  have HD := Lib.hid (Dn.refl W)
  obtain ⟨x0, b_r, hw0, hb0, r, d', nn⟩ := new_blk W 30 (mach m)
  have HL_r : Hid (W.heap.size ≤ b_r) := Lib.hid (by have := HD.out.size; omega)
  clear nn
  replace om := Lib.hid (om.out.dn d')
  replace on := Lib.hid (on.out.dn d')
  replace HD := Lib.hid (HD.out.trans d')
  clear d'
  obtain ⟨x1, b_q, hw1, hb1, q, d', nn⟩ := new_blk x0 30 (mach n)
  have n_r_q := Lib.hid (nn _ r.lt)
  have HL_q : Hid (W.heap.size ≤ b_q) := Lib.hid (by have := HD.out.size; omega)
  clear nn
  replace r := r.dn d'
  replace om := Lib.hid (om.out.dn d')
  replace on := Lib.hid (on.out.dn d')
  replace HD := Lib.hid (HD.out.trans d')
  clear d'
  rw [hw0] at hw1 hb1
  simp only [size_alloc] at hb1
  have R0 := r
  rw [hw1, hb0] at R0
  go_enter Tryd.func13, Tryd.ntmps13
  go_wp2_with ((with_reducible refine loadCore R0 hl ?_ ?_ ?_); rfl; rfl; refine Hid.out ?_)
  refine Lib.hid ?_
  clear R0
  rw [← hw1, ← hb1, ← hb0]
  clear hw0 hb0 hw1 hb1
  have c0 := r.mem hl
  have c1 := q.mem hl2
  have c2 := r.time hl
  have c3 := q.time hl2
  have c4 := r.out hl
  have c5 := q.out hl2
  have c6 := r.halted hl
  have c7 := q.halted hl2
  go_wp2_with (first | ((with_reducible refine load33 r hl ?_ ?_ ?_); rfl; rfl) | ((with_reducible refine loadCore r hl ?_ ?_ ?_); rfl; rfl) | ((with_reducible refine loadCsr r hl ?_ ?_ ?_); rfl; rfl) | ((with_reducible refine load33 q hl2 ?_ ?_ ?_); rfl; rfl) | ((with_reducible refine loadCore q hl2 ?_ ?_ ?_); rfl; rfl) | ((with_reducible refine loadCsr q hl2 ?_ ?_ ?_); rfl; rfl) | (go_at_call 14; (first | (with_reducible refine (C1.out _ om.out on.out).mono ?_) | (with_reducible refine (C2.out _ om.out on.out).mono ?_)); rintro e w' ⟨rfl, d'⟩; replace r := r.dn d'; replace q := q.dn d'; replace om := Lib.hid (om.out.dn d'); replace on := Lib.hid (on.out.dn d'); replace HD := Lib.hid (HD.out.trans d'); replace c0 := r.mem hl; replace c1 := q.mem hl2; replace c2 := r.time hl; replace c3 := q.time hl2; replace c4 := r.out hl; replace c5 := q.out hl2; replace c6 := r.halted hl; replace c7 := q.halted hl2; clear d'))
  go_ret
  exact ⟨rfl, HD.out⟩
end Go.Proofs.YthkhahfhbhgfhaaDoor
namespace Go.Proofs.YthkhahfhbhgfhaaDoor
open Go.ChangeShapes Go.WideShapes Go.ChangeAt Go.RowKit Go.Sort
set_option linter.unusedVariables false

theorem times_eq (n d r : Int) (n0 : -2147483648 ≤ n) (n1 : n < 2147483648) (d0 : 0 ≤ d) (d1 : d ≤ 65536) (h : n * d % 4294967296 = r) : -140737488355328 ≤ n * d ∧ n * d ≤ 140737488355328 ∧ (wrap64 ((n * d).tmod 4294967296 + 4294967296)).tmod 4294967296 % 4294967296 = r := by
  have a1 : -(2147483648 * 65536) ≤ n * d := by
    have := Int.mul_le_mul_of_nonneg_right n0 d0
    have h2 : -2147483648 * d ≥ -(2147483648 * 65536) := by omega
    omega
  have a2 : n * d ≤ 2147483648 * 65536 := by
    have := Int.mul_le_mul_of_nonneg_right (Int.le_of_lt n1) d0
    omega
  generalize n * d = z at h a1 a2 ⊢
  refine ⟨by omega, by omega, ?_⟩
  have ht : z.tmod 4294967296 = z % 4294967296 ∨ z.tmod 4294967296 = z % 4294967296 - 4294967296 := by
    rw [Int.tmod_eq_emod]
    split
    · left; omega
    · right; rfl
  generalize z.tmod 4294967296 = t at ht ⊢
  have hw : wrap64 (t + 4294967296) = t + 4294967296 := by unfold wrap64; omega
  rw [hw, Int.tmod_eq_emod_of_nonneg (by omega)]
  omega
set_option maxRecDepth 100000 in
set_option maxHeartbeats 2000000 in
theorem rMay (op rd ra rb imm : Int) (b : Bool) (i0 : -2147483648 ≤ imm) (i1 : imm < 2147483648) (hb : Is.M.ok op rd ra rb imm = b) (W : World) : Calls Tryd.prog 24 #[.agg (ins op rd ra rb imm)] W fun e W' => e = .returned (.bool b) ∧ Dn W W' :=
  (Is.may op rd ra rb imm W i0 i1).mono fun e w h => ⟨by rw [h.1, hb], dn_of_below h.2.below⟩
theorem rPrivi (op : Int) (b : Bool) (hb : Is.M.priv op = b) (W : World) : Calls Tryd.prog 25 #[.int .i64 op] W fun e W' => e = .returned (.bool b) ∧ Dn W W' :=
  (Is.refPrivileged op W).mono fun e w h => ⟨by rw [h.1, hb], h.2 ▸ Dn.refl _⟩
end Go.Proofs.YthkhahfhbhgfhaaDoor
