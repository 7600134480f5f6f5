/-
  Contracts over the translated program and the plain facts behind them, of the texts: RegRefs, RelRefs, FetchRefs, ExRefs. Conditions: those that stand in each theorem.
-/
import Derived.Test.YtclpdjpaaagkdaaGreatDoorPmB
import Derived.Test.YtclpdjpaaagkdaaGreatDoorPmG
import Derived.Test.YtclpdjpaaagkdaaGreatDoorPmC
namespace Go.Proofs.YtclpdjpaaagkdaaGreatDoor
open Go.ChangeShapes Go.WideShapes Go.ChangeAt Go.RowKit Go.Sort
set_option linter.unusedVariables false

def GetRel (W : World) (i : Int) (x : Value) (w : World) : Prop := ∃ k : Nat, 1 ≤ k ∧ k ≤ 16 ∧ x = .int .i64 k ∧ (∀ j : Nat, 1 ≤ j → j < k → i ≠ j) ∧ w = W

theorem refGet (c : List Int) (i : Int) (W : World) (hl : c.length = 16) :
   Calls Tryz.prog 49 #[.agg (ints .u32 c), .int .i64 i] W fun e W' => e = .returned (.int .u32 (M.reg c i)) ∧ Dn W W' := by
 have D := Lib.hid ((Dn.refl W).alloc (.cells (ints .u32 c) 23))
 have R := Lib.hid (Row.new W 23 .u32 c)
 go_enter Tryz.func49, Tryz.ntmps49
 go_wp2_with fail
 obtain ⟨w0, hw0⟩ : ∃ w0, w0 = W.alloc (.cells (ints .u32 c) 23) := ⟨_, rfl⟩
 rw [← hw0] at D R ⊢
 clear hw0
 go_loopw [5] (fun x w => GetRel w0 i x w) (fun x _ => 16 - (intOf x).toNat)
 case atStart => exact ⟨1, by decide, by decide, rfl, fun j h1 h2 => absurd h2 (by omega), rfl⟩
 case round =>
   obtain ⟨k, hk1, hk, rfl, hno, rfl⟩ := hrel
   have HNO := Lib.hid hno
   clear hno
   by_cases hlt : k < 16
   · have hlt2 : (k : Int) < 16 := by omega
     by_cases heq : i = k
     · subst heq
       have HE : Hid (M.reg c k = c.getD k 0) := Lib.hid (by rw [M.reg_in ((M.stored_iff _).2 (by omega)), Int.toNat_natCast])
       have kc : wr.cell? ⟨W.heap.size, k, none⟩ = some (.int .u32 (c.getD k 0)) := R.out.cell k (by omega)
       generalize c.getD k 0 = z at HE kc
       go_wp2
       go_ret
       exact ⟨ret_int HE.out.symm, D.out⟩
     · have hne : ((k : Int) == i) = false := by simp; omega
       have HNE := Lib.hid heq
       clear heq
       go_wp2
       go_roundw
       case rel =>
         refine ⟨k + 1, by omega, by omega, by go_num, fun j h1 h2 => ?_, rfl⟩
         by_cases hj : j = k
         · subst hj; exact HNE.out
         · exact HNO.out j h1 (by omega)
       case measure => simp [intOf]; omega
   · obtain rfl : k = 16 := by omega
     have HE : Hid (M.reg c i = 0) := Lib.hid (by
       refine M.reg_out ((M.stored_no i).2 ?_)
       by_cases h0 : 0 < i ∧ i < 16
       · exact absurd (by omega) (HNO.out i.toNat (by omega) (by omega))
       · omega)
     go_wp2
     go_ret
     exact ⟨ret_int HE.out.symm, D.out⟩

structure PutAt (W : World) (c a : List Int) (w : World) : Prop where
 r : Row w W.heap.size 23 .u32 c
 o : Row w (W.heap.size + 1) 23 .u32 (zeros 16)
 p : Row w (W.heap.size + 1 + 1) 23 .u32 a
 d : Dn W w
theorem PutAt.put {W w : World} {c a : List Int} (h : PutAt W c a w) (k : Nat) (z : Int) : PutAt W c (a.set k z) (w.setCell ⟨W.heap.size + 1 + 1, k, none⟩ (.int .u32 z)) :=
 ⟨h.r.otherCell (by omega) _, h.o.otherCell (by omega) _, h.p.put k z, h.d.setCell (by show W.heap.size ≤ W.heap.size + 1 + 1; omega) _⟩
theorem PutAt.new (W : World) (c : List Int) : PutAt W c (zeros 16) (((W.alloc (.cells (ints .u32 c) 23)).alloc (.cells (ints .u32 (zeros 16)) 23)).alloc (.cells (ints .u32 (zeros 16)) 23)) :=
 ⟨(Row.new W _ _ c).dn (((Dn.refl _).alloc _).alloc _), (Row.second W _ _ _ _).dn ((Dn.refl _).alloc _), Row.third _ _ _ _ _ _, (((Dn.refl W).alloc _).alloc _).alloc _⟩
def PutRel (W : World) (c d : List Int) (x : Value) (w : World) : Prop := ∃ (k : Nat) (a : List Int), k ≤ 16 ∧ x = .int .i64 k ∧ a.length = 16 ∧ (∀ j : Nat, j < k → a.getD j 0 = d.getD j 0) ∧ PutAt W c a w
theorem put_more {a d : List Int} {k : Nat} {z : Int} (hl : a.length = 16) (hk : k < 16) (h : ∀ j : Nat, j < k → a.getD j 0 = d.getD j 0) (hz : d.getD k 0 = z) : ∀ j : Nat, j < k + 1 → (a.set k z).getD j 0 = d.getD j 0 := by
 intro j hj
 rw [M.getD_set]
 by_cases e : k = j
 · subst e; rw [if_pos ⟨rfl, by omega⟩, hz]
 · rw [if_neg (fun h => e h.1), h j (by omega)]

theorem refPut (c : List Int) (i v : Int) (W : World) (hl : c.length = 16) :
   Calls Tryz.prog 51 #[.agg (ints .u32 c), .int .i64 i, .int .u32 v] W fun e W' => e = .returned (.agg (ints .u32 (M.setreg c i v))) ∧ Dn W W' := by
 have P0 := Lib.hid (PutAt.new W c)
 have HD : Hid (∀ j : Nat, (M.setreg c i v).getD j 0 = if M.stored i = true ∧ i = j then v else c.getD j 0) := Lib.hid fun j => M.getD_setreg hl i v j
 have hld : (M.setreg c i v).length = 16 := (M.setreg_len c i v).trans hl
 generalize M.setreg c i v = d at HD hld ⊢
 go_enter Tryz.func51, Tryz.ntmps51
 go_wp2_with (first
   | ((with_reducible refine alloc16 (b := W.heap.size + 1) (size_alloc _ _) ?_ ?_); rfl)
   | ((with_reducible refine alloc16 (b := W.heap.size + 1 + 1) (size2 _ _ _) ?_ ?_); rfl))
 obtain ⟨w0, hw0⟩ : ∃ w0, w0 = ((W.alloc (.cells (ints .u32 c) 23)).alloc (.cells (ints .u32 (zeros 16)) 23)).alloc (.cells (ints .u32 (zeros 16)) 23) := ⟨_, rfl⟩
 rw [← hw0] at P0 ⊢
 clear hw0
 go_loopw [8] (fun x w => PutRel W c d x w) (fun x _ => 16 - (intOf x).toNat)
 case atStart => exact ⟨0, zeros 16, by decide, rfl, rfl, fun j h => absurd h (by omega), P0.out⟩
 case round =>
   obtain ⟨k, a, hk, rfl, hla, hno, hp⟩ := hrel
   have HNO := Lib.hid hno
   have P := Lib.hid hp
   clear hno hp P0
   by_cases hlt : k < 16
   · have hlt2 : (k : Int) < 16 := by omega
     have kr : wr.cell? ⟨W.heap.size, k, none⟩ = some (.int .u32 (c.getD k 0)) := P.out.r.cell k (by omega)
     have ko : wr.cell? ⟨W.heap.size + 1 + 1, k, none⟩ = some (.int .u32 (a.getD k 0)) := P.out.p.cell k (by omega)
     have kf : wr.frozen? ⟨W.heap.size + 1 + 1, k, none⟩ = false := P.out.p.fr k
     have HK := Lib.hid (HD.out k)
     generalize hz : c.getD k 0 = z at kr HK
     generalize a.getD k 0 = y at ko
     have kf2 : (wr.setCell ⟨W.heap.size + 1 + 1, k, none⟩ (.int .u32 z)).frozen? ⟨W.heap.size + 1 + 1, k, none⟩ = false := (P.out.put k z).p.fr k
     have ko2 : (wr.setCell ⟨W.heap.size + 1 + 1, k, none⟩ (.int .u32 z)).cell? ⟨W.heap.size + 1 + 1, k, none⟩ = some (.int .u32 ((a.set k z).getD k 0)) := (P.out.put k z).p.cell k (by simp; omega)
     clear hz
     by_cases heq : i = k
     · subst heq
       by_cases h0 : k = 0
       · subst h0
         have HZ : Hid (d.getD 0 0 = z) := Lib.hid (by rw [HK.out, if_neg (fun h => by have := (M.stored_iff _).1 h.1; omega)])
         go_wp2
         go_roundw
         case rel => exact ⟨0 + 1, a.set 0 z, by omega, by go_num, by simp [hla], put_more hla (by omega) HNO.out HZ.out, P.out.put 0 z⟩
         case measure => simp [intOf]
       · have HZ : Hid (d.getD k 0 = v) := Lib.hid (by rw [HK.out, if_pos ⟨(M.stored_iff _).2 (by omega), rfl⟩])
         have hne : ((k : Int) == 0) = false := by simp; omega
         go_wp2
         go_roundw
         case rel => exact ⟨k + 1, (a.set k z).set k v, by omega, by go_num, by simp [hla], put_more (by simp [hla]) (by omega) (fun j hj => by rw [M.getD_set, if_neg (by omega)]; exact HNO.out j hj) HZ.out, (P.out.put k z).put k v⟩
         case measure => simp [intOf]; omega
     · have HZ : Hid (d.getD k 0 = z) := Lib.hid (by rw [HK.out, if_neg (fun h => heq h.2)])
       have hne : ((k : Int) == i) = false := by simp; omega
       clear heq
       go_wp2
       go_roundw
       case rel => exact ⟨k + 1, a.set k z, by omega, by go_num, by simp [hla], put_more hla hlt HNO.out HZ.out, P.out.put k z⟩
       case measure => simp [intOf]; omega
   · obtain rfl : k = 16 := by omega
     obtain rfl : a = d := M.same_of (by omega) fun j hj => HNO.out j (by omega)
     have ra := P.out.p
     have ro := P.out.o
     go_wp2_with (first
       | ((with_reducible refine load16 ra hld ?_ ?_ ?_); rfl; rfl)
       | ((with_reducible refine restore16 ro a rfl hld ?_ ?_ ?_ ?_); rfl; rfl; rfl))
     exact ret16 Tryz.results51 rfl (ro.stored a) hld ⟨rfl, P.out.d.setRow (by omega) _⟩ rfl

theorem by_ (base bound size a n : Int) (W : World) (b0 : 0 ≤ base) (b1 : base < 4294967296) (k0 : 0 ≤ bound) (k1 : bound < 4294967296) (s0 : 0 ≤ size) (s1 : size < 4294967296) (a0 : 0 ≤ a) (a1 : a < 4294967296) (n0 : 1 ≤ n) (n1 : n ≤ 4) :
   Calls Tryz.prog 125 #[.int .u32 base, .int .u32 bound, .int .u32 size, .int .u32 a, .int .i64 n] W fun e W' => e = .returned (.tuple #[.int .u32 (M.phys base bound size a n), .bool (M.hit base bound size a n)]) ∧ W = W' := by
 by_cases h1 : bound < a + n
 · have hh : M.hit base bound size a n = false := by rw [Bool.eq_false_iff, ne_eq, M.hit_iff]; omega
   have E1 := Lib.hid (M.phys_miss hh)
   have E2 := Lib.hid hh
   clear hh
   go_enter Tryz.func125, Tryz.ntmps125
   go_wp2
   go_ret2
   exact ⟨ret_ib E1.out.symm E2.out.symm, rfl⟩
 by_cases h2 : size < base + (a + n)
 · have hh : M.hit base bound size a n = false := by rw [Bool.eq_false_iff, ne_eq, M.hit_iff]; omega
   have E1 := Lib.hid (M.phys_miss hh)
   have E2 := Lib.hid hh
   clear hh
   go_enter Tryz.func125, Tryz.ntmps125
   go_wp2
   go_ret2
   exact ⟨ret_ib E1.out.symm E2.out.symm, rfl⟩
 · have hh : M.hit base bound size a n = true := by rw [M.hit_iff]; omega
   have E1 := Lib.hid (M.phys_hit hh)
   have E2 := Lib.hid hh
   have hw : IntKind.u32.wrap (base + a) = base + a := by rw [IntKind.wrap_u32]; omega
   clear hh
   go_enter Tryz.func125, Tryz.ntmps125
   go_wp2
   go_ret2
   exact ⟨ret_ib E1.out.symm E2.out.symm, rfl⟩

theorem super_ (c : List Int) (W : World) (hc : M.Core c) :
   Calls Tryz.prog 48 #[.agg (ints .u32 c)] W fun e W' => e = .returned (.bool (M.sup c)) ∧ Dn W W' := by
 have k : (W.alloc (.cells (ints .u32 c) 26)).cell? ⟨W.heap.size, 17, none⟩ = some (.int .u32 (M.csr c 0)) := (Row.new W 26 .u32 c).csr hc 0 (by decide)
 have r := hc.csr 0
 have HE : Hid ((M.csr c 0 % 2 == 1) = M.sup c) := Lib.hid rfl
 go_enter Tryz.func48, Tryz.ntmps48
 go_wp2
 go_ret
 exact ⟨ret_bool HE.out, (Dn.refl W).alloc _⟩

theorem at_ (c : List Int) (size a n : Int) (W : World) (hc : M.Core c) (s0 : 0 ≤ size) (s1 : size < 4294967296) (a0 : 0 ≤ a) (a1 : a < 4294967296) (n0 : 1 ≤ n) (n1 : n ≤ 4) :
   Calls Tryz.prog 93 #[.agg (ints .u32 c), .int .u32 size, .int .u32 a, .int .i64 n] W fun e W' => e = .returned (.tuple #[.int .u32 (M.phys (M.ub c) (M.un c size) size a n), .bool (M.hit (M.ub c) (M.un c size) size a n)]) ∧ Dn W W' := by
 have hl := hc.len
 have r := Row.new W 26 .u32 c
 have R := Lib.hid r
 have D := Lib.hid ((Dn.refl W).alloc (.cells (ints .u32 c) 26))
 cases hs : M.sup c
 · have e1 : M.ub c = M.csr c 5 := by unfold M.ub; rw [hs]; rfl
   have e2 : M.un c size = M.csr c 6 := by unfold M.un; rw [hs]; rfl
   rw [e1, e2]
   have u1 := hc.csr 5
   have u2 := hc.csr 6
   clear e1 e2
   go_enter Tryz.func93, Tryz.ntmps93
   go_wp2_with (first | ((with_reducible refine load29 r hl ?_ ?_ ?_); rfl; rfl))
   refine (super_ c _ hc).mono ?_
   rintro e w1 ⟨rfl, d1⟩
   rw [hs]
   have r5 : w1.cell? ⟨W.heap.size, 22, none⟩ = some (.int .u32 (M.csr c 5)) := (R.out.dn d1).csr hc 5 (by decide)
   have r6 : w1.cell? ⟨W.heap.size, 23, none⟩ = some (.int .u32 (M.csr c 6)) := (R.out.dn d1).csr hc 6 (by decide)
   have D1 := Lib.hid (D.out.trans d1)
   clear r d1
   go_wp2_with fail
   refine (by_ (M.csr c 5) (M.csr c 6) size a n _ u1.1 u1.2 u2.1 u2.2 s0 s1 a0 a1 n0 n1).mono ?_
   rintro e w2 ⟨rfl, rfl⟩
   go_wp2
   go_ret2
   exact ⟨rfl, D1.out⟩
 · have e1 : M.ub c = 0 := by unfold M.ub; rw [hs]; rfl
   have e2 : M.un c size = size := by unfold M.un; rw [hs]; rfl
   rw [e1, e2]
   clear e1 e2
   go_enter Tryz.func93, Tryz.ntmps93
   go_wp2_with (first | ((with_reducible refine load29 r hl ?_ ?_ ?_); rfl; rfl))
   refine (super_ c _ hc).mono ?_
   rintro e w1 ⟨rfl, d1⟩
   rw [hs]
   have D1 := Lib.hid (D.out.trans d1)
   clear r d1
   go_wp2_with fail
   refine (by_ 0 size size a n _ (by decide) (by decide) s0 s1 s0 s1 a0 a1 n0 n1).mono ?_
   rintro e w2 ⟨rfl, rfl⟩
   go_wp2
   go_ret2
   exact ⟨rfl, D1.out⟩


set_option maxRecDepth 100000 in
theorem refEnabled (c : List Int) (W : World) (hc : M.Core c) :
   Calls Tryz.prog 31 #[.agg (ints .u32 c)] W fun e W' => e = .returned (.bool (M.ien c)) ∧ Dn W W' := by
 have k : (W.alloc (.cells (ints .u32 c) 26)).cell? ⟨W.heap.size, 17, none⟩ = some (.int .u32 (M.csr c 0)) := (Row.new W 26 .u32 c).cell 17 (by rw [hc.len]; decide)
 have r := hc.csr 0
 go_enter Tryz.func31, Tryz.ntmps31
 go_wp2
 go_ret
 refine ⟨ret_bool ?_, (Dn.refl W).alloc _⟩
 unfold M.ien M.bt
 generalize M.csr c 0 = x
 by_cases h : x / 2 % 2 = 1 <;> simp [h]
set_option maxRecDepth 100000 in
theorem refCompare (c : List Int) (W : World) (hc : M.Core c) :
   Calls Tryz.prog 32 #[.agg (ints .u32 (c.drop 17))] W fun e W' => e = .returned (.int .u64 (M.tcmp c)) ∧ Dn W W' := by
 have hl : (c.drop 17).length = 12 := by rw [List.length_drop, hc.len]
 have k9 : (W.alloc (.cells (ints .u32 (c.drop 17)) 24)).cell? ⟨W.heap.size, 9, none⟩ = some (.int .u32 (M.csr c 9)) := by rw [← csr_drop hc]; exact (Row.new W 24 .u32 _).cell 9 (by omega)
 have k10 : (W.alloc (.cells (ints .u32 (c.drop 17)) 24)).cell? ⟨W.heap.size, 10, none⟩ = some (.int .u32 (M.csr c 10)) := by rw [← csr_drop hc]; exact (Row.new W 24 .u32 _).cell 10 (by omega)
 have r9 := hc.csr 9
 have r10 := hc.csr 10
 have D := Lib.hid ((Dn.refl W).alloc (.cells (ints .u32 (c.drop 17)) 24))
 generalize ints .u32 (c.drop 17) = cs at *
 clear hl
 go_enter Tryz.func32, Tryz.ntmps32
 go_wp2
 go_ret
 exact ⟨rfl, D.out⟩
set_option maxRecDepth 100000 in
set_option maxHeartbeats 2000000 in
theorem cell_mis (m : Mc) (a n : Int) (W : World) (hm : m.Ok W) (hs : m.xs.length ≤ 100000) (a0 : 0 ≤ a) (a1 : a < 4294967296) (n0 : 1 ≤ n) (n1 : n ≤ 4) (h : n = 4 ∧ a % 4 ≠ 0) :
   Calls Tryz.prog 70 #[.agg (mach m), .int .u32 a, .int .i64 n] W fun e W' => e = .returned (.tuple #[.int .u32 0, .agg #[.int .i64 4, .int .u32 a]]) ∧ Dn W W' := by
 obtain ⟨rfl, h2⟩ := h
 have h3 : (a % 4 != 0) = true := by simpa using h2
 clear h2
 have hl := hm.len
 have HD := Lib.hid (Dn.refl W)
 obtain ⟨x0, b_r, hw0, hb0, r, d', nn⟩ := new_blk W 30 (mach m)
 clear nn
 replace HD := hT HD d'
 clear d'
 obtain ⟨x1, b_g, hw1, hb1, g, d', nn⟩ := new_blk x0 46 #[.int .i64 0, .int .u32 0]
 have n_r_g := Lib.hid (nn _ r.lt)
 have HL_g : Hid (W.heap.size ≤ b_g) := Lib.hid (by have := HD.out.size; omega)
 clear nn
 replace r := r.dn d'
 replace HD := hT HD d'
 clear d'
 rw [hw0] at hw1 hb1
 simp only [size_alloc] at hb1
 go_enter Tryz.func70, Tryz.ntmps70
 go_wp2_with (first | ((with_reducible refine allocTrap (b := W.heap.size + 1) (size_alloc _ _) ?_ ?_); rfl; refine Hid.out ?_))
 refine Lib.hid ?_
 rw [← hw1, ← hb1, ← hb0]
 clear hw0 hb0 hw1 hb1
 go_wp2_with (first | ((with_reducible refine load33 r hl ?_ ?_ ?_); rfl; rfl) | ((with_reducible refine loadCore r hl ?_ ?_ ?_); rfl; rfl) | ((with_reducible refine loadCsr r hl ?_ ?_ ?_); rfl; rfl) | ((with_reducible refine loadTrap g ?_ ?_ ?_); rfl; rfl) | ((with_reducible refine storeTrap (k := 4) (v := a) g ?_ ?_ ?_ ?_); rfl; rfl; rfl; intro w' r' t'; refine Hid.out ?_))
 refine Lib.hid ?_
 replace r := r.trn t' n_r_g.out
 replace HD := Lib.hid (HD.out.trn HL_g.out t')
 clear t' g
 have g := r'
 clear r'
 go_wp2_with fail
 exact retWT rfl rfl rfl g ⟨rfl, HD.out⟩ rfl
set_option maxRecDepth 100000 in
set_option maxHeartbeats 2000000 in
theorem cell_4false (m : Mc) (a n : Int) (W : World) (hm : m.Ok W) (hs : m.xs.length ≤ 100000) (a0 : 0 ≤ a) (a1 : a < 4294967296) (n0 : 1 ≤ n) (n1 : n ≤ 4) (h4 : n = 4) (h : a % 4 = 0) (h2 : M.hit (M.ub m.c) (M.un m.c m.xs.length) m.xs.length a n = false) :
   Calls Tryz.prog 70 #[.agg (mach m), .int .u32 a, .int .i64 n] W fun e W' => e = .returned (.tuple #[.int .u32 0, .agg #[.int .i64 3, .int .u32 a]]) ∧ Dn W W' := by
 have h : (a % 4 != 0) = false := by simpa using h
 subst h4
 have C2 := Lib.hid fun w => at_ m.c m.xs.length a 4 w hm.core (by omega) (by omega) a0 a1 (by omega) (by omega)
 rw [h2, M.phys_miss h2] at C2
 clear h2
 have hl := hm.len
 have HD := Lib.hid (Dn.refl W)
 obtain ⟨x0, b_r, hw0, hb0, r, d', nn⟩ := new_blk W 30 (mach m)
 clear nn
 replace HD := hT HD d'
 clear d'
 obtain ⟨x1, b_g, hw1, hb1, g, d', nn⟩ := new_blk x0 46 #[.int .i64 0, .int .u32 0]
 have n_r_g := Lib.hid (nn _ r.lt)
 have HL_g : Hid (W.heap.size ≤ b_g) := Lib.hid (by have := HD.out.size; omega)
 clear nn
 replace r := r.dn d'
 replace HD := hT HD d'
 clear d'
 rw [hw0] at hw1 hb1
 simp only [size_alloc] at hb1
 go_enter Tryz.func70, Tryz.ntmps70
 go_wp2_with (first | ((with_reducible refine allocTrap (b := W.heap.size + 1) (size_alloc _ _) ?_ ?_); rfl; refine Hid.out ?_))
 refine Lib.hid ?_
 rw [← hw1, ← hb1, ← hb0]
 clear hw0 hb0 hw1 hb1
 have c0 := r.mem hl
 go_wp2_with (first | ((with_reducible refine load33 r hl ?_ ?_ ?_); rfl; rfl) | ((with_reducible refine loadCore r hl ?_ ?_ ?_); rfl; rfl) | ((with_reducible refine loadCsr r hl ?_ ?_ ?_); rfl; rfl) | ((with_reducible refine loadTrap g ?_ ?_ ?_); rfl; rfl) | (go_at_call 93; (first | (with_reducible refine (C2.out _).mono ?_)); rintro e w' ⟨rfl, d'⟩; replace r := r.dn d'; replace g := g.dn d'; replace HD := hT HD d'; replace c0 := r.mem hl; clear d') | ((with_reducible refine storeTrap (k := 3) (v := a) g ?_ ?_ ?_ ?_); rfl; rfl; rfl; intro w' r' t'; refine Hid.out ?_))
 refine Lib.hid ?_
 replace r := r.trn t' n_r_g.out
 replace HD := Lib.hid (HD.out.trn HL_g.out t')
 clear t' g
 have g := r'
 clear r'
 replace c0 := r.mem hl
 go_wp2_with fail
 exact retWT rfl rfl rfl g ⟨rfl, HD.out⟩ rfl
set_option maxRecDepth 100000 in
set_option maxHeartbeats 2000000 in
theorem cell_4true (m : Mc) (a n : Int) (W : World) (hm : m.Ok W) (hs : m.xs.length ≤ 100000) (a0 : 0 ≤ a) (a1 : a < 4294967296) (n0 : 1 ≤ n) (n1 : n ≤ 4) (h4 : n = 4) (h : a % 4 = 0) (h2 : M.hit (M.ub m.c) (M.un m.c m.xs.length) m.xs.length a n = true) :
   Calls Tryz.prog 70 #[.agg (mach m), .int .u32 a, .int .i64 n] W fun e W' => e = .returned (.tuple #[.int .u32 (M.ub m.c + a), .agg #[.int .i64 0, .int .u32 0]]) ∧ Dn W W' := by
 have h : (a % 4 != 0) = false := by simpa using h
 subst h4
 have C2 := Lib.hid fun w => at_ m.c m.xs.length a 4 w hm.core (by omega) (by omega) a0 a1 (by omega) (by omega)
 rw [h2, M.phys_hit h2] at C2
 generalize M.ub m.c + a = p at *
 clear h2
 have hl := hm.len
 have HD := Lib.hid (Dn.refl W)
 obtain ⟨x0, b_r, hw0, hb0, r, d', nn⟩ := new_blk W 30 (mach m)
 clear nn
 replace HD := hT HD d'
 clear d'
 obtain ⟨x1, b_g, hw1, hb1, g, d', nn⟩ := new_blk x0 46 #[.int .i64 0, .int .u32 0]
 have n_r_g := Lib.hid (nn _ r.lt)
 have HL_g : Hid (W.heap.size ≤ b_g) := Lib.hid (by have := HD.out.size; omega)
 clear nn
 replace r := r.dn d'
 replace HD := hT HD d'
 clear d'
 rw [hw0] at hw1 hb1
 simp only [size_alloc] at hb1
 go_enter Tryz.func70, Tryz.ntmps70
 go_wp2_with (first | ((with_reducible refine allocTrap (b := W.heap.size + 1) (size_alloc _ _) ?_ ?_); rfl; refine Hid.out ?_))
 refine Lib.hid ?_
 rw [← hw1, ← hb1, ← hb0]
 clear hw0 hb0 hw1 hb1
 have c0 := r.mem hl
 go_wp2_with (first | ((with_reducible refine load33 r hl ?_ ?_ ?_); rfl; rfl) | ((with_reducible refine loadCore r hl ?_ ?_ ?_); rfl; rfl) | ((with_reducible refine loadCsr r hl ?_ ?_ ?_); rfl; rfl) | ((with_reducible refine loadTrap g ?_ ?_ ?_); rfl; rfl) | (go_at_call 93; (first | (with_reducible refine (C2.out _).mono ?_)); rintro e w' ⟨rfl, d'⟩; replace r := r.dn d'; replace g := g.dn d'; replace HD := hT HD d'; replace c0 := r.mem hl; clear d') | ((with_reducible refine storeTrap (k := 0) (v := 0) g ?_ ?_ ?_ ?_); rfl; rfl; rfl; intro w' r' t'; refine Hid.out ?_))
 refine Lib.hid ?_
 replace r := r.trn t' n_r_g.out
 replace HD := Lib.hid (HD.out.trn HL_g.out t')
 clear t' g
 have g := r'
 clear r'
 replace c0 := r.mem hl
 go_wp2_with fail
 exact retWT rfl rfl rfl g ⟨rfl, HD.out⟩ rfl
set_option maxRecDepth 100000 in
set_option maxHeartbeats 2000000 in
theorem cell_1false (m : Mc) (a n : Int) (W : World) (hm : m.Ok W) (hs : m.xs.length ≤ 100000) (a0 : 0 ≤ a) (a1 : a < 4294967296) (n0 : 1 ≤ n) (n1 : n ≤ 4) (h : n ≠ 4) (h2 : M.hit (M.ub m.c) (M.un m.c m.xs.length) m.xs.length a n = false) :
   Calls Tryz.prog 70 #[.agg (mach m), .int .u32 a, .int .i64 n] W fun e W' => e = .returned (.tuple #[.int .u32 0, .agg #[.int .i64 3, .int .u32 a]]) ∧ Dn W W' := by
 have h4 : (n == 4) = false := by simpa using h
 clear h
 have C2 := Lib.hid fun w => at_ m.c m.xs.length a n w hm.core (by omega) (by omega) a0 a1 (by omega) (by omega)
 rw [h2, M.phys_miss h2] at C2
 clear h2
 have hl := hm.len
 have HD := Lib.hid (Dn.refl W)
 obtain ⟨x0, b_r, hw0, hb0, r, d', nn⟩ := new_blk W 30 (mach m)
 clear nn
 replace HD := hT HD d'
 clear d'
 obtain ⟨x1, b_g, hw1, hb1, g, d', nn⟩ := new_blk x0 46 #[.int .i64 0, .int .u32 0]
 have n_r_g := Lib.hid (nn _ r.lt)
 have HL_g : Hid (W.heap.size ≤ b_g) := Lib.hid (by have := HD.out.size; omega)
 clear nn
 replace r := r.dn d'
 replace HD := hT HD d'
 clear d'
 rw [hw0] at hw1 hb1
 simp only [size_alloc] at hb1
 go_enter Tryz.func70, Tryz.ntmps70
 go_wp2_with (first | ((with_reducible refine allocTrap (b := W.heap.size + 1) (size_alloc _ _) ?_ ?_); rfl; refine Hid.out ?_))
 refine Lib.hid ?_
 rw [← hw1, ← hb1, ← hb0]
 clear hw0 hb0 hw1 hb1
 have c0 := r.mem hl
 go_wp2_with (first | ((with_reducible refine load33 r hl ?_ ?_ ?_); rfl; rfl) | ((with_reducible refine loadCore r hl ?_ ?_ ?_); rfl; rfl) | ((with_reducible refine loadCsr r hl ?_ ?_ ?_); rfl; rfl) | ((with_reducible refine loadTrap g ?_ ?_ ?_); rfl; rfl) | (go_at_call 93; (first | (with_reducible refine (C2.out _).mono ?_)); rintro e w' ⟨rfl, d'⟩; replace r := r.dn d'; replace g := g.dn d'; replace HD := hT HD d'; replace c0 := r.mem hl; clear d') | ((with_reducible refine storeTrap (k := 3) (v := a) g ?_ ?_ ?_ ?_); rfl; rfl; rfl; intro w' r' t'; refine Hid.out ?_))
 refine Lib.hid ?_
 replace r := r.trn t' n_r_g.out
 replace HD := Lib.hid (HD.out.trn HL_g.out t')
 clear t' g
 have g := r'
 clear r'
 replace c0 := r.mem hl
 go_wp2_with fail
 exact retWT rfl rfl rfl g ⟨rfl, HD.out⟩ rfl
set_option maxRecDepth 100000 in
set_option maxHeartbeats 2000000 in
theorem cell_1true (m : Mc) (a n : Int) (W : World) (hm : m.Ok W) (hs : m.xs.length ≤ 100000) (a0 : 0 ≤ a) (a1 : a < 4294967296) (n0 : 1 ≤ n) (n1 : n ≤ 4) (h : n ≠ 4) (h2 : M.hit (M.ub m.c) (M.un m.c m.xs.length) m.xs.length a n = true) :
   Calls Tryz.prog 70 #[.agg (mach m), .int .u32 a, .int .i64 n] W fun e W' => e = .returned (.tuple #[.int .u32 (M.ub m.c + a), .agg #[.int .i64 0, .int .u32 0]]) ∧ Dn W W' := by
 have h4 : (n == 4) = false := by simpa using h
 clear h
 have C2 := Lib.hid fun w => at_ m.c m.xs.length a n w hm.core (by omega) (by omega) a0 a1 (by omega) (by omega)
 rw [h2, M.phys_hit h2] at C2
 generalize M.ub m.c + a = p at *
 clear h2
 have hl := hm.len
 have HD := Lib.hid (Dn.refl W)
 obtain ⟨x0, b_r, hw0, hb0, r, d', nn⟩ := new_blk W 30 (mach m)
 clear nn
 replace HD := hT HD d'
 clear d'
 obtain ⟨x1, b_g, hw1, hb1, g, d', nn⟩ := new_blk x0 46 #[.int .i64 0, .int .u32 0]
 have n_r_g := Lib.hid (nn _ r.lt)
 have HL_g : Hid (W.heap.size ≤ b_g) := Lib.hid (by have := HD.out.size; omega)
 clear nn
 replace r := r.dn d'
 replace HD := hT HD d'
 clear d'
 rw [hw0] at hw1 hb1
 simp only [size_alloc] at hb1
 go_enter Tryz.func70, Tryz.ntmps70
 go_wp2_with (first | ((with_reducible refine allocTrap (b := W.heap.size + 1) (size_alloc _ _) ?_ ?_); rfl; refine Hid.out ?_))
 refine Lib.hid ?_
 rw [← hw1, ← hb1, ← hb0]
 clear hw0 hb0 hw1 hb1
 have c0 := r.mem hl
 go_wp2_with (first | ((with_reducible refine load33 r hl ?_ ?_ ?_); rfl; rfl) | ((with_reducible refine loadCore r hl ?_ ?_ ?_); rfl; rfl) | ((with_reducible refine loadCsr r hl ?_ ?_ ?_); rfl; rfl) | ((with_reducible refine loadTrap g ?_ ?_ ?_); rfl; rfl) | (go_at_call 93; (first | (with_reducible refine (C2.out _).mono ?_)); rintro e w' ⟨rfl, d'⟩; replace r := r.dn d'; replace g := g.dn d'; replace HD := hT HD d'; replace c0 := r.mem hl; clear d') | ((with_reducible refine storeTrap (k := 0) (v := 0) g ?_ ?_ ?_ ?_); rfl; rfl; rfl; intro w' r' t'; refine Hid.out ?_))
 refine Lib.hid ?_
 replace r := r.trn t' n_r_g.out
 replace HD := Lib.hid (HD.out.trn HL_g.out t')
 clear t' g
 have g := r'
 clear r'
 replace c0 := r.mem hl
 go_wp2_with fail
 exact retWT rfl rfl rfl g ⟨rfl, HD.out⟩ rfl
theorem rcell (m : Mc) (a n p k v : Int) (W : World) (hm : m.Ok W) (hs : m.xs.length ≤ 100000) (a0 : 0 ≤ a) (a1 : a < 4294967296) (n0 : 1 ≤ n) (n1 : n ≤ 4) (ep : M.apa m.c m.xs.length a n = p) (ek : M.acz m.c m.xs.length a n = k) (ev : M.atv m.c m.xs.length a n = v) :
   Calls Tryz.prog 70 #[.agg (mach m), .int .u32 a, .int .i64 n] W fun e W' => e = .returned (.tuple #[.int .u32 p, .agg #[.int .i64 k, .int .u32 v]]) ∧ Dn W W' := by
 subst ep ek ev
 by_cases h : n = 4 ∧ a % 4 ≠ 0
 · have e := M.acz_mis (c := m.c) (s := m.xs.length) h.1 h.2
   rw [e, M.apa_no (by rw [e]; decide), M.atv_no (by rw [e]; decide)]
   exact cell_mis m a n W hm hs a0 a1 n0 n1 h
 · cases h2 : M.hit (M.ub m.c) (M.un m.c m.xs.length) m.xs.length a n
   · have e := M.acz_no h h2
     rw [e, M.apa_no (by rw [e]; decide), M.atv_no (by rw [e]; decide)]
     by_cases h4 : n = 4
     · exact cell_4false m a n W hm hs a0 a1 n0 n1 h4 (by omega) h2
     · exact cell_1false m a n W hm hs a0 a1 n0 n1 h4 h2
   · have e := M.acz_yes h h2
     rw [e, M.apa_yes e, M.atv_yes e]
     by_cases h4 : n = 4
     · exact cell_4true m a n W hm hs a0 a1 n0 n1 h4 (by omega) h2
     · exact cell_1true m a n W hm hs a0 a1 n0 n1 h4 h2
set_option maxRecDepth 100000 in
set_option maxHeartbeats 2000000 in
theorem rload_trap (m : Mc) (a n : Int) (W : World) (hm : m.Ok W) (hs : m.xs.length ≤ 100000) (a0 : 0 ≤ a) (a1 : a < 4294967296) (n0 : 1 ≤ n) (n1 : n ≤ 4) (k v : Int) (ek : M.acz m.c m.xs.length a n = k) (ev : M.atv m.c m.xs.length a n = v) (hk : k ≠ 0) :
   Calls Tryz.prog 46 #[.agg (mach m), .int .u32 a, .int .i64 n] W fun e W' => e = .returned (.tuple #[.int .u32 0, .agg #[.int .i64 k, .int .u32 v]]) ∧ Dn W W' := by
 obtain ⟨p, ep⟩ : ∃ p, M.apa m.c m.xs.length a n = p := ⟨_, rfl⟩
 have C1 := Lib.hid fun w => fun (ow : m.Ok w) => rcell m a n p k v w ow hs a0 a1 n0 n1 ep ek ev
 have hkb : (k == 0) = false := by simpa using hk
 clear ep ek ev hk
 have hl := hm.len
 have om := Lib.hid hm
 have HD := Lib.hid (Dn.refl W)
 obtain ⟨x0, b_r, hw0, hb0, r, d', nn⟩ := new_blk W 30 (mach m)
 clear nn
 replace om := Lib.hid (om.out.dn d')
 replace HD := hT HD d'
 clear d'
 obtain ⟨x1, b_g, hw1, hb1, g, d', nn⟩ := new_blk x0 46 #[.int .i64 0, .int .u32 0]
 have n_r_g := Lib.hid (nn _ r.lt)
 have HL_g : Hid (W.heap.size ≤ b_g) := Lib.hid (by have := HD.out.size; omega)
 clear nn
 replace r := r.dn d'
 replace om := Lib.hid (om.out.dn d')
 replace HD := hT HD d'
 clear d'
 rw [hw0] at hw1 hb1
 simp only [size_alloc] at hb1
 go_enter Tryz.func46, Tryz.ntmps46
 go_wp2_with (first | ((with_reducible refine allocTrap (b := W.heap.size + 1) (size_alloc _ _) ?_ ?_); rfl; refine Hid.out ?_))
 refine Lib.hid ?_
 rw [← hw1, ← hb1, ← hb0]
 clear hw0 hb0 hw1 hb1
 go_wp2_with (first | ((with_reducible refine load33 r hl ?_ ?_ ?_); rfl; rfl) | ((with_reducible refine loadCore r hl ?_ ?_ ?_); rfl; rfl) | ((with_reducible refine loadCsr r hl ?_ ?_ ?_); rfl; rfl) | ((with_reducible refine loadTrap g ?_ ?_ ?_); rfl; rfl) | (go_at_call 70; (first | (with_reducible refine (C1.out _ om.out).mono ?_)); rintro e w' ⟨rfl, d'⟩; replace r := r.dn d'; replace g := g.dn d'; replace om := Lib.hid (om.out.dn d'); replace HD := hT HD d'; clear d') | ((with_reducible refine allocTrap (b := w'.heap.size) rfl ?_ ?_); rfl; refine Hid.out ?_))
 refine Lib.hid ?_
 obtain ⟨x', b_t, hw, hb, t, d', nn⟩ := new_blk w' 46 #[.int .i64 0, .int .u32 0]
 have n_r_t := Lib.hid (nn _ r.lt)
 have n_g_t := Lib.hid (nn _ g.lt)
 have HL_t : Hid (W.heap.size ≤ b_t) := Lib.hid (by have := HD.out.size; omega)
 rw [← hw, ← hb]
 clear hw hb nn
 replace r := r.dn d'
 replace g := g.dn d'
 replace om := Lib.hid (om.out.dn d')
 replace HD := hT HD d'
 clear d'
 go_wp2_with (first | ((with_reducible refine load33 r hl ?_ ?_ ?_); rfl; rfl) | ((with_reducible refine loadCore r hl ?_ ?_ ?_); rfl; rfl) | ((with_reducible refine loadCsr r hl ?_ ?_ ?_); rfl; rfl) | ((with_reducible refine loadTrap g ?_ ?_ ?_); rfl; rfl) | ((with_reducible refine loadTrap t ?_ ?_ ?_); rfl; rfl) | ((with_reducible refine storeTrap (k := k) (v := v) t ?_ ?_ ?_ ?_); rfl; rfl; rfl; intro w' r' t'; refine Hid.out ?_))
 refine Lib.hid ?_
 replace om := Lib.hid (om.out.trn t (NoU8.trap _ _) t')
 replace r := r.trn t' n_r_t.out
 replace g := g.trn t' n_g_t.out
 replace HD := Lib.hid (HD.out.trn HL_t.out t')
 clear t' t
 have t := r'
 clear r'
 have c0 := r.mem hl
 have c1 := t.cell (i := 0) rfl
 go_wp2_with (first | ((with_reducible refine load33 r hl ?_ ?_ ?_); rfl; rfl) | ((with_reducible refine loadCore r hl ?_ ?_ ?_); rfl; rfl) | ((with_reducible refine loadCsr r hl ?_ ?_ ?_); rfl; rfl) | ((with_reducible refine loadTrap g ?_ ?_ ?_); rfl; rfl) | ((with_reducible refine loadTrap t ?_ ?_ ?_); rfl; rfl))
 have d' : Dn w' { w' with drawn := w'.drawn + 1 } := (Dn.refl w').drew
 refine wp_region_still_tail 2 (by kernel_rfl) (by kernel_rfl) ?_
 simp only [List.take_succ_cons, List.take_zero, List.drop_succ_cons, List.drop_zero]
 replace r := r.dn d'
 replace g := g.dn d'
 replace t := t.dn d'
 replace om := Lib.hid (om.out.dn d')
 replace HD := hT HD d'
 replace c0 := r.mem hl
 replace c1 := t.cell (i := 0) rfl
 clear d'
 generalize ({ w' with drawn := w'.drawn + 1 } : World) = w' at r g t om HD c0 c1 ⊢
 repeat (first | ((with_reducible refine still33 r hl ?_ ?_ ?_); rfl; rfl; simp only [Act.put, tA, tS, tZ]) | ((with_reducible refine stillCore r hl ?_ ?_ ?_); rfl; rfl; simp only [Act.put, tA, tS, tZ]) | ((with_reducible refine stillCsr r hl ?_ ?_ ?_); rfl; rfl; simp only [Act.put, tA, tS, tZ]) | ((with_reducible refine stillTrap g ?_ ?_ ?_); rfl; rfl; simp only [Act.put, tA, tS, tZ]) | ((with_reducible refine stillTrap t ?_ ?_ ?_); rfl; rfl; simp only [Act.put, tA, tS, tZ]) | still_step)
 refine wpStill_nil ?_
 go_wp2_with (first | ((with_reducible refine load33 r hl ?_ ?_ ?_); rfl; rfl) | ((with_reducible refine loadCore r hl ?_ ?_ ?_); rfl; rfl) | ((with_reducible refine loadCsr r hl ?_ ?_ ?_); rfl; rfl) | ((with_reducible refine loadTrap g ?_ ?_ ?_); rfl; rfl) | ((with_reducible refine loadTrap t ?_ ?_ ?_); rfl; rfl) | ((with_reducible refine storeTrap (k := k) (v := v) g ?_ ?_ ?_ ?_); rfl; rfl; rfl; intro w' r' t'; refine Hid.out ?_))
 refine Lib.hid ?_
 replace om := Lib.hid (om.out.trn g (NoU8.trap _ _) t')
 replace r := r.trn t' n_r_g.out
 replace t := t.trn t' n_g_t.out.symm
 replace HD := Lib.hid (HD.out.trn HL_g.out t')
 clear t' g
 have g := r'
 clear r'
 replace c0 := r.mem hl
 replace c1 := t.cell (i := 0) rfl
 go_wp2_with fail
 exact retWT rfl rfl rfl g ⟨rfl, HD.out⟩ rfl
set_option maxRecDepth 100000 in
set_option maxHeartbeats 2000000 in
theorem rload_ok (m : Mc) (a n : Int) (W : World) (hm : m.Ok W) (hs : m.xs.length ≤ 100000) (a0 : 0 ≤ a) (a1 : a < 4294967296) (n0 : 1 ≤ n) (n1 : n ≤ 4) (x : Int) (ek : M.acz m.c m.xs.length a n = 0) (hx : M.alv m.c m.xs a n = x) :
   Calls Tryz.prog 46 #[.agg (mach m), .int .u32 a, .int .i64 n] W fun e W' => e = .returned (.tuple #[.int .u32 x, .agg #[.int .i64 0, .int .u32 0]]) ∧ Dn W W' := by
 have hk := M.acz_hit ek
 have hu := M.ub_rng hm.core
 obtain ⟨pn, hpn⟩ : ∃ pn : Nat, M.ub m.c + a = (pn : Int) := ⟨(M.ub m.c + a).toNat, by omega⟩
 obtain ⟨nn, hnn⟩ : ∃ nn : Nat, n = (nn : Int) := ⟨n.toNat, by omega⟩
 have C1 := Lib.hid fun w => fun (ow : m.Ok w) => rcell m a n (M.ub m.c + a) 0 0 w ow hs a0 a1 n0 n1 (M.apa_yes ek) ek (M.atv_yes ek)
 rw [hpn] at C1
 have el : M.ld m.xs pn nn = x := by rw [← hx]; unfold M.alv; rw [if_pos ek, hpn, hnn]; rfl
 have C3 := Lib.hid fun w => fun (ow : m.Ok w) => rload_at (W := w) pn nn (a' := (pn : Int)) (n' := n) (v := x) (b := true) ow.mem hs (by omega) (by omega) (by omega) rfl rfl hnn el (decide_eq_true (by omega))
 clear hk hu hpn hnn el ek hx
 have hl := hm.len
 have om := Lib.hid hm
 have HD := Lib.hid (Dn.refl W)
 obtain ⟨x0, b_r, hw0, hb0, r, d', nn⟩ := new_blk W 30 (mach m)
 clear nn
 replace om := Lib.hid (om.out.dn d')
 replace HD := hT HD d'
 clear d'
 obtain ⟨x1, b_g, hw1, hb1, g, d', nn⟩ := new_blk x0 46 #[.int .i64 0, .int .u32 0]
 have n_r_g := Lib.hid (nn _ r.lt)
 have HL_g : Hid (W.heap.size ≤ b_g) := Lib.hid (by have := HD.out.size; omega)
 clear nn
 replace r := r.dn d'
 replace om := Lib.hid (om.out.dn d')
 replace HD := hT HD d'
 clear d'
 rw [hw0] at hw1 hb1
 simp only [size_alloc] at hb1
 go_enter Tryz.func46, Tryz.ntmps46
 go_wp2_with (first | ((with_reducible refine allocTrap (b := W.heap.size + 1) (size_alloc _ _) ?_ ?_); rfl; refine Hid.out ?_))
 refine Lib.hid ?_
 rw [← hw1, ← hb1, ← hb0]
 clear hw0 hb0 hw1 hb1
 go_wp2_with (first | ((with_reducible refine load33 r hl ?_ ?_ ?_); rfl; rfl) | ((with_reducible refine loadCore r hl ?_ ?_ ?_); rfl; rfl) | ((with_reducible refine loadCsr r hl ?_ ?_ ?_); rfl; rfl) | ((with_reducible refine loadTrap g ?_ ?_ ?_); rfl; rfl) | (go_at_call 70; (first | (with_reducible refine (C1.out _ om.out).mono ?_)); rintro e w' ⟨rfl, d'⟩; replace r := r.dn d'; replace g := g.dn d'; replace om := Lib.hid (om.out.dn d'); replace HD := hT HD d'; clear d') | ((with_reducible refine allocTrap (b := w'.heap.size) rfl ?_ ?_); rfl; refine Hid.out ?_))
 refine Lib.hid ?_
 obtain ⟨x', b_t, hw, hb, t, d', nn⟩ := new_blk w' 46 #[.int .i64 0, .int .u32 0]
 have n_r_t := Lib.hid (nn _ r.lt)
 have n_g_t := Lib.hid (nn _ g.lt)
 have HL_t : Hid (W.heap.size ≤ b_t) := Lib.hid (by have := HD.out.size; omega)
 rw [← hw, ← hb]
 clear hw hb nn
 replace r := r.dn d'
 replace g := g.dn d'
 replace om := Lib.hid (om.out.dn d')
 replace HD := hT HD d'
 clear d'
 go_wp2_with (first | ((with_reducible refine load33 r hl ?_ ?_ ?_); rfl; rfl) | ((with_reducible refine loadCore r hl ?_ ?_ ?_); rfl; rfl) | ((with_reducible refine loadCsr r hl ?_ ?_ ?_); rfl; rfl) | ((with_reducible refine loadTrap g ?_ ?_ ?_); rfl; rfl) | ((with_reducible refine loadTrap t ?_ ?_ ?_); rfl; rfl) | ((with_reducible refine storeTrap (k := 0) (v := 0) t ?_ ?_ ?_ ?_); rfl; rfl; rfl; intro w' r' t'; refine Hid.out ?_))
 refine Lib.hid ?_
 replace om := Lib.hid (om.out.trn t (NoU8.trap _ _) t')
 replace r := r.trn t' n_r_t.out
 replace g := g.trn t' n_g_t.out
 replace HD := Lib.hid (HD.out.trn HL_t.out t')
 clear t' t
 have t := r'
 clear r'
 have c0 := r.mem hl
 have c1 := t.cell (i := 0) rfl
 go_wp2_with (first | ((with_reducible refine load33 r hl ?_ ?_ ?_); rfl; rfl) | ((with_reducible refine loadCore r hl ?_ ?_ ?_); rfl; rfl) | ((with_reducible refine loadCsr r hl ?_ ?_ ?_); rfl; rfl) | ((with_reducible refine loadTrap g ?_ ?_ ?_); rfl; rfl) | ((with_reducible refine loadTrap t ?_ ?_ ?_); rfl; rfl) | (go_at_call 71; (with_reducible refine (C3.out _ om.out).mono ?_); rintro e w' ⟨rfl, rfl⟩))
 have d' : Dn w' { w' with drawn := w'.drawn + 1 } := (Dn.refl w').drew
 refine wp_region_still_tail 3 (by kernel_rfl) (by kernel_rfl) ?_
 simp only [List.take_succ_cons, List.take_zero, List.drop_succ_cons, List.drop_zero]
 replace r := r.dn d'
 replace g := g.dn d'
 replace t := t.dn d'
 replace om := Lib.hid (om.out.dn d')
 replace HD := hT HD d'
 replace c0 := r.mem hl
 replace c1 := t.cell (i := 0) rfl
 clear d'
 generalize ({ w' with drawn := w'.drawn + 1 } : World) = w' at r g t om HD c0 c1 ⊢
 repeat (first | ((with_reducible refine still33 r hl ?_ ?_ ?_); rfl; rfl; simp only [Act.put, tA, tS, tZ]) | ((with_reducible refine stillCore r hl ?_ ?_ ?_); rfl; rfl; simp only [Act.put, tA, tS, tZ]) | ((with_reducible refine stillCsr r hl ?_ ?_ ?_); rfl; rfl; simp only [Act.put, tA, tS, tZ]) | ((with_reducible refine stillTrap g ?_ ?_ ?_); rfl; rfl; simp only [Act.put, tA, tS, tZ]) | ((with_reducible refine stillTrap t ?_ ?_ ?_); rfl; rfl; simp only [Act.put, tA, tS, tZ]) | still_step)
 refine wpStill_nil ?_
 go_wp2_with (first | ((with_reducible refine load33 r hl ?_ ?_ ?_); rfl; rfl) | ((with_reducible refine loadCore r hl ?_ ?_ ?_); rfl; rfl) | ((with_reducible refine loadCsr r hl ?_ ?_ ?_); rfl; rfl) | ((with_reducible refine loadTrap g ?_ ?_ ?_); rfl; rfl) | ((with_reducible refine loadTrap t ?_ ?_ ?_); rfl; rfl) | ((with_reducible refine storeTrap (k := 0) (v := 0) g ?_ ?_ ?_ ?_); rfl; rfl; rfl; intro w' r' t'; refine Hid.out ?_))
 refine Lib.hid ?_
 replace om := Lib.hid (om.out.trn g (NoU8.trap _ _) t')
 replace r := r.trn t' n_r_g.out
 replace t := t.trn t' n_g_t.out.symm
 replace HD := Lib.hid (HD.out.trn HL_g.out t')
 clear t' g
 have g := r'
 clear r'
 replace c0 := r.mem hl
 replace c1 := t.cell (i := 0) rfl
 go_wp2_with fail
 exact retWT rfl rfl rfl g ⟨rfl, HD.out⟩ rfl
theorem rfload (m : Mc) (a n : Int) (W : World) (hm : m.Ok W) (hs : m.xs.length ≤ 100000) (a0 : 0 ≤ a) (a1 : a < 4294967296) (n0 : 1 ≤ n) (n1 : n ≤ 4) (x k v : Int) (ex : M.alv m.c m.xs a n = x) (ek : M.acz m.c m.xs.length a n = k) (ev : M.atv m.c m.xs.length a n = v) :
   Calls Tryz.prog 46 #[.agg (mach m), .int .u32 a, .int .i64 n] W fun e W' => e = .returned (.tuple #[.int .u32 x, .agg #[.int .i64 k, .int .u32 v]]) ∧ Dn W W' := by
 by_cases h : k = 0
 · subst h
   rw [M.atv_yes ek] at ev
   subst ev
   exact rload_ok m a n W hm hs a0 a1 n0 n1 x ek ex
 · have h2 := M.alv_no (xs := m.xs) (by rw [ek]; exact h)
   rw [ex] at h2
   subst h2
   exact rload_trap m a n W hm hs a0 a1 n0 n1 k v ek ev h
set_option maxRecDepth 100000 in
set_option maxHeartbeats 2000000 in
theorem rstore_trap (m : Mc) (a n : Int) (u : Int) (W : World) (hm : m.Ok W) (hs : m.xs.length ≤ 100000) (a0 : 0 ≤ a) (a1 : a < 4294967296) (n0 : 1 ≤ n) (n1 : n ≤ 4) (u0 : 0 ≤ u) (u1 : u < 4294967296) (k v : Int) (ek : M.acz m.c m.xs.length a n = k) (ev : M.atv m.c m.xs.length a n = v) (hk : k ≠ 0) :
   Calls Tryz.prog 57 #[.agg (mach m), .int .u32 a, .int .i64 n, .int .u32 u] W fun e W' => ∃ m', e = .returned (.tuple #[.agg (mach m'), .agg #[.int .i64 k, .int .u32 v]]) ∧ Hid (m'.Ok W') ∧ Hid (m.Up m.xs m') ∧ Dn W W' := by
 obtain ⟨p, ep⟩ : ∃ p, M.apa m.c m.xs.length a n = p := ⟨_, rfl⟩
 have C1 := Lib.hid fun w => fun (ow : m.Ok w) => rcell m a n p k v w ow hs a0 a1 n0 n1 ep ek ev
 have hkb : (k == 0) = false := by simpa using hk
 clear ep ek ev hk
 have hl := hm.len
 have om := Lib.hid hm
 have HD := Lib.hid (Dn.refl W)
 obtain ⟨x0, b_r, hw0, hb0, r, d', nn⟩ := new_blk W 30 (mach m)
 clear nn
 replace om := Lib.hid (om.out.dn d')
 replace HD := hT HD d'
 clear d'
 obtain ⟨x1, b_q, hw1, hb1, q, d', nn⟩ := new_blk x0 30 (mach Mc.zero)
 have n_r_q := Lib.hid (nn _ r.lt)
 have HL_q : Hid (W.heap.size ≤ b_q) := Lib.hid (by have := HD.out.size; omega)
 clear nn
 replace r := r.dn d'
 replace om := Lib.hid (om.out.dn d')
 replace HD := hT HD d'
 clear d'
 rw [hw0] at hw1 hb1
 simp only [size_alloc] at hb1
 obtain ⟨x2, b_g, hw2, hb2, g, d', nn⟩ := new_blk x1 46 #[.int .i64 0, .int .u32 0]
 have n_r_g := Lib.hid (nn _ r.lt)
 have n_q_g := Lib.hid (nn _ q.lt)
 have HL_g : Hid (W.heap.size ≤ b_g) := Lib.hid (by have := HD.out.size; omega)
 clear nn
 replace r := r.dn d'
 replace q := q.dn d'
 replace om := Lib.hid (om.out.dn d')
 replace HD := hT HD d'
 clear d'
 rw [hw1] at hw2 hb2
 simp only [size_alloc] at hb2
 go_enter Tryz.func57, Tryz.ntmps57
 go_wp2_with (first | ((with_reducible refine alloc33 (b := W.heap.size + 1) (size_alloc _ _) ?_ ?_); rfl) | ((with_reducible refine allocTrap (b := W.heap.size + 1 + 1) (size2 _ _ _) ?_ ?_); rfl; refine Hid.out ?_))
 refine Lib.hid ?_
 rw [← hw2, ← hb2, ← hb1, ← hb0]
 clear hw0 hb0 hw1 hb1 hw2 hb2
 go_wp2_with (first | ((with_reducible refine load33 r hl ?_ ?_ ?_); rfl; rfl) | ((with_reducible refine loadCore r hl ?_ ?_ ?_); rfl; rfl) | ((with_reducible refine loadCsr r hl ?_ ?_ ?_); rfl; rfl) | ((with_reducible refine load33 q zlen ?_ ?_ ?_); rfl; rfl) | ((with_reducible refine loadCore q zlen ?_ ?_ ?_); rfl; rfl) | ((with_reducible refine loadCsr q zlen ?_ ?_ ?_); rfl; rfl) | ((with_reducible refine loadTrap g ?_ ?_ ?_); rfl; rfl) | (go_at_call 70; (first | (with_reducible refine (C1.out _ om.out).mono ?_)); rintro e w' ⟨rfl, d'⟩; replace r := r.dn d'; replace q := q.dn d'; replace g := g.dn d'; replace om := Lib.hid (om.out.dn d'); replace HD := hT HD d'; clear d') | ((with_reducible refine allocTrap (b := w'.heap.size) rfl ?_ ?_); rfl; refine Hid.out ?_))
 refine Lib.hid ?_
 obtain ⟨x', b_t, hw, hb, t, d', nn⟩ := new_blk w' 46 #[.int .i64 0, .int .u32 0]
 have n_r_t := Lib.hid (nn _ r.lt)
 have n_q_t := Lib.hid (nn _ q.lt)
 have n_g_t := Lib.hid (nn _ g.lt)
 have HL_t : Hid (W.heap.size ≤ b_t) := Lib.hid (by have := HD.out.size; omega)
 rw [← hw, ← hb]
 clear hw hb nn
 replace r := r.dn d'
 replace q := q.dn d'
 replace g := g.dn d'
 replace om := Lib.hid (om.out.dn d')
 replace HD := hT HD d'
 clear d'
 go_wp2_with (first | ((with_reducible refine load33 r hl ?_ ?_ ?_); rfl; rfl) | ((with_reducible refine loadCore r hl ?_ ?_ ?_); rfl; rfl) | ((with_reducible refine loadCsr r hl ?_ ?_ ?_); rfl; rfl) | ((with_reducible refine load33 q zlen ?_ ?_ ?_); rfl; rfl) | ((with_reducible refine loadCore q zlen ?_ ?_ ?_); rfl; rfl) | ((with_reducible refine loadCsr q zlen ?_ ?_ ?_); rfl; rfl) | ((with_reducible refine loadTrap g ?_ ?_ ?_); rfl; rfl) | ((with_reducible refine loadTrap t ?_ ?_ ?_); rfl; rfl) | ((with_reducible refine storeTrap (k := k) (v := v) t ?_ ?_ ?_ ?_); rfl; rfl; rfl; intro w' r' t'; refine Hid.out ?_))
 refine Lib.hid ?_
 replace om := Lib.hid (om.out.trn t (NoU8.trap _ _) t')
 replace r := r.trn t' n_r_t.out
 replace q := q.trn t' n_q_t.out
 replace g := g.trn t' n_g_t.out
 replace HD := Lib.hid (HD.out.trn HL_t.out t')
 clear t' t
 have t := r'
 clear r'
 have c0 := r.mem hl
 have c1 := t.cell (i := 0) rfl
 go_wp2_with (first | ((with_reducible refine load33 r hl ?_ ?_ ?_); rfl; rfl) | ((with_reducible refine loadCore r hl ?_ ?_ ?_); rfl; rfl) | ((with_reducible refine loadCsr r hl ?_ ?_ ?_); rfl; rfl) | ((with_reducible refine load33 q zlen ?_ ?_ ?_); rfl; rfl) | ((with_reducible refine loadCore q zlen ?_ ?_ ?_); rfl; rfl) | ((with_reducible refine loadCsr q zlen ?_ ?_ ?_); rfl; rfl) | ((with_reducible refine loadTrap g ?_ ?_ ?_); rfl; rfl) | ((with_reducible refine loadTrap t ?_ ?_ ?_); rfl; rfl))
 have d' : Dn w' { w' with drawn := w'.drawn + 1 } := (Dn.refl w').drew
 refine wp_region_ret2 (by kernel_rfl) (by kernel_rfl) r t q g n_q_t.out.symm n_q_g.out.symm Tryz.underlying30 rfl (info_mach hl) (by rw [mach_size zlen, mach_size hl]) (mach_one _) Tryz.underlying46 rfl infoTrap rfl (by simp [Value.oneCell']) rfl rfl rfl rfl rfl rfl rfl rfl rfl rfl rfl ?_
 simp only [Act.put, tA, tS, tZ]
 replace r := r.dn d'
 replace q := q.dn d'
 replace g := g.dn d'
 replace t := t.dn d'
 replace om := Lib.hid (om.out.dn d')
 replace HD := hT HD d'
 replace c0 := r.mem hl
 replace c1 := t.cell (i := 0) rfl
 clear d'
 generalize ({ w' with drawn := w'.drawn + 1 } : World) = w' at r q g t om HD c0 c1 ⊢
 intro w' v' r' t' r2' t2'
 replace om := Lib.hid (om.out.trn q (NoU8.mach _) t')
 replace r := r.trn t' n_r_q.out
 replace g := g.trn t' n_q_g.out.symm
 replace t := t.trn t' n_q_t.out.symm
 replace HD := Lib.hid (HD.out.trn HL_q.out t')
 clear t' q
 have q := r'
 clear r'
 replace c0 := r.mem hl
 replace c1 := t.cell (i := 0) rfl
 replace om := Lib.hid (om.out.trn g (NoU8.trap _ _) t2')
 replace r := r.trn t2' n_r_g.out
 replace q := q.trn t2' n_q_g.out
 replace t := t.trn t2' n_g_t.out.symm
 replace HD := Lib.hid (HD.out.trn HL_g.out t2')
 clear t2' g
 have g := r2'
 clear r2'
 replace c0 := r.mem hl
 replace c1 := t.cell (i := 0) rfl
 go_wp2_with fail
 exact retMT rfl rfl rfl q hl g ⟨m, rfl, om, Lib.hid ⟨m.A, m.k, rfl⟩, HD.out⟩ rfl
set_option maxRecDepth 100000 in
set_option maxHeartbeats 2000000 in
theorem rstore_fine (m : Mc) (a n : Int) (u : Int) (W : World) (hm : m.Ok W) (hs : m.xs.length ≤ 100000) (a0 : 0 ≤ a) (a1 : a < 4294967296) (n0 : 1 ≤ n) (n1 : n ≤ 4) (u0 : 0 ≤ u) (u1 : u < 4294967296) (zs : List Int) (ek : M.acz m.c m.xs.length a n = 0) (hz : M.asv m.c m.xs a n u = zs) :
   Calls Tryz.prog 57 #[.agg (mach m), .int .u32 a, .int .i64 n, .int .u32 u] W fun e W' => ∃ m', e = .returned (.tuple #[.agg (mach m'), .agg #[.int .i64 0, .int .u32 0]]) ∧ Hid (m'.Ok W') ∧ Hid (m.Up zs m') ∧ Dn W W' := by
 have hk := M.acz_hit ek
 have hu := M.ub_rng hm.core
 obtain ⟨pn, hpn⟩ : ∃ pn : Nat, M.ub m.c + a = (pn : Int) := ⟨(M.ub m.c + a).toNat, by omega⟩
 obtain ⟨nn, hnn⟩ : ∃ nn : Nat, n = (nn : Int) := ⟨n.toNat, by omega⟩
 have C1 := Lib.hid fun w => fun (ow : m.Ok w) => rcell m a n (M.ub m.c + a) 0 0 w ow hs a0 a1 n0 n1 (M.apa_yes ek) ek (M.atv_yes ek)
 rw [hpn] at C1
 have el : M.st m.xs pn nn u = zs := by rw [← hz]; unfold M.asv; rw [if_pos ek, hpn, hnn]; rfl
 have C3 := Lib.hid fun w => fun (ow : m.Ok w) => rstore_at (W := w) pn nn (a' := (pn : Int)) (n' := n) (v := u) (b := true) ow.mem hs (by omega) (by omega) (by omega) u0 u1 rfl rfl hnn el (decide_eq_true (by omega))
 have zl : Hid (m.xs.length = zs.length) := Lib.hid (by rw [← hz, M.asv_len])
 clear hk hu hpn hnn el ek hz
 have hl := hm.len
 have om := Lib.hid hm
 have HD := Lib.hid (Dn.refl W)
 obtain ⟨x0, b_r, hw0, hb0, r, d', nn⟩ := new_blk W 30 (mach m)
 have HL_r : Hid (W.heap.size ≤ b_r) := Lib.hid (by have := HD.out.size; omega)
 clear nn
 replace om := Lib.hid (om.out.dn d')
 replace HD := hT HD d'
 clear d'
 obtain ⟨x1, b_q, hw1, hb1, q, d', nn⟩ := new_blk x0 30 (mach Mc.zero)
 have n_r_q := Lib.hid (nn _ r.lt)
 have HL_q : Hid (W.heap.size ≤ b_q) := Lib.hid (by have := HD.out.size; omega)
 clear nn
 replace r := r.dn d'
 replace om := Lib.hid (om.out.dn d')
 replace HD := hT HD d'
 clear d'
 rw [hw0] at hw1 hb1
 simp only [size_alloc] at hb1
 obtain ⟨x2, b_g, hw2, hb2, g, d', nn⟩ := new_blk x1 46 #[.int .i64 0, .int .u32 0]
 have n_r_g := Lib.hid (nn _ r.lt)
 have n_q_g := Lib.hid (nn _ q.lt)
 have HL_g : Hid (W.heap.size ≤ b_g) := Lib.hid (by have := HD.out.size; omega)
 clear nn
 replace r := r.dn d'
 replace q := q.dn d'
 replace om := Lib.hid (om.out.dn d')
 replace HD := hT HD d'
 clear d'
 rw [hw1] at hw2 hb2
 simp only [size_alloc] at hb2
 go_enter Tryz.func57, Tryz.ntmps57
 go_wp2_with (first | ((with_reducible refine alloc33 (b := W.heap.size + 1) (size_alloc _ _) ?_ ?_); rfl) | ((with_reducible refine allocTrap (b := W.heap.size + 1 + 1) (size2 _ _ _) ?_ ?_); rfl; refine Hid.out ?_))
 refine Lib.hid ?_
 rw [← hw2, ← hb2, ← hb1, ← hb0]
 clear hw0 hb0 hw1 hb1 hw2 hb2
 go_wp2_with (first | ((with_reducible refine load33 r hl ?_ ?_ ?_); rfl; rfl) | ((with_reducible refine loadCore r hl ?_ ?_ ?_); rfl; rfl) | ((with_reducible refine loadCsr r hl ?_ ?_ ?_); rfl; rfl) | ((with_reducible refine load33 q zlen ?_ ?_ ?_); rfl; rfl) | ((with_reducible refine loadCore q zlen ?_ ?_ ?_); rfl; rfl) | ((with_reducible refine loadCsr q zlen ?_ ?_ ?_); rfl; rfl) | ((with_reducible refine loadTrap g ?_ ?_ ?_); rfl; rfl) | (go_at_call 70; (first | (with_reducible refine (C1.out _ om.out).mono ?_)); rintro e w' ⟨rfl, d'⟩; replace r := r.dn d'; replace q := q.dn d'; replace g := g.dn d'; replace om := Lib.hid (om.out.dn d'); replace HD := hT HD d'; clear d') | ((with_reducible refine allocTrap (b := w'.heap.size) rfl ?_ ?_); rfl; refine Hid.out ?_))
 refine Lib.hid ?_
 obtain ⟨x', b_t, hw, hb, t, d', nn⟩ := new_blk w' 46 #[.int .i64 0, .int .u32 0]
 have n_r_t := Lib.hid (nn _ r.lt)
 have n_q_t := Lib.hid (nn _ q.lt)
 have n_g_t := Lib.hid (nn _ g.lt)
 have HL_t : Hid (W.heap.size ≤ b_t) := Lib.hid (by have := HD.out.size; omega)
 rw [← hw, ← hb]
 clear hw hb nn
 replace r := r.dn d'
 replace q := q.dn d'
 replace g := g.dn d'
 replace om := Lib.hid (om.out.dn d')
 replace HD := hT HD d'
 clear d'
 go_wp2_with (first | ((with_reducible refine load33 r hl ?_ ?_ ?_); rfl; rfl) | ((with_reducible refine loadCore r hl ?_ ?_ ?_); rfl; rfl) | ((with_reducible refine loadCsr r hl ?_ ?_ ?_); rfl; rfl) | ((with_reducible refine load33 q zlen ?_ ?_ ?_); rfl; rfl) | ((with_reducible refine loadCore q zlen ?_ ?_ ?_); rfl; rfl) | ((with_reducible refine loadCsr q zlen ?_ ?_ ?_); rfl; rfl) | ((with_reducible refine loadTrap g ?_ ?_ ?_); rfl; rfl) | ((with_reducible refine loadTrap t ?_ ?_ ?_); rfl; rfl) | ((with_reducible refine storeTrap (k := 0) (v := 0) t ?_ ?_ ?_ ?_); rfl; rfl; rfl; intro w' r' t'; refine Hid.out ?_))
 refine Lib.hid ?_
 replace om := Lib.hid (om.out.trn t (NoU8.trap _ _) t')
 replace r := r.trn t' n_r_t.out
 replace q := q.trn t' n_q_t.out
 replace g := g.trn t' n_g_t.out
 replace HD := Lib.hid (HD.out.trn HL_t.out t')
 clear t' t
 have t := r'
 clear r'
 have c0 := r.mem hl
 have c1 := t.cell (i := 0) rfl
 go_wp2_with (first | ((with_reducible refine load33 r hl ?_ ?_ ?_); rfl; rfl) | ((with_reducible refine loadCore r hl ?_ ?_ ?_); rfl; rfl) | ((with_reducible refine loadCsr r hl ?_ ?_ ?_); rfl; rfl) | ((with_reducible refine load33 q zlen ?_ ?_ ?_); rfl; rfl) | ((with_reducible refine loadCore q zlen ?_ ?_ ?_); rfl; rfl) | ((with_reducible refine loadCsr q zlen ?_ ?_ ?_); rfl; rfl) | ((with_reducible refine loadTrap g ?_ ?_ ?_); rfl; rfl) | ((with_reducible refine loadTrap t ?_ ?_ ?_); rfl; rfl) | (go_at_call 78; (with_reducible refine (C3.out _ om.out).mono ?_); rintro e w' ⟨A', k', rfl, oz, d'⟩; replace d' := d'.out; replace r := r.dn d'; replace q := q.dn d'; replace g := g.dn d'; replace t := t.dn d'; replace om := Lib.hid (om.out.dn d'); replace HD := hT HD d'; replace c0 := r.mem hl; replace c1 := t.cell (i := 0) rfl; clear d'; refine Hid.out ?_))
 refine Lib.hid ?_
 go_wp2_with (first | ((with_reducible refine load33 r hl ?_ ?_ ?_); rfl; rfl) | ((with_reducible refine loadCore r hl ?_ ?_ ?_); rfl; rfl) | ((with_reducible refine loadCsr r hl ?_ ?_ ?_); rfl; rfl) | ((with_reducible refine load33 q zlen ?_ ?_ ?_); rfl; rfl) | ((with_reducible refine loadCore q zlen ?_ ?_ ?_); rfl; rfl) | ((with_reducible refine loadCsr q zlen ?_ ?_ ?_); rfl; rfl) | ((with_reducible refine loadTrap g ?_ ?_ ?_); rfl; rfl) | ((with_reducible refine loadTrap t ?_ ?_ ?_); rfl; rfl) | ((with_reducible refine storeMem (A' := A') (k' := k') (zs := zs) r hl zl.out ?_ ?_ ?_ ?_); rfl; rfl; rfl; intro w' r' t'; refine Hid.out ?_))
 refine Lib.hid ?_
 clear c0 c1
 replace om := Lib.hid (om.out.trn r (NoU8.mach _) t')
 replace oz := Lib.hid (oz.out.trn r (NoU8.mach _) t')
 replace q := q.trn t' n_r_q.out.symm
 replace g := g.trn t' n_r_g.out.symm
 replace t := t.trn t' n_r_t.out.symm
 replace HD := Lib.hid (HD.out.trn HL_r.out t')
 clear t' r
 have r := r'
 clear r'
 obtain ⟨m', hm'⟩ : ∃ m', m' = { m with A := A', k := k', xs := zs } := ⟨_, rfl⟩
 rw [← hm'] at r
 have om' : Hid (m'.Ok w') := Lib.hid (by rw [hm']; exact ⟨om.out.core, oz.out, om.out.out, om.out.t0, om.out.t1⟩)
 have hl' := om'.out.len
 have HU : Hid (m.Up zs m') := Lib.hid ⟨A', k', hm'⟩
 clear hm' oz om
 go_wp2_with (first | ((with_reducible refine load33 r hl' ?_ ?_ ?_); rfl; rfl) | ((with_reducible refine loadCore r hl' ?_ ?_ ?_); rfl; rfl) | ((with_reducible refine loadCsr r hl' ?_ ?_ ?_); rfl; rfl) | ((with_reducible refine load33 q zlen ?_ ?_ ?_); rfl; rfl) | ((with_reducible refine loadCore q zlen ?_ ?_ ?_); rfl; rfl) | ((with_reducible refine loadCsr q zlen ?_ ?_ ?_); rfl; rfl) | ((with_reducible refine loadTrap g ?_ ?_ ?_); rfl; rfl) | ((with_reducible refine loadTrap t ?_ ?_ ?_); rfl; rfl))
 have d' : Dn w' { w' with drawn := w'.drawn + 1 } := (Dn.refl w').drew
 refine wp_region_ret2 (by kernel_rfl) (by kernel_rfl) r t q g n_q_t.out.symm n_q_g.out.symm Tryz.underlying30 rfl (info_mach hl') (by rw [mach_size zlen, mach_size hl']) (mach_one _) Tryz.underlying46 rfl infoTrap rfl (by simp [Value.oneCell']) rfl rfl rfl rfl rfl rfl rfl rfl rfl rfl rfl ?_
 simp only [Act.put, tA, tS, tZ]
 replace r := r.dn d'
 replace q := q.dn d'
 replace g := g.dn d'
 replace t := t.dn d'
 replace om' := Lib.hid (om'.out.dn d')
 replace HD := hT HD d'
 clear d'
 generalize ({ w' with drawn := w'.drawn + 1 } : World) = w' at r q g t om' HD ⊢
 intro w' v' r' t' r2' t2'
 replace om' := Lib.hid (om'.out.trn q (NoU8.mach _) t')
 replace r := r.trn t' n_r_q.out
 replace g := g.trn t' n_q_g.out.symm
 replace t := t.trn t' n_q_t.out.symm
 replace HD := Lib.hid (HD.out.trn HL_q.out t')
 clear t' q
 have q := r'
 clear r'
 replace om' := Lib.hid (om'.out.trn g (NoU8.trap _ _) t2')
 replace r := r.trn t2' n_r_g.out
 replace q := q.trn t2' n_q_g.out
 replace t := t.trn t2' n_g_t.out.symm
 replace HD := Lib.hid (HD.out.trn HL_g.out t2')
 clear t2' g
 have g := r2'
 clear r2'
 go_wp2_with fail
 exact retMT rfl rfl rfl q hl' g ⟨m', rfl, om', HU, HD.out⟩ rfl
theorem rfstore (m : Mc) (a n : Int) (u : Int) (W : World) (hm : m.Ok W) (hs : m.xs.length ≤ 100000) (a0 : 0 ≤ a) (a1 : a < 4294967296) (n0 : 1 ≤ n) (n1 : n ≤ 4) (u0 : 0 ≤ u) (u1 : u < 4294967296) (zs : List Int) (k v : Int) (hz : M.asv m.c m.xs a n u = zs) (ek : M.acz m.c m.xs.length a n = k) (ev : M.atv m.c m.xs.length a n = v) :
   Calls Tryz.prog 57 #[.agg (mach m), .int .u32 a, .int .i64 n, .int .u32 u] W fun e W' => ∃ m', e = .returned (.tuple #[.agg (mach m'), .agg #[.int .i64 k, .int .u32 v]]) ∧ Hid (m'.Ok W') ∧ Hid (m.Up zs m') ∧ Dn W W' := by
 by_cases h : k = 0
 · subst h
   rw [M.atv_yes ek] at ev
   subst ev
   exact rstore_fine m a n u W hm hs a0 a1 n0 n1 u0 u1 zs ek hz
 · have h2 := M.asv_no (xs := m.xs) (v := u) (by rw [ek]; exact h)
   rw [hz] at h2
   subst h2
   exact rstore_trap m a n u W hm hs a0 a1 n0 n1 u0 u1 k v ek ev h
set_option maxRecDepth 100000 in
set_option maxHeartbeats 2000000 in
theorem rdue (m : Mc) (W : World) (hm : m.Ok W) :
   Calls Tryz.prog 24 #[.agg (mach m)] W fun e W' => e = .returned (.bool (M.due m.c m.t)) ∧ Dn W W' := by
 have hl := hm.len
 have om := Lib.hid hm
 have C1 := Lib.hid fun w => refEnabled m.c w hm.core
 have C2 := Lib.hid fun w => refCompare m.c w hm.core
 have t0 := hm.t0
 have t1 := hm.t1
 cases hi : M.ien m.c
 · rw [hi] at C1
   have HB : Hid (M.due m.c m.t = false) := Lib.hid (by unfold M.due; rw [hi]; rfl)
   rw [HB.out]
   clear HB hi
   have HD := Lib.hid (Dn.refl W)
   obtain ⟨x0, b_r, hw0, hb0, r, d', nn⟩ := new_blk W 30 (mach m)
   have HL_r : Hid (W.heap.size ≤ b_r) := Lib.hid (by have := HD.out.size; omega)
   clear nn
   replace om := Lib.hid (om.out.dn d')
   replace HD := hT HD d'
   clear d'
   go_enter Tryz.func24, Tryz.ntmps24
   go_wp2_with fail
   rw [← hw0, ← hb0]
   clear hw0 hb0
   have c0 := r.time hl
   have QC1 := Lib.hid (later_of x0 C1.out)
   have QC2 := Lib.hid (later_of x0 C2.out)
   have lc0 := fun d os => cell_regrown c0 d os
   refine wp_region_quiet_below (by kernel_rfl) (by kernel_rfl) ?_
   repeat (first | go_big_quiet_skip | (go_big_quiet_want; first | ((with_reducible refine qop33 r hl ?_ ?_); rfl; simp only [Act.put, tA, tS, tZ]; go_big_quiet_on) | ((with_reducible refine qopCore r hl ?_ ?_); rfl; simp only [Act.put, tA, tS, tZ]; go_big_quiet_on) | ((with_reducible refine qopCsr r hl ?_ ?_); rfl; simp only [Act.put, tA, tS, tZ]; go_big_quiet_on) | (go_big_quiet_op; first | go_big_quiet_on | go_big_quiet_call (first | (with_reducible exact QC1.out _ _) | (with_reducible exact QC2.out _ _)))))
   refine wpQuiet_nil ?_
   intro _ hw'
   obtain ⟨⟨dq, osq⟩, hw''⟩ := hw'
   subst hw''
   have d' := below_regrown x0 dq osq
   clear QC1 QC2 lc0
   replace r := r.dn d'
   replace om := Lib.hid (om.out.dn d')
   replace HD := hT HD d'
   replace c0 := r.time hl
   clear d'
   generalize grow (redrawn x0 dq) osq = w' at r om HD c0 ⊢
   go_wp2
   go_ret
   exact ⟨rfl, HD.out⟩
 · rw [hi] at C1
   have HB : Hid (M.due m.c m.t = decide (M.tcmp m.c ≤ m.t)) := Lib.hid (by unfold M.due; rw [hi]; rfl)
   rw [HB.out]
   clear HB hi
   have HD := Lib.hid (Dn.refl W)
   obtain ⟨x0, b_r, hw0, hb0, r, d', nn⟩ := new_blk W 30 (mach m)
   have HL_r : Hid (W.heap.size ≤ b_r) := Lib.hid (by have := HD.out.size; omega)
   clear nn
   replace om := Lib.hid (om.out.dn d')
   replace HD := hT HD d'
   clear d'
   go_enter Tryz.func24, Tryz.ntmps24
   go_wp2_with fail
   rw [← hw0, ← hb0]
   clear hw0 hb0
   have c0 := r.time hl
   have QC1 := Lib.hid (later_of x0 C1.out)
   have QC2 := Lib.hid (later_of x0 C2.out)
   have lc0 := fun d os => cell_regrown c0 d os
   refine wp_region_quiet_below (by kernel_rfl) (by kernel_rfl) ?_
   repeat (first | go_big_quiet_skip | (go_big_quiet_want; first | ((with_reducible refine qop33 r hl ?_ ?_); rfl; simp only [Act.put, tA, tS, tZ]; go_big_quiet_on) | ((with_reducible refine qopCore r hl ?_ ?_); rfl; simp only [Act.put, tA, tS, tZ]; go_big_quiet_on) | ((with_reducible refine qopCsr r hl ?_ ?_); rfl; simp only [Act.put, tA, tS, tZ]; go_big_quiet_on) | (go_big_quiet_op; first | go_big_quiet_on | go_big_quiet_call (first | (with_reducible exact QC1.out _ _) | (with_reducible exact QC2.out _ _)))))
   refine wpQuiet_nil ?_
   intro _ hw'
   obtain ⟨⟨dq, osq⟩, hw''⟩ := hw'
   subst hw''
   have d' := below_regrown x0 dq osq
   clear QC1 QC2 lc0
   replace r := r.dn d'
   replace om := Lib.hid (om.out.dn d')
   replace HD := hT HD d'
   replace c0 := r.time hl
   clear d'
   generalize grow (redrawn x0 dq) osq = w' at r om HD c0 ⊢
   go_wp2
   go_ret
   exact ⟨rfl, HD.out⟩
set_option maxRecDepth 100000 in
set_option maxHeartbeats 2000000 in
theorem rfew (m : Mc) (b : Bool) (W : World) (hm : m.Ok W) (hx : m.xs.length ≤ 9223372036854775807) (hy : m.ys.length ≤ 9223372036854775807) (hb : decide (m.xs.length ≤ 600 ∧ m.ys.length ≤ 600) = b) :
   Calls Tryz.prog 9 #[.agg (mach m)] W fun e W' => e = .returned (.bool b) ∧ Dn W W' := by
 subst hb
 have hl := hm.len
 by_cases h1 : m.xs.length ≤ 600
 · by_cases h2 : m.ys.length ≤ 600
   · rw [decide_eq_true ⟨h1, h2⟩]
     have h3 : decide ((m.ys.length : Int) ≤ 600) = true := decide_eq_true (by omega)
     have k0 := (Blk.new W 30 (mach m)).mem hl
     have k1 := (Blk.new W 30 (mach m)).out hl
     go_enter Tryz.func9, Tryz.ntmps9
     go_wp2
     go_ret
     exact ⟨rfl, (Dn.refl W).alloc _⟩
   · rw [decide_eq_false (fun h => h2 h.2)]
     have h3 : decide ((m.ys.length : Int) ≤ 600) = false := decide_eq_false (by omega)
     have k0 := (Blk.new W 30 (mach m)).mem hl
     have k1 := (Blk.new W 30 (mach m)).out hl
     go_enter Tryz.func9, Tryz.ntmps9
     go_wp2
     go_ret
     exact ⟨rfl, (Dn.refl W).alloc _⟩
 · rw [decide_eq_false (fun h => h1 h.1)]
   have k0 := (Blk.new W 30 (mach m)).mem hl
   have k1 := (Blk.new W 30 (mach m)).out hl
   go_enter Tryz.func9, Tryz.ntmps9
   go_wp2
   go_ret
   exact ⟨rfl, (Dn.refl W).alloc _⟩
set_option maxRecDepth 100000 in
set_option maxHeartbeats 2000000 in
theorem rsame (m n : Mc) (W : World) (hm : m.Ok W) (hn : n.Ok W) (hs : m.xs.length ≤ 100000) (hs2 : m.ys.length ≤ 100000) (e1 : m.c = n.c) (e2 : m.xs = n.xs) (e3 : m.t = n.t) (e4 : m.ys = n.ys) (e5 : m.h = n.h) :
   Calls Tryz.prog 14 #[.agg (mach m), .agg (mach n)] W fun e W' => e = .returned (.bool true) ∧ Dn W W' := by
 have hl := hm.len
 have hl2 := hn.len
 have om := Lib.hid hm
 have on := Lib.hid hn
 have q1 := fun w => eq29 hl hl2 w
 rw [show (m.c == n.c) = true by simp [e1]] at q1
 have C1 := Lib.hid fun w => fun (ow : m.Ok w) (ox : n.Ok w) => same_yes m.A n.A m.k n.k _ _ m.xs n.xs w ow.mem ox.mem rfl rfl e2 hs
 have C2 := Lib.hid fun w => fun (ow : m.Ok w) (ox : n.Ok w) => same_yes m.B n.B m.q n.q _ _ m.ys n.ys w ow.out ox.out rfl rfl e4 hs2
 have b1 : (m.t == n.t) = true := by simp [e3]
 have b2 : (m.h == n.h) = true := by simp [e5]
 clear e1 e2 e3 e4 e5
 have HD := Lib.hid (Dn.refl W)
 obtain ⟨x0, b_r, hw0, hb0, r, d', nn⟩ := new_blk W 30 (mach m)
 clear nn
 replace om := Lib.hid (om.out.dn d')
 replace on := Lib.hid (on.out.dn d')
 replace HD := hT HD d'
 clear d'
 obtain ⟨x1, b_q, hw1, hb1, q, d', nn⟩ := new_blk x0 30 (mach n)
 clear nn
 replace r := r.dn d'
 replace om := Lib.hid (om.out.dn d')
 replace on := Lib.hid (on.out.dn d')
 replace HD := hT HD d'
 clear d'
 rw [hw0] at hw1 hb1
 simp only [size_alloc] at hb1
 have R0 := r
 rw [hw1, hb0] at R0
 go_enter Tryz.func14, Tryz.ntmps14
 go_wp2_with ((with_reducible refine loadCore R0 hl ?_ ?_ ?_); rfl; rfl; refine Hid.out ?_)
 refine Lib.hid ?_
 clear R0
 rw [← hw1, ← hb1, ← hb0]
 clear hw0 hb0 hw1 hb1
 have c0 := r.mem hl
 have c1 := q.mem hl2
 have c2 := r.time hl
 have c3 := q.time hl2
 have c4 := r.out hl
 have c5 := q.out hl2
 have c6 := r.halted hl
 have c7 := q.halted hl2
 go_wp2_with (first | ((with_reducible refine load33 r hl ?_ ?_ ?_); rfl; rfl) | ((with_reducible refine loadCore r hl ?_ ?_ ?_); rfl; rfl) | ((with_reducible refine loadCsr r hl ?_ ?_ ?_); rfl; rfl) | ((with_reducible refine load33 q hl2 ?_ ?_ ?_); rfl; rfl) | ((with_reducible refine loadCore q hl2 ?_ ?_ ?_); rfl; rfl) | ((with_reducible refine loadCsr q hl2 ?_ ?_ ?_); rfl; rfl) | (go_at_call 20; (first | (with_reducible refine (C1.out _ om.out on.out).mono ?_) | (with_reducible refine (C2.out _ om.out on.out).mono ?_)); rintro e w' ⟨rfl, d'⟩; replace r := r.dn d'; replace q := q.dn d'; replace om := Lib.hid (om.out.dn d'); replace on := Lib.hid (on.out.dn d'); replace HD := hT HD d'; replace c0 := r.mem hl; replace c1 := q.mem hl2; replace c2 := r.time hl; replace c3 := q.time hl2; replace c4 := r.out hl; replace c5 := q.out hl2; replace c6 := r.halted hl; replace c7 := q.halted hl2; clear d'))
 go_ret
 exact ⟨rfl, HD.out⟩

theorem times_eq (n d r : Int) (n0 : -2147483648 ≤ n) (n1 : n < 2147483648) (d0 : 0 ≤ d) (d1 : d ≤ 65536) (h : n * d % 4294967296 = r) : -140737488355328 ≤ n * d ∧ n * d ≤ 140737488355328 ∧ (wrap64 ((n * d).tmod 4294967296 + 4294967296)).tmod 4294967296 % 4294967296 = r := by
 have a1 : -(2147483648 * 65536) ≤ n * d := by
   have := Int.mul_le_mul_of_nonneg_right n0 d0
   have h2 : -2147483648 * d ≥ -(2147483648 * 65536) := by omega
   omega
 have a2 : n * d ≤ 2147483648 * 65536 := by
   have := Int.mul_le_mul_of_nonneg_right (Int.le_of_lt n1) d0
   omega
 generalize n * d = z at h a1 a2 ⊢
 refine ⟨by omega, by omega, ?_⟩
 have ht : z.tmod 4294967296 = z % 4294967296 ∨ z.tmod 4294967296 = z % 4294967296 - 4294967296 := by
   rw [Int.tmod_eq_emod]
   split
   · left; omega
   · right; rfl
 generalize z.tmod 4294967296 = t at ht ⊢
 have hw : wrap64 (t + 4294967296) = t + 4294967296 := by unfold wrap64; omega
 rw [hw, Int.tmod_eq_emod_of_nonneg (by omega)]
 omega
set_option maxRecDepth 100000 in
set_option maxHeartbeats 2000000 in
theorem rTimes (n d r : Int) (n0 : -2147483648 ≤ n) (n1 : n < 2147483648) (d0 : 0 ≤ d) (d1 : d ≤ 65536) (h : n * d % 4294967296 = r) (W : World) : Calls Tryz.prog 54 #[.int .i32 n, .int .i64 d] W fun e W' => e = .returned (.int .u32 r) ∧ Dn W W' := by
 have h1 := times_eq n d r n0 n1 d0 d1 h
 clear h
 have HE := Lib.hid h1.2.2
 have b1 := h1.1
 have b2 := h1.2.1
 clear h1
 go_enter Tryz.func54, Tryz.ntmps54
 go_wp2
 go_ret
 exact ⟨ret_int HE.out, Dn.refl _⟩
set_option maxRecDepth 100000 in
set_option maxHeartbeats 2000000 in
theorem rPut (m : Mc) (rd v d : Int) (W : World) (hm : m.Ok W) (v0 : 0 ≤ v) (v1 : v < 4294967296) (d0 : 0 ≤ d) (d1 : d < 4294967296) (c1 c2 : List Int) (hc1 : M.setreg m.c rd v = c1) (hc2 : M.adv c1 d = c2) (m' : Mc) (hm' : m' = { m with c := c2 }) :
   Calls Tryz.prog 55 #[.agg (mach m), .int .i64 rd, .int .u32 v, .int .u32 d] W fun e W' => e = .returned (.agg (mach m')) ∧ Dn W W' := by
 have hl := hm.len
 have hc := hm.core
 have k1 : M.Core c1 := by rw [← hc1]; exact hc.setreg rd ⟨v0, v1⟩
 have l1 := k1.len
 have p0 := (M.core_pc k1).1
 have p1 := (M.core_pc k1).2
 have hpc : c1.getD 16 0 = M.pc c1 := rfl
 have HX : Hid (({ m with c := c1.set 16 ((M.pc c1 + d) % 4294967296) } : Mc) = m') := Lib.hid (by rw [hm', ← hc2]; rfl)
 have hl' : m'.c.length = 29 := by rw [hm', ← hc2]; exact (k1.adv d).len
 have he : (M.setreg (m.c.take 16) rd v).length = 16 := by rw [M.setreg_len, List.length_take, hl]; rfl
 have HE : Hid (M.setreg (m.c.take 16) rd v ++ m.c.drop 16 = c1) := Lib.hid (by rw [M.setreg_take m.c hl]; exact hc1)
 have C1 := Lib.hid fun w => refPut (m.c.take 16) rd v w (take16 hl)
 generalize M.setreg (m.c.take 16) rd v = e at he HE C1
 generalize M.pc c1 = p at hpc HX p0 p1
 clear hc1 hc2 hm'
 have HD := Lib.hid (Dn.refl W)
 go_enter Tryz.func55, Tryz.ntmps55
 go_wp2_with (first | ((with_reducible refine wpList_box (vs := (mach m)) ?_ ?_ ?_); rfl; rfl; intro b_v4 w' nn; refine Hid.out ?_))
 refine Lib.hid ?_
 have HL_v4 : Hid (W.heap.size ≤ b_v4) := Lib.hid (Blk.hi nn HD.out.size)
 have d' := nn.dn
 replace HD := hT HD d'
 have v4 := nn.blk
 clear d' nn
 go_wp2_with (first | ((with_reducible refine wpList_alloc zeroMach ?_ ?_); rfl; intro b_v8 w' nn; refine Hid.out ?_))
 refine Lib.hid ?_
 have n_v4_v8 := Lib.hid (nn.ne _ v4.lt)
 have HL_v8 : Hid (W.heap.size ≤ b_v8) := Lib.hid (Blk.hi nn HD.out.size)
 have d' := nn.dn
 replace v4 := v4.dn d'
 replace HD := hT HD d'
 have v8 := nn.blk
 clear d' nn
 go_wp2_with (first | ((with_reducible refine loadRegs v4 hl ?_ ?_ ?_); rfl; rfl) | (go_at_call 51; (with_reducible refine (C1.out _).mono ?_); rintro e w' ⟨rfl, d'⟩; refine Hid.out ?_))
 refine Lib.hid ?_
 replace v4 := v4.dn d'
 replace v8 := v8.dn d'
 replace HD := hT HD d'
 clear d'
 go_wp2_with (first | ((with_reducible refine storeRegs e he v4 hl ?_ ?_ ?_ ?_); rfl; rfl; rfl; intro w' r' t'; refine Hid.out ?_))
 refine Lib.hid ?_
 replace v8 := v8.trn t' n_v4_v8.out.symm
 obtain ⟨m1, e1⟩ : ∃ m1 : Mc, m1 = { m with c := c1 } := ⟨_, rfl⟩
 rw [HE.out, ← e1] at r'
 have hl1 : m1.c.length = 29 := by rw [e1]; exact l1
 have hp1 : m1.c.getD 16 0 = p := by rw [e1]; exact hpc
 replace e1 := Lib.hid e1
 replace HD := Lib.hid (HD.out.trn HL_v4.out t')
 clear t' v4
 have v4 := r'
 clear r'
 have ck0 := v4.word hl1 16 rfl
 rw [hp1] at ck0
 go_wp2_with (first | ((with_reducible refine storeWord (i := 16) (u := (p + d) % 4294967296) v4 hl1 ?_ ?_ ?_ ?_ ?_); rfl; rfl; rfl; rfl; intro w' r' t'; refine Hid.out ?_))
 refine Lib.hid ?_
 clear ck0
 replace v8 := v8.trn t' n_v4_v8.out.symm
 replace r' : Blk w' b_v4 30 (mach m') := by
   rw [← HX.out]
   have h0 := e1.out
   subst h0
   exact r'
 replace HD := Lib.hid (HD.out.trn HL_v4.out t')
 clear t' v4
 have v4 := r'
 clear r'
 go_wp2_with (first | ((with_reducible refine load33 v4 hl' ?_ ?_ ?_); rfl; rfl) | ((with_reducible refine store33 m' hl' v8 zlen ?_ ?_ ?_ ?_); rfl; rfl; rfl; intro w' r' t'; refine Hid.out ?_))
 refine Lib.hid ?_
 replace v4 := v4.trn t' n_v4_v8.out
 replace HD := Lib.hid (HD.out.trn HL_v8.out t')
 clear t' v8
 have v8 := r'
 clear r'
 go_wp2_with fail
 exact retM rfl rfl v8 hl' ⟨rfl, HD.out⟩ rfl
theorem rPrivi (op : Int) (b : Bool) (hb : Is.M.priv op = b) (W : World) : Calls Tryz.prog 34 #[.int .i64 op] W fun e W' => e = .returned (.bool b) ∧ Dn W W' :=
 (Is.refPrivileged op W).mono fun e w h => ⟨by rw [h.1, hb], h.2 ▸ Dn.refl _⟩
end Go.Proofs.YtclpdjpaaagkdaaGreatDoor
