/-
  The law StepTrapPriority of the law package returns true at every input, and each argument reads as it did; conditions: the listed package variables hold what the program's text lays there (the card ties them to it).
-/
import Derived.Test.YtjbnflalngjfaaaGreatDoorCards
import Derived.Test.YtjbnflalngjfaaaGreatDoorTie
import Derived.Test.YtjbnflalngjfaaaGreatDoorPkB
import Derived.Test.YtjbnflalngjfaaaGreatDoorPkG
import Derived.Test.YtjbnflalngjfaaaGreatDoorPkC
import Derived.Test.YtjbnflalngjfaaaGreatDoorPkW
namespace Go.Proofs.YtjbnflalngjfaaaGreatDoor
open Go.ChangeShapes Go.WideShapes Go.ChangeAt Go.RowKit Go.Sort
set_option linter.unusedVariables false

def GetRel (W : World) (i : Int) (x : Value) (w : World) : Prop := ∃ k : Nat, 1 ≤ k ∧ k ≤ 16 ∧ x = .int .i64 k ∧ (∀ j : Nat, 1 ≤ j → j < k → i ≠ j) ∧ w = W

theorem refGet (c : List Int) (i : Int) (W : World) (hl : c.length = 16) :
    Calls Tryz.prog 50 #[.agg (ints .u32 c), .int .i64 i] W fun e W' => e = .returned (.int .u32 (M.reg c i)) ∧ Dn W W' := by
  have D := Lib.hid ((Dn.refl W).alloc (.cells (ints .u32 c) 23))
  have R := Lib.hid (Row.new W 23 .u32 c)
  go_enter Tryz.func50, Tryz.ntmps50
  go_wp2_with fail
  obtain ⟨w0, hw0⟩ : ∃ w0, w0 = W.alloc (.cells (ints .u32 c) 23) := ⟨_, rfl⟩
  rw [← hw0] at D R ⊢
  clear hw0
  go_loopw [5] (fun x w => GetRel w0 i x w) (fun x _ => 16 - (intOf x).toNat)
  case atStart => exact ⟨1, by decide, by decide, rfl, fun j h1 h2 => absurd h2 (by omega), rfl⟩
  case round =>
    obtain ⟨k, hk1, hk, rfl, hno, rfl⟩ := hrel
    have HNO := Lib.hid hno
    clear hno
    by_cases hlt : k < 16
    · have hlt2 : (k : Int) < 16 := by omega
      by_cases heq : i = k
      · subst heq
        have HE : Hid (M.reg c k = c.getD k 0) := Lib.hid (by rw [M.reg_in ((M.stored_iff _).2 (by omega)), Int.toNat_natCast])
        have kc : wr.cell? ⟨W.heap.size, k, none⟩ = some (.int .u32 (c.getD k 0)) := R.out.cell k (by omega)
        generalize c.getD k 0 = z at HE kc
        go_wp2
        go_ret
        exact ⟨ret_int HE.out.symm, D.out⟩
      · have hne : ((k : Int) == i) = false := by simp; omega
        have HNE := Lib.hid heq
        clear heq
        go_wp2
        go_roundw
        case rel =>
          refine ⟨k + 1, by omega, by omega, by go_num, fun j h1 h2 => ?_, rfl⟩
          by_cases hj : j = k
          · subst hj; exact HNE.out
          · exact HNO.out j h1 (by omega)
        case measure => simp [intOf]; omega
    · obtain rfl : k = 16 := by omega
      have HE : Hid (M.reg c i = 0) := Lib.hid (by
        refine M.reg_out ((M.stored_no i).2 ?_)
        by_cases h0 : 0 < i ∧ i < 16
        · exact absurd (by omega) (HNO.out i.toNat (by omega) (by omega))
        · omega)
      go_wp2
      go_ret
      exact ⟨ret_int HE.out.symm, D.out⟩

structure PutAt (W : World) (c a : List Int) (w : World) : Prop where
  r : Row w W.heap.size 23 .u32 c
  o : Row w (W.heap.size + 1) 23 .u32 (zeros 16)
  p : Row w (W.heap.size + 1 + 1) 23 .u32 a
  d : Dn W w
theorem PutAt.put {W w : World} {c a : List Int} (h : PutAt W c a w) (k : Nat) (z : Int) : PutAt W c (a.set k z) (w.setCell ⟨W.heap.size + 1 + 1, k, none⟩ (.int .u32 z)) :=
  ⟨h.r.otherCell (by omega) _, h.o.otherCell (by omega) _, h.p.put k z, h.d.setCell (by show W.heap.size ≤ W.heap.size + 1 + 1; omega) _⟩
theorem PutAt.new (W : World) (c : List Int) : PutAt W c (zeros 16) (((W.alloc (.cells (ints .u32 c) 23)).alloc (.cells (ints .u32 (zeros 16)) 23)).alloc (.cells (ints .u32 (zeros 16)) 23)) :=
  ⟨(Row.new W _ _ c).dn (((Dn.refl _).alloc _).alloc _), (Row.second W _ _ _ _).dn ((Dn.refl _).alloc _), Row.third _ _ _ _ _ _, (((Dn.refl W).alloc _).alloc _).alloc _⟩
def PutRel (W : World) (c d : List Int) (x : Value) (w : World) : Prop := ∃ (k : Nat) (a : List Int), k ≤ 16 ∧ x = .int .i64 k ∧ a.length = 16 ∧ (∀ j : Nat, j < k → a.getD j 0 = d.getD j 0) ∧ PutAt W c a w
theorem put_more {a d : List Int} {k : Nat} {z : Int} (hl : a.length = 16) (hk : k < 16) (h : ∀ j : Nat, j < k → a.getD j 0 = d.getD j 0) (hz : d.getD k 0 = z) : ∀ j : Nat, j < k + 1 → (a.set k z).getD j 0 = d.getD j 0 := by
  intro j hj
  rw [M.getD_set]
  by_cases e : k = j
  · subst e; rw [if_pos ⟨rfl, by omega⟩, hz]
  · rw [if_neg (fun h => e h.1), h j (by omega)]

theorem refPut (c : List Int) (i v : Int) (W : World) (hl : c.length = 16) :
    Calls Tryz.prog 52 #[.agg (ints .u32 c), .int .i64 i, .int .u32 v] W fun e W' => e = .returned (.agg (ints .u32 (M.setreg c i v))) ∧ Dn W W' := by
  have P0 := Lib.hid (PutAt.new W c)
  have HD : Hid (∀ j : Nat, (M.setreg c i v).getD j 0 = if M.stored i = true ∧ i = j then v else c.getD j 0) := Lib.hid fun j => M.getD_setreg hl i v j
  have hld : (M.setreg c i v).length = 16 := (M.setreg_len c i v).trans hl
  generalize M.setreg c i v = d at HD hld ⊢
  go_enter Tryz.func52, Tryz.ntmps52
  go_wp2_with (first
    | ((with_reducible refine alloc16 (b := W.heap.size + 1) (size_alloc _ _) ?_ ?_); rfl)
    | ((with_reducible refine alloc16 (b := W.heap.size + 1 + 1) (size2 _ _ _) ?_ ?_); rfl))
  obtain ⟨w0, hw0⟩ : ∃ w0, w0 = ((W.alloc (.cells (ints .u32 c) 23)).alloc (.cells (ints .u32 (zeros 16)) 23)).alloc (.cells (ints .u32 (zeros 16)) 23) := ⟨_, rfl⟩
  rw [← hw0] at P0 ⊢
  clear hw0
  go_loopw [8] (fun x w => PutRel W c d x w) (fun x _ => 16 - (intOf x).toNat)
  case atStart => exact ⟨0, zeros 16, by decide, rfl, rfl, fun j h => absurd h (by omega), P0.out⟩
  case round =>
    obtain ⟨k, a, hk, rfl, hla, hno, hp⟩ := hrel
    have HNO := Lib.hid hno
    have P := Lib.hid hp
    clear hno hp P0
    by_cases hlt : k < 16
    · have hlt2 : (k : Int) < 16 := by omega
      have kr : wr.cell? ⟨W.heap.size, k, none⟩ = some (.int .u32 (c.getD k 0)) := P.out.r.cell k (by omega)
      have ko : wr.cell? ⟨W.heap.size + 1 + 1, k, none⟩ = some (.int .u32 (a.getD k 0)) := P.out.p.cell k (by omega)
      have kf : wr.frozen? ⟨W.heap.size + 1 + 1, k, none⟩ = false := P.out.p.fr k
      have HK := Lib.hid (HD.out k)
      generalize hz : c.getD k 0 = z at kr HK
      generalize a.getD k 0 = y at ko
      have kf2 : (wr.setCell ⟨W.heap.size + 1 + 1, k, none⟩ (.int .u32 z)).frozen? ⟨W.heap.size + 1 + 1, k, none⟩ = false := (P.out.put k z).p.fr k
      have ko2 : (wr.setCell ⟨W.heap.size + 1 + 1, k, none⟩ (.int .u32 z)).cell? ⟨W.heap.size + 1 + 1, k, none⟩ = some (.int .u32 ((a.set k z).getD k 0)) := (P.out.put k z).p.cell k (by simp; omega)
      clear hz
      by_cases heq : i = k
      · subst heq
        by_cases h0 : k = 0
        · subst h0
          have HZ : Hid (d.getD 0 0 = z) := Lib.hid (by rw [HK.out, if_neg (fun h => by have := (M.stored_iff _).1 h.1; omega)])
          go_wp2
          go_roundw
          case rel => exact ⟨0 + 1, a.set 0 z, by omega, by go_num, by simp [hla], put_more hla (by omega) HNO.out HZ.out, P.out.put 0 z⟩
          case measure => simp [intOf]
        · have HZ : Hid (d.getD k 0 = v) := Lib.hid (by rw [HK.out, if_pos ⟨(M.stored_iff _).2 (by omega), rfl⟩])
          have hne : ((k : Int) == 0) = false := by simp; omega
          go_wp2
          go_roundw
          case rel => exact ⟨k + 1, (a.set k z).set k v, by omega, by go_num, by simp [hla], put_more (by simp [hla]) (by omega) (fun j hj => by rw [M.getD_set, if_neg (by omega)]; exact HNO.out j hj) HZ.out, (P.out.put k z).put k v⟩
          case measure => simp [intOf]; omega
      · have HZ : Hid (d.getD k 0 = z) := Lib.hid (by rw [HK.out, if_neg (fun h => heq h.2)])
        have hne : ((k : Int) == i) = false := by simp; omega
        clear heq
        go_wp2
        go_roundw
        case rel => exact ⟨k + 1, a.set k z, by omega, by go_num, by simp [hla], put_more hla hlt HNO.out HZ.out, P.out.put k z⟩
        case measure => simp [intOf]; omega
    · obtain rfl : k = 16 := by omega
      obtain rfl : a = d := M.same_of (by omega) fun j hj => HNO.out j (by omega)
      have ra := P.out.p
      have ro := P.out.o
      go_wp2_with (first
        | ((with_reducible refine load16 ra hld ?_ ?_ ?_); rfl; rfl)
        | ((with_reducible refine restore16 ro a rfl hld ?_ ?_ ?_ ?_); rfl; rfl; rfl))
      exact ret16 Tryz.results52 rfl (ro.stored a) hld ⟨rfl, P.out.d.setRow (by omega) _⟩ rfl
end Go.Proofs.YtjbnflalngjfaaaGreatDoor
namespace Go.Proofs.YtjbnflalngjfaaaGreatDoor
open Go.ChangeShapes Go.WideShapes Go.ChangeAt Go.RowKit Go.Sort
set_option linter.unusedVariables false

theorem times_eq (n d r : Int) (n0 : -2147483648 ≤ n) (n1 : n < 2147483648) (d0 : 0 ≤ d) (d1 : d ≤ 65536) (h : n * d % 4294967296 = r) : -140737488355328 ≤ n * d ∧ n * d ≤ 140737488355328 ∧ (wrap64 ((n * d).tmod 4294967296 + 4294967296)).tmod 4294967296 % 4294967296 = r := by
  have a1 : -(2147483648 * 65536) ≤ n * d := by
    have := Int.mul_le_mul_of_nonneg_right n0 d0
    have h2 : -2147483648 * d ≥ -(2147483648 * 65536) := by omega
    omega
  have a2 : n * d ≤ 2147483648 * 65536 := by
    have := Int.mul_le_mul_of_nonneg_right (Int.le_of_lt n1) d0
    omega
  generalize n * d = z at h a1 a2 ⊢
  refine ⟨by omega, by omega, ?_⟩
  have ht : z.tmod 4294967296 = z % 4294967296 ∨ z.tmod 4294967296 = z % 4294967296 - 4294967296 := by
    rw [Int.tmod_eq_emod]
    split
    · left; omega
    · right; rfl
  generalize z.tmod 4294967296 = t at ht ⊢
  have hw : wrap64 (t + 4294967296) = t + 4294967296 := by unfold wrap64; omega
  rw [hw, Int.tmod_eq_emod_of_nonneg (by omega)]
  omega
set_option maxRecDepth 100000 in
set_option maxHeartbeats 2000000 in
theorem rTimes (n d r : Int) (n0 : -2147483648 ≤ n) (n1 : n < 2147483648) (d0 : 0 ≤ d) (d1 : d ≤ 65536) (h : n * d % 4294967296 = r) (W : World) : Calls Tryz.prog 55 #[.int .i32 n, .int .i64 d] W fun e W' => e = .returned (.int .u32 r) ∧ Dn W W' := by
  have h1 := times_eq n d r n0 n1 d0 d1 h
  clear h
  have HE := Lib.hid h1.2.2
  have b1 := h1.1
  have b2 := h1.2.1
  clear h1
  go_enter Tryz.func55, Tryz.ntmps55
  go_wp2
  go_ret
  exact ⟨ret_int HE.out, Dn.refl _⟩
set_option maxRecDepth 100000 in
set_option maxHeartbeats 2000000 in
theorem rPut (m : Mc) (rd v d : Int) (W : World) (hm : m.Ok W) (v0 : 0 ≤ v) (v1 : v < 4294967296) (d0 : 0 ≤ d) (d1 : d < 4294967296) (c1 c2 : List Int) (hc1 : M.setreg m.c rd v = c1) (hc2 : M.adv c1 d = c2) (m' : Mc) (hm' : m' = { m with c := c2 }) :
    Calls Tryz.prog 56 #[.agg (mach m), .int .i64 rd, .int .u32 v, .int .u32 d] W fun e W' => e = .returned (.agg (mach m')) ∧ Dn W W' := by
  have hl := hm.len
  have hc := hm.core
  have k1 : M.Core c1 := by rw [← hc1]; exact hc.setreg rd ⟨v0, v1⟩
  have l1 := k1.len
  have p0 := (M.core_pc k1).1
  have p1 := (M.core_pc k1).2
  have hpc : c1.getD 16 0 = M.pc c1 := rfl
  have HX : Hid (({ m with c := c1.set 16 ((M.pc c1 + d) % 4294967296) } : Mc) = m') := Lib.hid (by rw [hm', ← hc2]; rfl)
  have hl' : m'.c.length = 29 := by rw [hm', ← hc2]; exact (k1.adv d).len
  have he : (M.setreg (m.c.take 16) rd v).length = 16 := by rw [M.setreg_len, List.length_take, hl]; rfl
  have HE : Hid (M.setreg (m.c.take 16) rd v ++ m.c.drop 16 = c1) := Lib.hid (by rw [M.setreg_take m.c hl]; exact hc1)
  have C1 := Lib.hid fun w => refPut (m.c.take 16) rd v w (take16 hl)
  generalize M.setreg (m.c.take 16) rd v = e at he HE C1
  generalize M.pc c1 = p at hpc HX p0 p1
  clear hc1 hc2 hm'
  have HD := Lib.hid (Dn.refl W)
  go_enter Tryz.func56, Tryz.ntmps56
  go_wp2_with (first | ((with_reducible refine wpList_box (vs := (mach m)) ?_ ?_ ?_); rfl; rfl; intro b_v4 w' nn; refine Hid.out ?_))
  refine Lib.hid ?_
  have HL_v4 : Hid (W.heap.size ≤ b_v4) := Lib.hid (Blk.hi nn HD.out.size)
  have d' := nn.dn
  replace HD := Lib.hid (HD.out.trans d')
  have v4 := nn.blk
  clear d' nn
  go_wp2_with (first | ((with_reducible refine wpList_alloc zeroMach ?_ ?_); rfl; intro b_v8 w' nn; refine Hid.out ?_))
  refine Lib.hid ?_
  have n_v4_v8 := Lib.hid (nn.ne _ v4.lt)
  have HL_v8 : Hid (W.heap.size ≤ b_v8) := Lib.hid (Blk.hi nn HD.out.size)
  have d' := nn.dn
  replace v4 := v4.dn d'
  replace HD := Lib.hid (HD.out.trans d')
  have v8 := nn.blk
  clear d' nn
  go_wp2_with (first | ((with_reducible refine loadRegs v4 hl ?_ ?_ ?_); rfl; rfl) | (go_at_call 52; (with_reducible refine (C1.out _).mono ?_); rintro e w' ⟨rfl, d'⟩; refine Hid.out ?_))
  refine Lib.hid ?_
  replace v4 := v4.dn d'
  replace v8 := v8.dn d'
  replace HD := Lib.hid (HD.out.trans d')
  clear d'
  go_wp2_with (first | ((with_reducible refine storeRegs e he v4 hl ?_ ?_ ?_ ?_); rfl; rfl; rfl; intro w' r' t'; refine Hid.out ?_))
  refine Lib.hid ?_
  replace v8 := v8.trn t' n_v4_v8.out.symm
  obtain ⟨m1, e1⟩ : ∃ m1 : Mc, m1 = { m with c := c1 } := ⟨_, rfl⟩
  rw [HE.out, ← e1] at r'
  have hl1 : m1.c.length = 29 := by rw [e1]; exact l1
  have hp1 : m1.c.getD 16 0 = p := by rw [e1]; exact hpc
  replace e1 := Lib.hid e1
  replace HD := Lib.hid (HD.out.trn HL_v4.out t')
  clear t' v4
  have v4 := r'
  clear r'
  have ck0 := v4.word hl1 16 rfl
  rw [hp1] at ck0
  go_wp2_with (first | ((with_reducible refine storeWord (i := 16) (u := (p + d) % 4294967296) v4 hl1 ?_ ?_ ?_ ?_ ?_); rfl; rfl; rfl; rfl; intro w' r' t'; refine Hid.out ?_))
  refine Lib.hid ?_
  clear ck0
  replace v8 := v8.trn t' n_v4_v8.out.symm
  replace r' : Blk w' b_v4 30 (mach m') := by
    rw [← HX.out]
    have h0 := e1.out
    subst h0
    exact r'
  replace HD := Lib.hid (HD.out.trn HL_v4.out t')
  clear t' v4
  have v4 := r'
  clear r'
  go_wp2_with (first | ((with_reducible refine load33 v4 hl' ?_ ?_ ?_); rfl; rfl) | ((with_reducible refine store33 m' hl' v8 zlen ?_ ?_ ?_ ?_); rfl; rfl; rfl; intro w' r' t'; refine Hid.out ?_))
  refine Lib.hid ?_
  replace v4 := v4.trn t' n_v4_v8.out
  replace HD := Lib.hid (HD.out.trn HL_v8.out t')
  clear t' v8
  have v8 := r'
  clear r'
  go_wp2_with fail
  exact retM rfl rfl v8 hl' ⟨rfl, HD.out⟩ rfl
set_option maxRecDepth 100000 in
set_option maxHeartbeats 2000000 in
theorem rMay (op rd ra rb imm : Int) (b : Bool) (i0 : -2147483648 ≤ imm) (i1 : imm < 2147483648) (hb : Is.M.ok op rd ra rb imm = b) (W : World) : Calls Tryz.prog 20 #[.agg (ins op rd ra rb imm)] W fun e W' => e = .returned (.bool b) ∧ Dn W W' :=
  (Is.may op rd ra rb imm W i0 i1).mono fun e w h => ⟨by rw [h.1, hb], dn_of_below h.2.below⟩
theorem rPrivi (op : Int) (b : Bool) (hb : Is.M.priv op = b) (W : World) : Calls Tryz.prog 21 #[.int .i64 op] W fun e W' => e = .returned (.bool b) ∧ Dn W W' :=
  (Is.refPrivileged op W).mono fun e w h => ⟨by rw [h.1, hb], h.2 ▸ Dn.refl _⟩
end Go.Proofs.YtjbnflalngjfaaaGreatDoor
namespace Go.Proofs.YtjbnflalngjfaaaGreatDoor
open Go.ChangeShapes Go.WideShapes Go.ChangeAt Go.RowKit Go.Sort
set_option linter.unusedVariables false

set_option maxRecDepth 100000 in
set_option maxHeartbeats 2000000 in
theorem stp_few (m : Mc) (W : World) (hm : m.Ok W) (T : Env2 W) (hx : m.xs.length ≤ 9223372036854775807) (hy : m.ys.length ≤ 9223372036854775807) (hf : decide (m.xs.length ≤ 600 ∧ m.ys.length ≤ 600) = false) :
    Calls Tryz.prog 5 #[.agg (mach m)] W fun e W' => e = .returned (.bool true) ∧ Dn W W' := by
  have C0 := Lib.hid fun w => fun (t : Env2 w) => awakeS w t
  have CF := Lib.hid fun w => fun (ow : m.Ok w) => rfew m false w ow hx hy hf
  clear hf
  have HD := Lib.hid (Dn.refl W)
  go_enter Tryz.func5, Tryz.ntmps5
  go_wp2_with (first | ((with_reducible refine wpList_box (vs := (mach m)) ?_ ?_ ?_); rfl; rfl; intro b_v1 w' nn; refine Hid.out ?_))
  refine Lib.hid ?_
  have HL_v1 : Hid (W.heap.size ≤ b_v1) := Lib.hid (Blk.hi nn HD.out.size)
  have d' := nn.dn
  replace HD := Lib.hid (HD.out.trans d')
  have v1 := nn.blk
  clear d' nn
  go_wp2_with (first | (go_at_call 9; (with_reducible refine (C0.out _ (T.dn HD.out)).mono ?_); rintro e w' ⟨rfl, d'⟩; refine Hid.out ?_))
  refine Lib.hid ?_
  replace v1 := v1.dn d'
  replace HD := Lib.hid (HD.out.trans d')
  clear d'
  go_wp2_with (first | ((with_reducible refine load33 v1 hm.len ?_ ?_ ?_); rfl; rfl) | (go_at_call 10; (with_reducible refine (CF.out _ (hm.dn HD.out)).mono ?_); rintro e w' ⟨rfl, d'⟩; refine Hid.out ?_))
  refine Lib.hid ?_
  replace v1 := v1.dn d'
  replace HD := Lib.hid (HD.out.trans d')
  clear d'
  go_wp2_with (first | (go_at_call 9; (with_reducible refine (C0.out _ (T.dn HD.out)).mono ?_); rintro e w' ⟨rfl, d'⟩; refine Hid.out ?_))
  refine Lib.hid ?_
  replace v1 := v1.dn d'
  replace HD := Lib.hid (HD.out.trans d')
  clear d'
  go_wp2_with fail
  go_ret
  exact ⟨rfl, HD.out⟩
set_option maxRecDepth 100000 in
set_option maxHeartbeats 2000000 in
theorem stp_h (m : Mc) (W : World) (hm : m.Ok W) (T : Env2 W) (hx : m.xs.length ≤ 9223372036854775807) (hy : m.ys.length ≤ 9223372036854775807) (hf : decide (m.xs.length ≤ 600 ∧ m.ys.length ≤ 600) = true) (hh : m.h = true) :
    Calls Tryz.prog 5 #[.agg (mach m)] W fun e W' => e = .returned (.bool true) ∧ Dn W W' := by
  have hl := hm.len
  have C0 := Lib.hid fun w => fun (t : Env2 w) => awakeS w t
  have CF := Lib.hid fun w => fun (ow : m.Ok w) => rfew m true w ow hx hy hf
  clear hf
  have HD := Lib.hid (Dn.refl W)
  go_enter Tryz.func5, Tryz.ntmps5
  go_wp2_with (first | ((with_reducible refine wpList_box (vs := (mach m)) ?_ ?_ ?_); rfl; rfl; intro b_v1 w' nn; refine Hid.out ?_))
  refine Lib.hid ?_
  have HL_v1 : Hid (W.heap.size ≤ b_v1) := Lib.hid (Blk.hi nn HD.out.size)
  have d' := nn.dn
  replace HD := Lib.hid (HD.out.trans d')
  have v1 := nn.blk
  clear d' nn
  go_wp2_with (first | (go_at_call 9; (with_reducible refine (C0.out _ (T.dn HD.out)).mono ?_); rintro e w' ⟨rfl, d'⟩; refine Hid.out ?_))
  refine Lib.hid ?_
  replace v1 := v1.dn d'
  replace HD := Lib.hid (HD.out.trans d')
  clear d'
  go_wp2_with (first | ((with_reducible refine load33 v1 hl ?_ ?_ ?_); rfl; rfl) | (go_at_call 10; (with_reducible refine (CF.out _ (hm.dn HD.out)).mono ?_); rintro e w' ⟨rfl, d'⟩; refine Hid.out ?_))
  refine Lib.hid ?_
  replace v1 := v1.dn d'
  replace HD := Lib.hid (HD.out.trans d')
  clear d'
  have ck0 := v1.halted hl
  rw [hh] at ck0
  go_wp2_with (first | (go_at_call 9; (with_reducible refine (C0.out _ (T.dn HD.out)).mono ?_); rintro e w' ⟨rfl, d'⟩; refine Hid.out ?_))
  refine Lib.hid ?_
  clear ck0
  replace v1 := v1.dn d'
  replace HD := Lib.hid (HD.out.trans d')
  clear d'
  go_wp2_with fail
  go_ret
  exact ⟨rfl, HD.out⟩
set_option maxRecDepth 100000 in
set_option maxHeartbeats 2000000 in
theorem stp_td (m : Mc) (W : World) (hm : m.Ok W) (T : Env2 W) (hx : m.xs.length ≤ 9223372036854775807) (hy : m.ys.length ≤ 9223372036854775807) (hf : decide (m.xs.length ≤ 600 ∧ m.ys.length ≤ 600) = true) (hh : m.h = false) (r s : M.SRes) (k v : Int) (hr : M.stS m.c m.xs m.ys false m.t = r) (hk : r.k = 6) (hv : r.v = 0) (hs_ : M.stn m.c m.xs m.ys false m.t = s) (hsk : s.k = k) (hsv : s.v = v) (e1 : M.nw Is.M.dOp m.c m.xs = 0) (e2 : M.nw Is.M.dRd m.c m.xs = 0) (e3 : M.nw Is.M.dRa m.c m.xs = 0) (e4 : M.nw Is.M.dRb m.c m.xs = 0) (e5 : M.nw Is.M.dImm m.c m.xs = 0) (e6 : M.nowK m.c m.xs = k) (e7 : M.nowV m.c m.xs = v) (hd : M.due m.c m.t = true) (hk0 : k ≠ 0) (k4 : 0 ≤ k ∧ k ≤ 4) :
    Calls Tryz.prog 5 #[.agg (mach m)] W fun e W' => e = .returned (.bool true) ∧ Dn W W' := by
  have hl := hm.len
  have hc := hm.core
  have hs : m.xs.length ≤ 600 := by simp only [decide_eq_true_eq] at hf; omega
  have hn : m.ys.length ≤ 600 := by simp only [decide_eq_true_eq] at hf; omega
  have C0 := Lib.hid fun w => fun (t : Env2 w) => awakeS w t
  have CF := Lib.hid fun w => fun (ow : m.Ok w) => rfew m true w ow hx hy hf
  clear hf
  have C1 := Lib.hid fun w => fun (ow : m.Ok w) (t : Env2 w) => stRunS m m.c m.xs m.ys false m.t rfl rfl rfl hh rfl r 6 0 hk hv (by omega) (by omega) w ow t hr
  have C3 := Lib.hid fun w => fun (ow : m.Ok w) (t : Env2 w) => stRunN m m.c m.xs m.ys false m.t rfl rfl rfl hh rfl s k v hsk hsv (by omega) (by omega) w ow t hs_
  have C2 := Lib.hid fun w => fun (ow : m.Ok w) (t : Env2 w) => stRunC m m.c m.xs rfl rfl 0 0 0 0 0 k v e1 e2 e3 e4 e5 e6 e7 (by omega) w ow t
  have CD := Lib.hid fun w => fun (ow : m.Ok w) => (by have h := rdue m w ow; rw [hd] at h; exact h : Calls Tryz.prog 22 #[.agg (mach m)] w fun e W' => e = .returned (.bool true) ∧ Dn w W')
  have hq1 : (k == 0) = false := by simpa using hk0
  have hq2 : (k != 0) = true := by simpa using hk0
  have qI : ∀ w, (Op.equalIn 10000 38 (.agg (ins 0 0 0 0 0)) (.agg #[.int .i64 0, .int .i64 0, .int .i64 0, .int .i64 0, .int .i32 0])).run Tryz.prog w = .ok true w := eqI_same 0 0 0 0 0
  have qT := eqTrap_same k v
  have q6 := eqTrap_same 6 0
  clear hr hk hv hs_ hsk hsv hd e1 e2 e3 e4 e5 e6 e7 hk0 k4
  have HD := Lib.hid (Dn.refl W)
  go_enter Tryz.func5, Tryz.ntmps5
  go_wp2_with (first | ((with_reducible refine wpList_box (vs := (mach m)) ?_ ?_ ?_); rfl; rfl; intro b_v1 w' nn; refine Hid.out ?_))
  refine Lib.hid ?_
  have HL_v1 : Hid (W.heap.size ≤ b_v1) := Lib.hid (Blk.hi nn HD.out.size)
  have d' := nn.dn
  replace HD := Lib.hid (HD.out.trans d')
  have v1 := nn.blk
  clear d' nn
  go_wp2_with (first | (go_at_call 9; (with_reducible refine (C0.out _ (T.dn HD.out)).mono ?_); rintro e w' ⟨rfl, d'⟩; refine Hid.out ?_))
  refine Lib.hid ?_
  replace v1 := v1.dn d'
  replace HD := Lib.hid (HD.out.trans d')
  clear d'
  go_wp2_with (first | ((with_reducible refine load33 v1 hl ?_ ?_ ?_); rfl; rfl) | (go_at_call 10; (with_reducible refine (CF.out _ (hm.dn HD.out)).mono ?_); rintro e w' ⟨rfl, d'⟩; refine Hid.out ?_))
  refine Lib.hid ?_
  replace v1 := v1.dn d'
  replace HD := Lib.hid (HD.out.trans d')
  clear d'
  have ck0 := v1.halted hl
  rw [hh] at ck0
  go_wp2_with (first | ((with_reducible refine load33 v1 hl ?_ ?_ ?_); rfl; rfl) | (go_at_call 15; (with_reducible refine (C2.out _ (hm.dn HD.out) (T.dn HD.out)).mono ?_); rintro e w' ⟨rfl, d'⟩; refine Hid.out ?_))
  refine Lib.hid ?_
  clear ck0
  replace v1 := v1.dn d'
  replace HD := Lib.hid (HD.out.trans d')
  clear d'
  go_wp2_with (first | ((with_reducible refine wpList_alloc zeroI ?_ ?_); rfl; intro b_v3 w' nn; refine Hid.out ?_))
  refine Lib.hid ?_
  have n_v1_v3 := Lib.hid (nn.ne _ v1.lt)
  have HL_v3 : Hid (W.heap.size ≤ b_v3) := Lib.hid (Blk.hi nn HD.out.size)
  have d' := nn.dn
  replace v1 := v1.dn d'
  replace HD := Lib.hid (HD.out.trans d')
  have v3 := nn.blk
  clear d' nn
  go_wp2_with (first | ((with_reducible refine wpList_alloc zeroTrap ?_ ?_); rfl; intro b_v4 w' nn; refine Hid.out ?_))
  refine Lib.hid ?_
  have n_v1_v4 := Lib.hid (nn.ne _ v1.lt)
  have n_v3_v4 := Lib.hid (nn.ne _ v3.lt)
  have HL_v4 : Hid (W.heap.size ≤ b_v4) := Lib.hid (Blk.hi nn HD.out.size)
  have d' := nn.dn
  replace v1 := v1.dn d'
  replace v3 := v3.dn d'
  replace HD := Lib.hid (HD.out.trans d')
  have v4 := nn.blk
  clear d' nn
  go_wp2_with (first | ((with_reducible refine storeI (op := 0) (rd := 0) (ra := 0) (rb := 0) (imm := 0) v3 ?_ ?_ ?_ ?_); rfl; rfl; rfl; intro w' r' t'; refine Hid.out ?_))
  refine Lib.hid ?_
  replace v1 := v1.trn t' n_v1_v3.out
  replace v4 := v4.trn t' n_v3_v4.out.symm
  replace HD := Lib.hid (HD.out.trn HL_v3.out t')
  clear t' v3
  have v3 := r'
  clear r'
  go_wp2_with (first | ((with_reducible refine storeTrap (k := k) (v := v) v4 ?_ ?_ ?_ ?_); rfl; rfl; rfl; intro w' r' t'; refine Hid.out ?_))
  refine Lib.hid ?_
  replace v1 := v1.trn t' n_v1_v4.out
  replace v3 := v3.trn t' n_v3_v4.out
  replace HD := Lib.hid (HD.out.trn HL_v4.out t')
  clear t' v4
  have v4 := r'
  clear r'
  go_wp2_with (first | ((with_reducible refine load33 v1 hl ?_ ?_ ?_); rfl; rfl) | (go_at_call 11; (with_reducible refine (C1.out _ (hm.dn HD.out) (T.dn HD.out)).mono ?_); rintro e w' ⟨m1, rfl, o_m1, e_m1, d'⟩; refine Hid.out ?_))
  refine Lib.hid ?_
  replace v1 := v1.dn d'
  replace v3 := v3.dn d'
  replace v4 := v4.dn d'
  replace HD := Lib.hid (HD.out.trans d')
  clear d'
  have l_m1 := o_m1.out.len
  have o_m1 := Lib.hid o_m1.out
  go_wp2_with (first | ((with_reducible refine wpList_alloc zeroMach ?_ ?_); rfl; intro b_v5 w' nn; refine Hid.out ?_))
  refine Lib.hid ?_
  have n_v1_v5 := Lib.hid (nn.ne _ v1.lt)
  have n_v3_v5 := Lib.hid (nn.ne _ v3.lt)
  have n_v4_v5 := Lib.hid (nn.ne _ v4.lt)
  have HL_v5 : Hid (W.heap.size ≤ b_v5) := Lib.hid (Blk.hi nn HD.out.size)
  have d' := nn.dn
  replace v1 := v1.dn d'
  replace v3 := v3.dn d'
  replace v4 := v4.dn d'
  replace o_m1 := Lib.hid (o_m1.out.dn d')
  replace HD := Lib.hid (HD.out.trans d')
  have v5 := nn.blk
  clear d' nn
  go_wp2_with (first | ((with_reducible refine wpList_alloc zeroTrap ?_ ?_); rfl; intro b_v6 w' nn; refine Hid.out ?_))
  refine Lib.hid ?_
  have n_v1_v6 := Lib.hid (nn.ne _ v1.lt)
  have n_v3_v6 := Lib.hid (nn.ne _ v3.lt)
  have n_v4_v6 := Lib.hid (nn.ne _ v4.lt)
  have n_v5_v6 := Lib.hid (nn.ne _ v5.lt)
  have HL_v6 : Hid (W.heap.size ≤ b_v6) := Lib.hid (Blk.hi nn HD.out.size)
  have d' := nn.dn
  replace v1 := v1.dn d'
  replace v3 := v3.dn d'
  replace v4 := v4.dn d'
  replace v5 := v5.dn d'
  replace o_m1 := Lib.hid (o_m1.out.dn d')
  replace HD := Lib.hid (HD.out.trans d')
  have v6 := nn.blk
  clear d' nn
  go_wp2_with (first | ((with_reducible refine store33 m1 l_m1 v5 zlen ?_ ?_ ?_ ?_); rfl; rfl; rfl; intro w' r' t'; refine Hid.out ?_))
  refine Lib.hid ?_
  replace o_m1 := Lib.hid (o_m1.out.trn v5 (NoU8.mach _) t')
  replace v1 := v1.trn t' n_v1_v5.out
  replace v3 := v3.trn t' n_v3_v5.out
  replace v4 := v4.trn t' n_v4_v5.out
  replace v6 := v6.trn t' n_v5_v6.out.symm
  replace HD := Lib.hid (HD.out.trn HL_v5.out t')
  clear t' v5
  have v5 := r'
  clear r'
  go_wp2_with (first | ((with_reducible refine storeTrap (k := 6) (v := 0) v6 ?_ ?_ ?_ ?_); rfl; rfl; rfl; intro w' r' t'; refine Hid.out ?_))
  refine Lib.hid ?_
  replace o_m1 := Lib.hid (o_m1.out.trn v6 (NoU8.trap _ _) t')
  replace v1 := v1.trn t' n_v1_v6.out
  replace v3 := v3.trn t' n_v3_v6.out
  replace v4 := v4.trn t' n_v4_v6.out
  replace v5 := v5.trn t' n_v5_v6.out
  replace HD := Lib.hid (HD.out.trn HL_v6.out t')
  clear t' v6
  have v6 := r'
  clear r'
  go_wp2_with (first | ((with_reducible refine load33 v1 hl ?_ ?_ ?_); rfl; rfl) | (go_at_call 13; (with_reducible refine (C3.out _ (hm.dn HD.out) (T.dn HD.out)).mono ?_); rintro e w' ⟨m2, rfl, o_m2, e_m2, d'⟩; refine Hid.out ?_))
  refine Lib.hid ?_
  replace v1 := v1.dn d'
  replace v3 := v3.dn d'
  replace v4 := v4.dn d'
  replace v5 := v5.dn d'
  replace v6 := v6.dn d'
  replace o_m1 := Lib.hid (o_m1.out.dn d')
  replace HD := Lib.hid (HD.out.trans d')
  clear d'
  have l_m2 := o_m2.out.len
  have o_m2 := Lib.hid o_m2.out
  go_wp2_with (first | ((with_reducible refine wpList_alloc zeroMach ?_ ?_); rfl; intro b_v7 w' nn; refine Hid.out ?_))
  refine Lib.hid ?_
  have n_v1_v7 := Lib.hid (nn.ne _ v1.lt)
  have n_v3_v7 := Lib.hid (nn.ne _ v3.lt)
  have n_v4_v7 := Lib.hid (nn.ne _ v4.lt)
  have n_v5_v7 := Lib.hid (nn.ne _ v5.lt)
  have n_v6_v7 := Lib.hid (nn.ne _ v6.lt)
  have HL_v7 : Hid (W.heap.size ≤ b_v7) := Lib.hid (Blk.hi nn HD.out.size)
  have d' := nn.dn
  replace v1 := v1.dn d'
  replace v3 := v3.dn d'
  replace v4 := v4.dn d'
  replace v5 := v5.dn d'
  replace v6 := v6.dn d'
  replace o_m1 := Lib.hid (o_m1.out.dn d')
  replace o_m2 := Lib.hid (o_m2.out.dn d')
  replace HD := Lib.hid (HD.out.trans d')
  have v7 := nn.blk
  clear d' nn
  go_wp2_with (first | ((with_reducible refine wpList_alloc zeroTrap ?_ ?_); rfl; intro b_v8 w' nn; refine Hid.out ?_))
  refine Lib.hid ?_
  have n_v1_v8 := Lib.hid (nn.ne _ v1.lt)
  have n_v3_v8 := Lib.hid (nn.ne _ v3.lt)
  have n_v4_v8 := Lib.hid (nn.ne _ v4.lt)
  have n_v5_v8 := Lib.hid (nn.ne _ v5.lt)
  have n_v6_v8 := Lib.hid (nn.ne _ v6.lt)
  have n_v7_v8 := Lib.hid (nn.ne _ v7.lt)
  have HL_v8 : Hid (W.heap.size ≤ b_v8) := Lib.hid (Blk.hi nn HD.out.size)
  have d' := nn.dn
  replace v1 := v1.dn d'
  replace v3 := v3.dn d'
  replace v4 := v4.dn d'
  replace v5 := v5.dn d'
  replace v6 := v6.dn d'
  replace v7 := v7.dn d'
  replace o_m1 := Lib.hid (o_m1.out.dn d')
  replace o_m2 := Lib.hid (o_m2.out.dn d')
  replace HD := Lib.hid (HD.out.trans d')
  have v8 := nn.blk
  clear d' nn
  go_wp2_with (first | ((with_reducible refine store33 m2 l_m2 v7 zlen ?_ ?_ ?_ ?_); rfl; rfl; rfl; intro w' r' t'; refine Hid.out ?_))
  refine Lib.hid ?_
  replace o_m1 := Lib.hid (o_m1.out.trn v7 (NoU8.mach _) t')
  replace o_m2 := Lib.hid (o_m2.out.trn v7 (NoU8.mach _) t')
  replace v1 := v1.trn t' n_v1_v7.out
  replace v3 := v3.trn t' n_v3_v7.out
  replace v4 := v4.trn t' n_v4_v7.out
  replace v5 := v5.trn t' n_v5_v7.out
  replace v6 := v6.trn t' n_v6_v7.out
  replace v8 := v8.trn t' n_v7_v8.out.symm
  replace HD := Lib.hid (HD.out.trn HL_v7.out t')
  clear t' v7
  have v7 := r'
  clear r'
  go_wp2_with (first | ((with_reducible refine storeTrap (k := k) (v := v) v8 ?_ ?_ ?_ ?_); rfl; rfl; rfl; intro w' r' t'; refine Hid.out ?_))
  refine Lib.hid ?_
  replace o_m1 := Lib.hid (o_m1.out.trn v8 (NoU8.trap _ _) t')
  replace o_m2 := Lib.hid (o_m2.out.trn v8 (NoU8.trap _ _) t')
  replace v1 := v1.trn t' n_v1_v8.out
  replace v3 := v3.trn t' n_v3_v8.out
  replace v4 := v4.trn t' n_v4_v8.out
  replace v5 := v5.trn t' n_v5_v8.out
  replace v6 := v6.trn t' n_v6_v8.out
  replace v7 := v7.trn t' n_v7_v8.out
  replace HD := Lib.hid (HD.out.trn HL_v8.out t')
  clear t' v8
  have v8 := r'
  clear r'
  have ck0 := v4.cell (i := 0) (v := .int .i64 k) rfl
  go_wp2_with (first | ((with_reducible refine loadI v3 ?_ ?_ ?_); rfl; rfl) | ((with_reducible refine loadTrap v8 ?_ ?_ ?_); rfl; rfl) | ((with_reducible refine loadTrap v4 ?_ ?_ ?_); rfl; rfl) | ((with_reducible refine load33 v1 hl ?_ ?_ ?_); rfl; rfl) | (go_at_call 22; (with_reducible refine (CD.out _ (hm.dn HD.out)).mono ?_); rintro e w' ⟨rfl, d'⟩; refine Hid.out ?_))
  refine Lib.hid ?_
  clear ck0
  replace v1 := v1.dn d'
  replace v3 := v3.dn d'
  replace v4 := v4.dn d'
  replace v5 := v5.dn d'
  replace v6 := v6.dn d'
  replace v7 := v7.dn d'
  replace v8 := v8.dn d'
  replace o_m1 := Lib.hid (o_m1.out.dn d')
  replace o_m2 := Lib.hid (o_m2.out.dn d')
  replace HD := Lib.hid (HD.out.trans d')
  clear d'
  go_wp2_with (first | ((with_reducible refine loadTrap v6 ?_ ?_ ?_); rfl; rfl) | fail)
  go_ret
  exact ⟨rfl, HD.out⟩
set_option maxRecDepth 100000 in
set_option maxHeartbeats 2000000 in
theorem stp_tn (m : Mc) (W : World) (hm : m.Ok W) (T : Env2 W) (hx : m.xs.length ≤ 9223372036854775807) (hy : m.ys.length ≤ 9223372036854775807) (hf : decide (m.xs.length ≤ 600 ∧ m.ys.length ≤ 600) = true) (hh : m.h = false) (r s : M.SRes) (k v : Int) (hr : M.stS m.c m.xs m.ys false m.t = r) (hk : r.k = k) (hv : r.v = v) (hs_ : M.stn m.c m.xs m.ys false m.t = s) (hsk : s.k = k) (hsv : s.v = v) (e1 : M.nw Is.M.dOp m.c m.xs = 0) (e2 : M.nw Is.M.dRd m.c m.xs = 0) (e3 : M.nw Is.M.dRa m.c m.xs = 0) (e4 : M.nw Is.M.dRb m.c m.xs = 0) (e5 : M.nw Is.M.dImm m.c m.xs = 0) (e6 : M.nowK m.c m.xs = k) (e7 : M.nowV m.c m.xs = v) (hd : M.due m.c m.t = false) (hk0 : k ≠ 0) (k4 : 0 ≤ k ∧ k ≤ 4) (ers : r = s) (zl : r.z.length ≤ 100000 ∧ r.ys.length ≤ 100000) :
    Calls Tryz.prog 5 #[.agg (mach m)] W fun e W' => e = .returned (.bool true) ∧ Dn W W' := by
  have hl := hm.len
  have hc := hm.core
  have hs : m.xs.length ≤ 600 := by simp only [decide_eq_true_eq] at hf; omega
  have hn : m.ys.length ≤ 600 := by simp only [decide_eq_true_eq] at hf; omega
  have C0 := Lib.hid fun w => fun (t : Env2 w) => awakeS w t
  have CF := Lib.hid fun w => fun (ow : m.Ok w) => rfew m true w ow hx hy hf
  clear hf
  have C1 := Lib.hid fun w => fun (ow : m.Ok w) (t : Env2 w) => stRunS m m.c m.xs m.ys false m.t rfl rfl rfl hh rfl r k v hk hv (by omega) (by omega) w ow t hr
  have C3 := Lib.hid fun w => fun (ow : m.Ok w) (t : Env2 w) => stRunN m m.c m.xs m.ys false m.t rfl rfl rfl hh rfl s k v hsk hsv (by omega) (by omega) w ow t hs_
  have C2 := Lib.hid fun w => fun (ow : m.Ok w) (t : Env2 w) => stRunC m m.c m.xs rfl rfl 0 0 0 0 0 k v e1 e2 e3 e4 e5 e6 e7 (by omega) w ow t
  have CD := Lib.hid fun w => fun (ow : m.Ok w) => (by have h := rdue m w ow; rw [hd] at h; exact h : Calls Tryz.prog 22 #[.agg (mach m)] w fun e W' => e = .returned (.bool false) ∧ Dn w W')
  have hq1 : (k == 0) = false := by simpa using hk0
  have hq2 : (k != 0) = true := by simpa using hk0
  have qI : ∀ w, (Op.equalIn 10000 38 (.agg (ins 0 0 0 0 0)) (.agg #[.int .i64 0, .int .i64 0, .int .i64 0, .int .i64 0, .int .i32 0])).run Tryz.prog w = .ok true w := eqI_same 0 0 0 0 0
  have qT := eqTrap_same k v
  have CS := Lib.hid fun (w : World) (m1 m2 : Mc) (o1 : m1.Ok w) (o2 : m2.Ok w) (f1 : Sd r m1) (f2 : Sd s m2) => rsame_s w o1 o2 f1 f2 (by rw [ers]) (by rw [ers]) (by rw [ers]) (by rw [ers]) (by rw [ers]) zl.1 zl.2
  have hq3 : (k == 6) = false := by simp; omega
  clear hr hk hv hs_ hsk hsv hd e1 e2 e3 e4 e5 e6 e7 hk0 k4
  have HD := Lib.hid (Dn.refl W)
  go_enter Tryz.func5, Tryz.ntmps5
  go_wp2_with (first | ((with_reducible refine wpList_box (vs := (mach m)) ?_ ?_ ?_); rfl; rfl; intro b_v1 w' nn; refine Hid.out ?_))
  refine Lib.hid ?_
  have HL_v1 : Hid (W.heap.size ≤ b_v1) := Lib.hid (Blk.hi nn HD.out.size)
  have d' := nn.dn
  replace HD := Lib.hid (HD.out.trans d')
  have v1 := nn.blk
  clear d' nn
  go_wp2_with (first | (go_at_call 9; (with_reducible refine (C0.out _ (T.dn HD.out)).mono ?_); rintro e w' ⟨rfl, d'⟩; refine Hid.out ?_))
  refine Lib.hid ?_
  replace v1 := v1.dn d'
  replace HD := Lib.hid (HD.out.trans d')
  clear d'
  go_wp2_with (first | ((with_reducible refine load33 v1 hl ?_ ?_ ?_); rfl; rfl) | (go_at_call 10; (with_reducible refine (CF.out _ (hm.dn HD.out)).mono ?_); rintro e w' ⟨rfl, d'⟩; refine Hid.out ?_))
  refine Lib.hid ?_
  replace v1 := v1.dn d'
  replace HD := Lib.hid (HD.out.trans d')
  clear d'
  have ck0 := v1.halted hl
  rw [hh] at ck0
  go_wp2_with (first | ((with_reducible refine load33 v1 hl ?_ ?_ ?_); rfl; rfl) | (go_at_call 15; (with_reducible refine (C2.out _ (hm.dn HD.out) (T.dn HD.out)).mono ?_); rintro e w' ⟨rfl, d'⟩; refine Hid.out ?_))
  refine Lib.hid ?_
  clear ck0
  replace v1 := v1.dn d'
  replace HD := Lib.hid (HD.out.trans d')
  clear d'
  go_wp2_with (first | ((with_reducible refine wpList_alloc zeroI ?_ ?_); rfl; intro b_v3 w' nn; refine Hid.out ?_))
  refine Lib.hid ?_
  have n_v1_v3 := Lib.hid (nn.ne _ v1.lt)
  have HL_v3 : Hid (W.heap.size ≤ b_v3) := Lib.hid (Blk.hi nn HD.out.size)
  have d' := nn.dn
  replace v1 := v1.dn d'
  replace HD := Lib.hid (HD.out.trans d')
  have v3 := nn.blk
  clear d' nn
  go_wp2_with (first | ((with_reducible refine wpList_alloc zeroTrap ?_ ?_); rfl; intro b_v4 w' nn; refine Hid.out ?_))
  refine Lib.hid ?_
  have n_v1_v4 := Lib.hid (nn.ne _ v1.lt)
  have n_v3_v4 := Lib.hid (nn.ne _ v3.lt)
  have HL_v4 : Hid (W.heap.size ≤ b_v4) := Lib.hid (Blk.hi nn HD.out.size)
  have d' := nn.dn
  replace v1 := v1.dn d'
  replace v3 := v3.dn d'
  replace HD := Lib.hid (HD.out.trans d')
  have v4 := nn.blk
  clear d' nn
  go_wp2_with (first | ((with_reducible refine storeI (op := 0) (rd := 0) (ra := 0) (rb := 0) (imm := 0) v3 ?_ ?_ ?_ ?_); rfl; rfl; rfl; intro w' r' t'; refine Hid.out ?_))
  refine Lib.hid ?_
  replace v1 := v1.trn t' n_v1_v3.out
  replace v4 := v4.trn t' n_v3_v4.out.symm
  replace HD := Lib.hid (HD.out.trn HL_v3.out t')
  clear t' v3
  have v3 := r'
  clear r'
  go_wp2_with (first | ((with_reducible refine storeTrap (k := k) (v := v) v4 ?_ ?_ ?_ ?_); rfl; rfl; rfl; intro w' r' t'; refine Hid.out ?_))
  refine Lib.hid ?_
  replace v1 := v1.trn t' n_v1_v4.out
  replace v3 := v3.trn t' n_v3_v4.out
  replace HD := Lib.hid (HD.out.trn HL_v4.out t')
  clear t' v4
  have v4 := r'
  clear r'
  go_wp2_with (first | ((with_reducible refine load33 v1 hl ?_ ?_ ?_); rfl; rfl) | (go_at_call 11; (with_reducible refine (C1.out _ (hm.dn HD.out) (T.dn HD.out)).mono ?_); rintro e w' ⟨m1, rfl, o_m1, e_m1, d'⟩; refine Hid.out ?_))
  refine Lib.hid ?_
  replace v1 := v1.dn d'
  replace v3 := v3.dn d'
  replace v4 := v4.dn d'
  replace HD := Lib.hid (HD.out.trans d')
  clear d'
  have l_m1 := o_m1.out.len
  have o_m1 := Lib.hid o_m1.out
  go_wp2_with (first | ((with_reducible refine wpList_alloc zeroMach ?_ ?_); rfl; intro b_v5 w' nn; refine Hid.out ?_))
  refine Lib.hid ?_
  have n_v1_v5 := Lib.hid (nn.ne _ v1.lt)
  have n_v3_v5 := Lib.hid (nn.ne _ v3.lt)
  have n_v4_v5 := Lib.hid (nn.ne _ v4.lt)
  have HL_v5 : Hid (W.heap.size ≤ b_v5) := Lib.hid (Blk.hi nn HD.out.size)
  have d' := nn.dn
  replace v1 := v1.dn d'
  replace v3 := v3.dn d'
  replace v4 := v4.dn d'
  replace o_m1 := Lib.hid (o_m1.out.dn d')
  replace HD := Lib.hid (HD.out.trans d')
  have v5 := nn.blk
  clear d' nn
  go_wp2_with (first | ((with_reducible refine wpList_alloc zeroTrap ?_ ?_); rfl; intro b_v6 w' nn; refine Hid.out ?_))
  refine Lib.hid ?_
  have n_v1_v6 := Lib.hid (nn.ne _ v1.lt)
  have n_v3_v6 := Lib.hid (nn.ne _ v3.lt)
  have n_v4_v6 := Lib.hid (nn.ne _ v4.lt)
  have n_v5_v6 := Lib.hid (nn.ne _ v5.lt)
  have HL_v6 : Hid (W.heap.size ≤ b_v6) := Lib.hid (Blk.hi nn HD.out.size)
  have d' := nn.dn
  replace v1 := v1.dn d'
  replace v3 := v3.dn d'
  replace v4 := v4.dn d'
  replace v5 := v5.dn d'
  replace o_m1 := Lib.hid (o_m1.out.dn d')
  replace HD := Lib.hid (HD.out.trans d')
  have v6 := nn.blk
  clear d' nn
  go_wp2_with (first | ((with_reducible refine store33 m1 l_m1 v5 zlen ?_ ?_ ?_ ?_); rfl; rfl; rfl; intro w' r' t'; refine Hid.out ?_))
  refine Lib.hid ?_
  replace o_m1 := Lib.hid (o_m1.out.trn v5 (NoU8.mach _) t')
  replace v1 := v1.trn t' n_v1_v5.out
  replace v3 := v3.trn t' n_v3_v5.out
  replace v4 := v4.trn t' n_v4_v5.out
  replace v6 := v6.trn t' n_v5_v6.out.symm
  replace HD := Lib.hid (HD.out.trn HL_v5.out t')
  clear t' v5
  have v5 := r'
  clear r'
  go_wp2_with (first | ((with_reducible refine storeTrap (k := k) (v := v) v6 ?_ ?_ ?_ ?_); rfl; rfl; rfl; intro w' r' t'; refine Hid.out ?_))
  refine Lib.hid ?_
  replace o_m1 := Lib.hid (o_m1.out.trn v6 (NoU8.trap _ _) t')
  replace v1 := v1.trn t' n_v1_v6.out
  replace v3 := v3.trn t' n_v3_v6.out
  replace v4 := v4.trn t' n_v4_v6.out
  replace v5 := v5.trn t' n_v5_v6.out
  replace HD := Lib.hid (HD.out.trn HL_v6.out t')
  clear t' v6
  have v6 := r'
  clear r'
  go_wp2_with (first | ((with_reducible refine load33 v1 hl ?_ ?_ ?_); rfl; rfl) | (go_at_call 13; (with_reducible refine (C3.out _ (hm.dn HD.out) (T.dn HD.out)).mono ?_); rintro e w' ⟨m2, rfl, o_m2, e_m2, d'⟩; refine Hid.out ?_))
  refine Lib.hid ?_
  replace v1 := v1.dn d'
  replace v3 := v3.dn d'
  replace v4 := v4.dn d'
  replace v5 := v5.dn d'
  replace v6 := v6.dn d'
  replace o_m1 := Lib.hid (o_m1.out.dn d')
  replace HD := Lib.hid (HD.out.trans d')
  clear d'
  have l_m2 := o_m2.out.len
  have o_m2 := Lib.hid o_m2.out
  go_wp2_with (first | ((with_reducible refine wpList_alloc zeroMach ?_ ?_); rfl; intro b_v7 w' nn; refine Hid.out ?_))
  refine Lib.hid ?_
  have n_v1_v7 := Lib.hid (nn.ne _ v1.lt)
  have n_v3_v7 := Lib.hid (nn.ne _ v3.lt)
  have n_v4_v7 := Lib.hid (nn.ne _ v4.lt)
  have n_v5_v7 := Lib.hid (nn.ne _ v5.lt)
  have n_v6_v7 := Lib.hid (nn.ne _ v6.lt)
  have HL_v7 : Hid (W.heap.size ≤ b_v7) := Lib.hid (Blk.hi nn HD.out.size)
  have d' := nn.dn
  replace v1 := v1.dn d'
  replace v3 := v3.dn d'
  replace v4 := v4.dn d'
  replace v5 := v5.dn d'
  replace v6 := v6.dn d'
  replace o_m1 := Lib.hid (o_m1.out.dn d')
  replace o_m2 := Lib.hid (o_m2.out.dn d')
  replace HD := Lib.hid (HD.out.trans d')
  have v7 := nn.blk
  clear d' nn
  go_wp2_with (first | ((with_reducible refine wpList_alloc zeroTrap ?_ ?_); rfl; intro b_v8 w' nn; refine Hid.out ?_))
  refine Lib.hid ?_
  have n_v1_v8 := Lib.hid (nn.ne _ v1.lt)
  have n_v3_v8 := Lib.hid (nn.ne _ v3.lt)
  have n_v4_v8 := Lib.hid (nn.ne _ v4.lt)
  have n_v5_v8 := Lib.hid (nn.ne _ v5.lt)
  have n_v6_v8 := Lib.hid (nn.ne _ v6.lt)
  have n_v7_v8 := Lib.hid (nn.ne _ v7.lt)
  have HL_v8 : Hid (W.heap.size ≤ b_v8) := Lib.hid (Blk.hi nn HD.out.size)
  have d' := nn.dn
  replace v1 := v1.dn d'
  replace v3 := v3.dn d'
  replace v4 := v4.dn d'
  replace v5 := v5.dn d'
  replace v6 := v6.dn d'
  replace v7 := v7.dn d'
  replace o_m1 := Lib.hid (o_m1.out.dn d')
  replace o_m2 := Lib.hid (o_m2.out.dn d')
  replace HD := Lib.hid (HD.out.trans d')
  have v8 := nn.blk
  clear d' nn
  go_wp2_with (first | ((with_reducible refine store33 m2 l_m2 v7 zlen ?_ ?_ ?_ ?_); rfl; rfl; rfl; intro w' r' t'; refine Hid.out ?_))
  refine Lib.hid ?_
  replace o_m1 := Lib.hid (o_m1.out.trn v7 (NoU8.mach _) t')
  replace o_m2 := Lib.hid (o_m2.out.trn v7 (NoU8.mach _) t')
  replace v1 := v1.trn t' n_v1_v7.out
  replace v3 := v3.trn t' n_v3_v7.out
  replace v4 := v4.trn t' n_v4_v7.out
  replace v5 := v5.trn t' n_v5_v7.out
  replace v6 := v6.trn t' n_v6_v7.out
  replace v8 := v8.trn t' n_v7_v8.out.symm
  replace HD := Lib.hid (HD.out.trn HL_v7.out t')
  clear t' v7
  have v7 := r'
  clear r'
  go_wp2_with (first | ((with_reducible refine storeTrap (k := k) (v := v) v8 ?_ ?_ ?_ ?_); rfl; rfl; rfl; intro w' r' t'; refine Hid.out ?_))
  refine Lib.hid ?_
  replace o_m1 := Lib.hid (o_m1.out.trn v8 (NoU8.trap _ _) t')
  replace o_m2 := Lib.hid (o_m2.out.trn v8 (NoU8.trap _ _) t')
  replace v1 := v1.trn t' n_v1_v8.out
  replace v3 := v3.trn t' n_v3_v8.out
  replace v4 := v4.trn t' n_v4_v8.out
  replace v5 := v5.trn t' n_v5_v8.out
  replace v6 := v6.trn t' n_v6_v8.out
  replace v7 := v7.trn t' n_v7_v8.out
  replace HD := Lib.hid (HD.out.trn HL_v8.out t')
  clear t' v8
  have v8 := r'
  clear r'
  have ck0 := v4.cell (i := 0) (v := .int .i64 k) rfl
  go_wp2_with (first | ((with_reducible refine loadI v3 ?_ ?_ ?_); rfl; rfl) | ((with_reducible refine loadTrap v8 ?_ ?_ ?_); rfl; rfl) | ((with_reducible refine loadTrap v4 ?_ ?_ ?_); rfl; rfl) | ((with_reducible refine load33 v1 hl ?_ ?_ ?_); rfl; rfl) | (go_at_call 22; (with_reducible refine (CD.out _ (hm.dn HD.out)).mono ?_); rintro e w' ⟨rfl, d'⟩; refine Hid.out ?_))
  refine Lib.hid ?_
  clear ck0
  replace v1 := v1.dn d'
  replace v3 := v3.dn d'
  replace v4 := v4.dn d'
  replace v5 := v5.dn d'
  replace v6 := v6.dn d'
  replace v7 := v7.dn d'
  replace v8 := v8.dn d'
  replace o_m1 := Lib.hid (o_m1.out.dn d')
  replace o_m2 := Lib.hid (o_m2.out.dn d')
  replace HD := Lib.hid (HD.out.trans d')
  clear d'
  go_wp2_with (first | ((with_reducible refine load33 v5 l_m1 ?_ ?_ ?_); rfl; rfl) | ((with_reducible refine load33 v7 l_m2 ?_ ?_ ?_); rfl; rfl) | (go_at_call 17; (with_reducible refine (CS.out _ m1 m2 o_m1.out o_m2.out e_m1.out e_m2.out).mono ?_); rintro e w' ⟨rfl, d'⟩; refine Hid.out ?_))
  refine Lib.hid ?_
  replace v1 := v1.dn d'
  replace v3 := v3.dn d'
  replace v4 := v4.dn d'
  replace v5 := v5.dn d'
  replace v6 := v6.dn d'
  replace v7 := v7.dn d'
  replace v8 := v8.dn d'
  replace o_m1 := Lib.hid (o_m1.out.dn d')
  replace o_m2 := Lib.hid (o_m2.out.dn d')
  replace HD := Lib.hid (HD.out.trans d')
  clear d'
  have ck0 := v6.cell (i := 0) (v := .int .i64 k) rfl
  have ck1 := v4.cell (i := 0) (v := .int .i64 k) rfl
  go_wp2_with (first | ((with_reducible refine loadTrap v6 ?_ ?_ ?_); rfl; rfl) | ((with_reducible refine loadTrap v8 ?_ ?_ ?_); rfl; rfl) | fail)
  go_ret
  exact ⟨rfl, HD.out⟩
end Go.Proofs.YtjbnflalngjfaaaGreatDoor
namespace Go.Proofs.YtjbnflalngjfaaaGreatDoor
open Go.ChangeShapes Go.WideShapes Go.ChangeAt Go.RowKit Go.Sort
set_option linter.unusedVariables false

set_option maxRecDepth 100000 in
set_option maxHeartbeats 2000000 in
theorem stp_gdp (m : Mc) (W : World) (hm : m.Ok W) (T : Env2 W) (hx : m.xs.length ≤ 9223372036854775807) (hy : m.ys.length ≤ 9223372036854775807) (hf : decide (m.xs.length ≤ 600 ∧ m.ys.length ≤ 600) = true) (hh : m.h = false) (r s : M.SRes) (op rd ra rb imm : Int) (hr : M.stS m.c m.xs m.ys false m.t = r) (hk : r.k = 6) (hv : r.v = 0) (hs_ : M.stn m.c m.xs m.ys false m.t = s) (hsk : s.k = 0) (hsv : s.v = 0) (e1 : M.nw Is.M.dOp m.c m.xs = op) (e2 : M.nw Is.M.dRd m.c m.xs = rd) (e3 : M.nw Is.M.dRa m.c m.xs = ra) (e4 : M.nw Is.M.dRb m.c m.xs = rb) (e5 : M.nw Is.M.dImm m.c m.xs = imm) (e6 : M.nowK m.c m.xs = 0) (e7 : M.nowV m.c m.xs = 0) (hd : M.due m.c m.t = true) (i0 : -2147483648 ≤ imm) (i1 : imm < 2147483648) (hmay : Is.M.ok op rd ra rb imm = true) (hp : Is.M.priv op = true) (hsu : M.sup m.c = true) :
    Calls Tryz.prog 5 #[.agg (mach m)] W fun e W' => e = .returned (.bool true) ∧ Dn W W' := by
  have hl := hm.len
  have hc := hm.core
  have hs : m.xs.length ≤ 600 := by simp only [decide_eq_true_eq] at hf; omega
  have hn : m.ys.length ≤ 600 := by simp only [decide_eq_true_eq] at hf; omega
  have C0 := Lib.hid fun w => fun (t : Env2 w) => awakeS w t
  have CF := Lib.hid fun w => fun (ow : m.Ok w) => rfew m true w ow hx hy hf
  clear hf
  have C1 := Lib.hid fun w => fun (ow : m.Ok w) (t : Env2 w) => stRunS m m.c m.xs m.ys false m.t rfl rfl rfl hh rfl r 6 0 hk hv (by omega) (by omega) w ow t hr
  have C3 := Lib.hid fun w => fun (ow : m.Ok w) (t : Env2 w) => stRunN m m.c m.xs m.ys false m.t rfl rfl rfl hh rfl s 0 0 hsk hsv (by omega) (by omega) w ow t hs_
  have C2 := Lib.hid fun w => fun (ow : m.Ok w) (t : Env2 w) => stRunC m m.c m.xs rfl rfl op rd ra rb imm 0 0 e1 e2 e3 e4 e5 e6 e7 (by omega) w ow t
  have CD := Lib.hid fun w => fun (ow : m.Ok w) => (by have h := rdue m w ow; rw [hd] at h; exact h : Calls Tryz.prog 22 #[.agg (mach m)] w fun e W' => e = .returned (.bool true) ∧ Dn w W')
  have CM := Lib.hid (rMay op rd ra rb imm true i0 i1 hmay)
  have CP := Lib.hid (rPrivi op true hp)
  have CU := Lib.hid fun w => (by have h := super_ m.c w hc; rw [hsu] at h; exact h : Calls Tryz.prog 18 #[.agg (ints .u32 m.c)] w fun e W' => e = .returned (.bool true) ∧ Dn w W')
  clear hsu
  clear hmay hp
  have q6 := eqTrap_same 6 0
  clear hr hk hv hs_ hsk hsv hd e1 e2 e3 e4 e5 e6 e7
  have HD := Lib.hid (Dn.refl W)
  go_enter Tryz.func5, Tryz.ntmps5
  go_wp2_with (first | ((with_reducible refine wpList_box (vs := (mach m)) ?_ ?_ ?_); rfl; rfl; intro b_v1 w' nn; refine Hid.out ?_))
  refine Lib.hid ?_
  have HL_v1 : Hid (W.heap.size ≤ b_v1) := Lib.hid (Blk.hi nn HD.out.size)
  have d' := nn.dn
  replace HD := Lib.hid (HD.out.trans d')
  have v1 := nn.blk
  clear d' nn
  go_wp2_with (first | (go_at_call 9; (with_reducible refine (C0.out _ (T.dn HD.out)).mono ?_); rintro e w' ⟨rfl, d'⟩; refine Hid.out ?_))
  refine Lib.hid ?_
  replace v1 := v1.dn d'
  replace HD := Lib.hid (HD.out.trans d')
  clear d'
  go_wp2_with (first | ((with_reducible refine load33 v1 hl ?_ ?_ ?_); rfl; rfl) | (go_at_call 10; (with_reducible refine (CF.out _ (hm.dn HD.out)).mono ?_); rintro e w' ⟨rfl, d'⟩; refine Hid.out ?_))
  refine Lib.hid ?_
  replace v1 := v1.dn d'
  replace HD := Lib.hid (HD.out.trans d')
  clear d'
  have ck0 := v1.halted hl
  rw [hh] at ck0
  go_wp2_with (first | ((with_reducible refine load33 v1 hl ?_ ?_ ?_); rfl; rfl) | (go_at_call 15; (with_reducible refine (C2.out _ (hm.dn HD.out) (T.dn HD.out)).mono ?_); rintro e w' ⟨rfl, d'⟩; refine Hid.out ?_))
  refine Lib.hid ?_
  clear ck0
  replace v1 := v1.dn d'
  replace HD := Lib.hid (HD.out.trans d')
  clear d'
  go_wp2_with (first | ((with_reducible refine wpList_alloc zeroI ?_ ?_); rfl; intro b_v3 w' nn; refine Hid.out ?_))
  refine Lib.hid ?_
  have n_v1_v3 := Lib.hid (nn.ne _ v1.lt)
  have HL_v3 : Hid (W.heap.size ≤ b_v3) := Lib.hid (Blk.hi nn HD.out.size)
  have d' := nn.dn
  replace v1 := v1.dn d'
  replace HD := Lib.hid (HD.out.trans d')
  have v3 := nn.blk
  clear d' nn
  go_wp2_with (first | ((with_reducible refine wpList_alloc zeroTrap ?_ ?_); rfl; intro b_v4 w' nn; refine Hid.out ?_))
  refine Lib.hid ?_
  have n_v1_v4 := Lib.hid (nn.ne _ v1.lt)
  have n_v3_v4 := Lib.hid (nn.ne _ v3.lt)
  have HL_v4 : Hid (W.heap.size ≤ b_v4) := Lib.hid (Blk.hi nn HD.out.size)
  have d' := nn.dn
  replace v1 := v1.dn d'
  replace v3 := v3.dn d'
  replace HD := Lib.hid (HD.out.trans d')
  have v4 := nn.blk
  clear d' nn
  go_wp2_with (first | ((with_reducible refine storeI (op := op) (rd := rd) (ra := ra) (rb := rb) (imm := imm) v3 ?_ ?_ ?_ ?_); rfl; rfl; rfl; intro w' r' t'; refine Hid.out ?_))
  refine Lib.hid ?_
  replace v1 := v1.trn t' n_v1_v3.out
  replace v4 := v4.trn t' n_v3_v4.out.symm
  replace HD := Lib.hid (HD.out.trn HL_v3.out t')
  clear t' v3
  have v3 := r'
  clear r'
  go_wp2_with (first | ((with_reducible refine storeTrap (k := 0) (v := 0) v4 ?_ ?_ ?_ ?_); rfl; rfl; rfl; intro w' r' t'; refine Hid.out ?_))
  refine Lib.hid ?_
  replace v1 := v1.trn t' n_v1_v4.out
  replace v3 := v3.trn t' n_v3_v4.out
  replace HD := Lib.hid (HD.out.trn HL_v4.out t')
  clear t' v4
  have v4 := r'
  clear r'
  go_wp2_with (first | ((with_reducible refine load33 v1 hl ?_ ?_ ?_); rfl; rfl) | (go_at_call 11; (with_reducible refine (C1.out _ (hm.dn HD.out) (T.dn HD.out)).mono ?_); rintro e w' ⟨m1, rfl, o_m1, e_m1, d'⟩; refine Hid.out ?_))
  refine Lib.hid ?_
  replace v1 := v1.dn d'
  replace v3 := v3.dn d'
  replace v4 := v4.dn d'
  replace HD := Lib.hid (HD.out.trans d')
  clear d'
  have l_m1 := o_m1.out.len
  have o_m1 := Lib.hid o_m1.out
  go_wp2_with (first | ((with_reducible refine wpList_alloc zeroMach ?_ ?_); rfl; intro b_v5 w' nn; refine Hid.out ?_))
  refine Lib.hid ?_
  have n_v1_v5 := Lib.hid (nn.ne _ v1.lt)
  have n_v3_v5 := Lib.hid (nn.ne _ v3.lt)
  have n_v4_v5 := Lib.hid (nn.ne _ v4.lt)
  have HL_v5 : Hid (W.heap.size ≤ b_v5) := Lib.hid (Blk.hi nn HD.out.size)
  have d' := nn.dn
  replace v1 := v1.dn d'
  replace v3 := v3.dn d'
  replace v4 := v4.dn d'
  replace o_m1 := Lib.hid (o_m1.out.dn d')
  replace HD := Lib.hid (HD.out.trans d')
  have v5 := nn.blk
  clear d' nn
  go_wp2_with (first | ((with_reducible refine wpList_alloc zeroTrap ?_ ?_); rfl; intro b_v6 w' nn; refine Hid.out ?_))
  refine Lib.hid ?_
  have n_v1_v6 := Lib.hid (nn.ne _ v1.lt)
  have n_v3_v6 := Lib.hid (nn.ne _ v3.lt)
  have n_v4_v6 := Lib.hid (nn.ne _ v4.lt)
  have n_v5_v6 := Lib.hid (nn.ne _ v5.lt)
  have HL_v6 : Hid (W.heap.size ≤ b_v6) := Lib.hid (Blk.hi nn HD.out.size)
  have d' := nn.dn
  replace v1 := v1.dn d'
  replace v3 := v3.dn d'
  replace v4 := v4.dn d'
  replace v5 := v5.dn d'
  replace o_m1 := Lib.hid (o_m1.out.dn d')
  replace HD := Lib.hid (HD.out.trans d')
  have v6 := nn.blk
  clear d' nn
  go_wp2_with (first | ((with_reducible refine store33 m1 l_m1 v5 zlen ?_ ?_ ?_ ?_); rfl; rfl; rfl; intro w' r' t'; refine Hid.out ?_))
  refine Lib.hid ?_
  replace o_m1 := Lib.hid (o_m1.out.trn v5 (NoU8.mach _) t')
  replace v1 := v1.trn t' n_v1_v5.out
  replace v3 := v3.trn t' n_v3_v5.out
  replace v4 := v4.trn t' n_v4_v5.out
  replace v6 := v6.trn t' n_v5_v6.out.symm
  replace HD := Lib.hid (HD.out.trn HL_v5.out t')
  clear t' v5
  have v5 := r'
  clear r'
  go_wp2_with (first | ((with_reducible refine storeTrap (k := 6) (v := 0) v6 ?_ ?_ ?_ ?_); rfl; rfl; rfl; intro w' r' t'; refine Hid.out ?_))
  refine Lib.hid ?_
  replace o_m1 := Lib.hid (o_m1.out.trn v6 (NoU8.trap _ _) t')
  replace v1 := v1.trn t' n_v1_v6.out
  replace v3 := v3.trn t' n_v3_v6.out
  replace v4 := v4.trn t' n_v4_v6.out
  replace v5 := v5.trn t' n_v5_v6.out
  replace HD := Lib.hid (HD.out.trn HL_v6.out t')
  clear t' v6
  have v6 := r'
  clear r'
  go_wp2_with (first | ((with_reducible refine load33 v1 hl ?_ ?_ ?_); rfl; rfl) | (go_at_call 13; (with_reducible refine (C3.out _ (hm.dn HD.out) (T.dn HD.out)).mono ?_); rintro e w' ⟨m2, rfl, o_m2, e_m2, d'⟩; refine Hid.out ?_))
  refine Lib.hid ?_
  replace v1 := v1.dn d'
  replace v3 := v3.dn d'
  replace v4 := v4.dn d'
  replace v5 := v5.dn d'
  replace v6 := v6.dn d'
  replace o_m1 := Lib.hid (o_m1.out.dn d')
  replace HD := Lib.hid (HD.out.trans d')
  clear d'
  have l_m2 := o_m2.out.len
  have o_m2 := Lib.hid o_m2.out
  go_wp2_with (first | ((with_reducible refine wpList_alloc zeroMach ?_ ?_); rfl; intro b_v7 w' nn; refine Hid.out ?_))
  refine Lib.hid ?_
  have n_v1_v7 := Lib.hid (nn.ne _ v1.lt)
  have n_v3_v7 := Lib.hid (nn.ne _ v3.lt)
  have n_v4_v7 := Lib.hid (nn.ne _ v4.lt)
  have n_v5_v7 := Lib.hid (nn.ne _ v5.lt)
  have n_v6_v7 := Lib.hid (nn.ne _ v6.lt)
  have HL_v7 : Hid (W.heap.size ≤ b_v7) := Lib.hid (Blk.hi nn HD.out.size)
  have d' := nn.dn
  replace v1 := v1.dn d'
  replace v3 := v3.dn d'
  replace v4 := v4.dn d'
  replace v5 := v5.dn d'
  replace v6 := v6.dn d'
  replace o_m1 := Lib.hid (o_m1.out.dn d')
  replace o_m2 := Lib.hid (o_m2.out.dn d')
  replace HD := Lib.hid (HD.out.trans d')
  have v7 := nn.blk
  clear d' nn
  go_wp2_with (first | ((with_reducible refine wpList_alloc zeroTrap ?_ ?_); rfl; intro b_v8 w' nn; refine Hid.out ?_))
  refine Lib.hid ?_
  have n_v1_v8 := Lib.hid (nn.ne _ v1.lt)
  have n_v3_v8 := Lib.hid (nn.ne _ v3.lt)
  have n_v4_v8 := Lib.hid (nn.ne _ v4.lt)
  have n_v5_v8 := Lib.hid (nn.ne _ v5.lt)
  have n_v6_v8 := Lib.hid (nn.ne _ v6.lt)
  have n_v7_v8 := Lib.hid (nn.ne _ v7.lt)
  have HL_v8 : Hid (W.heap.size ≤ b_v8) := Lib.hid (Blk.hi nn HD.out.size)
  have d' := nn.dn
  replace v1 := v1.dn d'
  replace v3 := v3.dn d'
  replace v4 := v4.dn d'
  replace v5 := v5.dn d'
  replace v6 := v6.dn d'
  replace v7 := v7.dn d'
  replace o_m1 := Lib.hid (o_m1.out.dn d')
  replace o_m2 := Lib.hid (o_m2.out.dn d')
  replace HD := Lib.hid (HD.out.trans d')
  have v8 := nn.blk
  clear d' nn
  go_wp2_with (first | ((with_reducible refine store33 m2 l_m2 v7 zlen ?_ ?_ ?_ ?_); rfl; rfl; rfl; intro w' r' t'; refine Hid.out ?_))
  refine Lib.hid ?_
  replace o_m1 := Lib.hid (o_m1.out.trn v7 (NoU8.mach _) t')
  replace o_m2 := Lib.hid (o_m2.out.trn v7 (NoU8.mach _) t')
  replace v1 := v1.trn t' n_v1_v7.out
  replace v3 := v3.trn t' n_v3_v7.out
  replace v4 := v4.trn t' n_v4_v7.out
  replace v5 := v5.trn t' n_v5_v7.out
  replace v6 := v6.trn t' n_v6_v7.out
  replace v8 := v8.trn t' n_v7_v8.out.symm
  replace HD := Lib.hid (HD.out.trn HL_v7.out t')
  clear t' v7
  have v7 := r'
  clear r'
  go_wp2_with (first | ((with_reducible refine storeTrap (k := 0) (v := 0) v8 ?_ ?_ ?_ ?_); rfl; rfl; rfl; intro w' r' t'; refine Hid.out ?_))
  refine Lib.hid ?_
  replace o_m1 := Lib.hid (o_m1.out.trn v8 (NoU8.trap _ _) t')
  replace o_m2 := Lib.hid (o_m2.out.trn v8 (NoU8.trap _ _) t')
  replace v1 := v1.trn t' n_v1_v8.out
  replace v3 := v3.trn t' n_v3_v8.out
  replace v4 := v4.trn t' n_v4_v8.out
  replace v5 := v5.trn t' n_v5_v8.out
  replace v6 := v6.trn t' n_v6_v8.out
  replace v7 := v7.trn t' n_v7_v8.out
  replace HD := Lib.hid (HD.out.trn HL_v8.out t')
  clear t' v8
  have v8 := r'
  clear r'
  have ck0 := v4.cell (i := 0) (v := .int .i64 0) rfl
  go_wp2_with (first | ((with_reducible refine loadI v3 ?_ ?_ ?_); rfl; rfl) | (go_at_call 20; (with_reducible refine (CM.out _).mono ?_); rintro e w' ⟨rfl, d'⟩; refine Hid.out ?_))
  refine Lib.hid ?_
  clear ck0
  replace v1 := v1.dn d'
  replace v3 := v3.dn d'
  replace v4 := v4.dn d'
  replace v5 := v5.dn d'
  replace v6 := v6.dn d'
  replace v7 := v7.dn d'
  replace v8 := v8.dn d'
  replace o_m1 := Lib.hid (o_m1.out.dn d')
  replace o_m2 := Lib.hid (o_m2.out.dn d')
  replace HD := Lib.hid (HD.out.trans d')
  clear d'
  have ck0 := v3.iop
  go_wp2_with (first | (go_at_call 21; (with_reducible refine (CP.out _).mono ?_); rintro e w' ⟨rfl, d'⟩; refine Hid.out ?_))
  refine Lib.hid ?_
  clear ck0
  replace v1 := v1.dn d'
  replace v3 := v3.dn d'
  replace v4 := v4.dn d'
  replace v5 := v5.dn d'
  replace v6 := v6.dn d'
  replace v7 := v7.dn d'
  replace v8 := v8.dn d'
  replace o_m1 := Lib.hid (o_m1.out.dn d')
  replace o_m2 := Lib.hid (o_m2.out.dn d')
  replace HD := Lib.hid (HD.out.trans d')
  clear d'
  go_wp2_with (first | ((with_reducible refine loadCore v1 hl ?_ ?_ ?_); rfl; rfl) | (go_at_call 18; (with_reducible refine (CU.out _).mono ?_); rintro e w' ⟨rfl, d'⟩; refine Hid.out ?_))
  refine Lib.hid ?_
  replace v1 := v1.dn d'
  replace v3 := v3.dn d'
  replace v4 := v4.dn d'
  replace v5 := v5.dn d'
  replace v6 := v6.dn d'
  replace v7 := v7.dn d'
  replace v8 := v8.dn d'
  replace o_m1 := Lib.hid (o_m1.out.dn d')
  replace o_m2 := Lib.hid (o_m2.out.dn d')
  replace HD := Lib.hid (HD.out.trans d')
  clear d'
  have ck0 := v4.cell (i := 0) (v := .int .i64 0) rfl
  go_wp2_with (first | ((with_reducible refine load33 v1 hl ?_ ?_ ?_); rfl; rfl) | (go_at_call 22; (with_reducible refine (CD.out _ (hm.dn HD.out)).mono ?_); rintro e w' ⟨rfl, d'⟩; refine Hid.out ?_))
  refine Lib.hid ?_
  clear ck0
  replace v1 := v1.dn d'
  replace v3 := v3.dn d'
  replace v4 := v4.dn d'
  replace v5 := v5.dn d'
  replace v6 := v6.dn d'
  replace v7 := v7.dn d'
  replace v8 := v8.dn d'
  replace o_m1 := Lib.hid (o_m1.out.dn d')
  replace o_m2 := Lib.hid (o_m2.out.dn d')
  replace HD := Lib.hid (HD.out.trans d')
  clear d'
  go_wp2_with (first | ((with_reducible refine loadTrap v6 ?_ ?_ ?_); rfl; rfl) | fail)
  go_ret
  exact ⟨rfl, HD.out⟩
set_option maxRecDepth 100000 in
set_option maxHeartbeats 2000000 in
theorem stp_gdn (m : Mc) (W : World) (hm : m.Ok W) (T : Env2 W) (hx : m.xs.length ≤ 9223372036854775807) (hy : m.ys.length ≤ 9223372036854775807) (hf : decide (m.xs.length ≤ 600 ∧ m.ys.length ≤ 600) = true) (hh : m.h = false) (r s : M.SRes) (op rd ra rb imm k v : Int) (hr : M.stS m.c m.xs m.ys false m.t = r) (hk : r.k = 6) (hv : r.v = 0) (hs_ : M.stn m.c m.xs m.ys false m.t = s) (hsk : s.k = k) (hsv : s.v = v) (e1 : M.nw Is.M.dOp m.c m.xs = op) (e2 : M.nw Is.M.dRd m.c m.xs = rd) (e3 : M.nw Is.M.dRa m.c m.xs = ra) (e4 : M.nw Is.M.dRb m.c m.xs = rb) (e5 : M.nw Is.M.dImm m.c m.xs = imm) (e6 : M.nowK m.c m.xs = 0) (e7 : M.nowV m.c m.xs = 0) (hd : M.due m.c m.t = true) (i0 : -2147483648 ≤ imm) (i1 : imm < 2147483648) (hmay : Is.M.ok op rd ra rb imm = true) (hp : Is.M.priv op = false) :
    Calls Tryz.prog 5 #[.agg (mach m)] W fun e W' => e = .returned (.bool true) ∧ Dn W W' := by
  have hl := hm.len
  have hc := hm.core
  have hs : m.xs.length ≤ 600 := by simp only [decide_eq_true_eq] at hf; omega
  have hn : m.ys.length ≤ 600 := by simp only [decide_eq_true_eq] at hf; omega
  have C0 := Lib.hid fun w => fun (t : Env2 w) => awakeS w t
  have CF := Lib.hid fun w => fun (ow : m.Ok w) => rfew m true w ow hx hy hf
  clear hf
  have C1 := Lib.hid fun w => fun (ow : m.Ok w) (t : Env2 w) => stRunS m m.c m.xs m.ys false m.t rfl rfl rfl hh rfl r 6 0 hk hv (by omega) (by omega) w ow t hr
  have C3 := Lib.hid fun w => fun (ow : m.Ok w) (t : Env2 w) => stRunN m m.c m.xs m.ys false m.t rfl rfl rfl hh rfl s k v hsk hsv (by omega) (by omega) w ow t hs_
  have C2 := Lib.hid fun w => fun (ow : m.Ok w) (t : Env2 w) => stRunC m m.c m.xs rfl rfl op rd ra rb imm 0 0 e1 e2 e3 e4 e5 e6 e7 (by omega) w ow t
  have CD := Lib.hid fun w => fun (ow : m.Ok w) => (by have h := rdue m w ow; rw [hd] at h; exact h : Calls Tryz.prog 22 #[.agg (mach m)] w fun e W' => e = .returned (.bool true) ∧ Dn w W')
  have CM := Lib.hid (rMay op rd ra rb imm true i0 i1 hmay)
  have CP := Lib.hid (rPrivi op false hp)
  clear hmay hp
  have q6 := eqTrap_same 6 0
  clear hr hk hv hs_ hsk hsv hd e1 e2 e3 e4 e5 e6 e7
  have HD := Lib.hid (Dn.refl W)
  go_enter Tryz.func5, Tryz.ntmps5
  go_wp2_with (first | ((with_reducible refine wpList_box (vs := (mach m)) ?_ ?_ ?_); rfl; rfl; intro b_v1 w' nn; refine Hid.out ?_))
  refine Lib.hid ?_
  have HL_v1 : Hid (W.heap.size ≤ b_v1) := Lib.hid (Blk.hi nn HD.out.size)
  have d' := nn.dn
  replace HD := Lib.hid (HD.out.trans d')
  have v1 := nn.blk
  clear d' nn
  go_wp2_with (first | (go_at_call 9; (with_reducible refine (C0.out _ (T.dn HD.out)).mono ?_); rintro e w' ⟨rfl, d'⟩; refine Hid.out ?_))
  refine Lib.hid ?_
  replace v1 := v1.dn d'
  replace HD := Lib.hid (HD.out.trans d')
  clear d'
  go_wp2_with (first | ((with_reducible refine load33 v1 hl ?_ ?_ ?_); rfl; rfl) | (go_at_call 10; (with_reducible refine (CF.out _ (hm.dn HD.out)).mono ?_); rintro e w' ⟨rfl, d'⟩; refine Hid.out ?_))
  refine Lib.hid ?_
  replace v1 := v1.dn d'
  replace HD := Lib.hid (HD.out.trans d')
  clear d'
  have ck0 := v1.halted hl
  rw [hh] at ck0
  go_wp2_with (first | ((with_reducible refine load33 v1 hl ?_ ?_ ?_); rfl; rfl) | (go_at_call 15; (with_reducible refine (C2.out _ (hm.dn HD.out) (T.dn HD.out)).mono ?_); rintro e w' ⟨rfl, d'⟩; refine Hid.out ?_))
  refine Lib.hid ?_
  clear ck0
  replace v1 := v1.dn d'
  replace HD := Lib.hid (HD.out.trans d')
  clear d'
  go_wp2_with (first | ((with_reducible refine wpList_alloc zeroI ?_ ?_); rfl; intro b_v3 w' nn; refine Hid.out ?_))
  refine Lib.hid ?_
  have n_v1_v3 := Lib.hid (nn.ne _ v1.lt)
  have HL_v3 : Hid (W.heap.size ≤ b_v3) := Lib.hid (Blk.hi nn HD.out.size)
  have d' := nn.dn
  replace v1 := v1.dn d'
  replace HD := Lib.hid (HD.out.trans d')
  have v3 := nn.blk
  clear d' nn
  go_wp2_with (first | ((with_reducible refine wpList_alloc zeroTrap ?_ ?_); rfl; intro b_v4 w' nn; refine Hid.out ?_))
  refine Lib.hid ?_
  have n_v1_v4 := Lib.hid (nn.ne _ v1.lt)
  have n_v3_v4 := Lib.hid (nn.ne _ v3.lt)
  have HL_v4 : Hid (W.heap.size ≤ b_v4) := Lib.hid (Blk.hi nn HD.out.size)
  have d' := nn.dn
  replace v1 := v1.dn d'
  replace v3 := v3.dn d'
  replace HD := Lib.hid (HD.out.trans d')
  have v4 := nn.blk
  clear d' nn
  go_wp2_with (first | ((with_reducible refine storeI (op := op) (rd := rd) (ra := ra) (rb := rb) (imm := imm) v3 ?_ ?_ ?_ ?_); rfl; rfl; rfl; intro w' r' t'; refine Hid.out ?_))
  refine Lib.hid ?_
  replace v1 := v1.trn t' n_v1_v3.out
  replace v4 := v4.trn t' n_v3_v4.out.symm
  replace HD := Lib.hid (HD.out.trn HL_v3.out t')
  clear t' v3
  have v3 := r'
  clear r'
  go_wp2_with (first | ((with_reducible refine storeTrap (k := 0) (v := 0) v4 ?_ ?_ ?_ ?_); rfl; rfl; rfl; intro w' r' t'; refine Hid.out ?_))
  refine Lib.hid ?_
  replace v1 := v1.trn t' n_v1_v4.out
  replace v3 := v3.trn t' n_v3_v4.out
  replace HD := Lib.hid (HD.out.trn HL_v4.out t')
  clear t' v4
  have v4 := r'
  clear r'
  go_wp2_with (first | ((with_reducible refine load33 v1 hl ?_ ?_ ?_); rfl; rfl) | (go_at_call 11; (with_reducible refine (C1.out _ (hm.dn HD.out) (T.dn HD.out)).mono ?_); rintro e w' ⟨m1, rfl, o_m1, e_m1, d'⟩; refine Hid.out ?_))
  refine Lib.hid ?_
  replace v1 := v1.dn d'
  replace v3 := v3.dn d'
  replace v4 := v4.dn d'
  replace HD := Lib.hid (HD.out.trans d')
  clear d'
  have l_m1 := o_m1.out.len
  have o_m1 := Lib.hid o_m1.out
  go_wp2_with (first | ((with_reducible refine wpList_alloc zeroMach ?_ ?_); rfl; intro b_v5 w' nn; refine Hid.out ?_))
  refine Lib.hid ?_
  have n_v1_v5 := Lib.hid (nn.ne _ v1.lt)
  have n_v3_v5 := Lib.hid (nn.ne _ v3.lt)
  have n_v4_v5 := Lib.hid (nn.ne _ v4.lt)
  have HL_v5 : Hid (W.heap.size ≤ b_v5) := Lib.hid (Blk.hi nn HD.out.size)
  have d' := nn.dn
  replace v1 := v1.dn d'
  replace v3 := v3.dn d'
  replace v4 := v4.dn d'
  replace o_m1 := Lib.hid (o_m1.out.dn d')
  replace HD := Lib.hid (HD.out.trans d')
  have v5 := nn.blk
  clear d' nn
  go_wp2_with (first | ((with_reducible refine wpList_alloc zeroTrap ?_ ?_); rfl; intro b_v6 w' nn; refine Hid.out ?_))
  refine Lib.hid ?_
  have n_v1_v6 := Lib.hid (nn.ne _ v1.lt)
  have n_v3_v6 := Lib.hid (nn.ne _ v3.lt)
  have n_v4_v6 := Lib.hid (nn.ne _ v4.lt)
  have n_v5_v6 := Lib.hid (nn.ne _ v5.lt)
  have HL_v6 : Hid (W.heap.size ≤ b_v6) := Lib.hid (Blk.hi nn HD.out.size)
  have d' := nn.dn
  replace v1 := v1.dn d'
  replace v3 := v3.dn d'
  replace v4 := v4.dn d'
  replace v5 := v5.dn d'
  replace o_m1 := Lib.hid (o_m1.out.dn d')
  replace HD := Lib.hid (HD.out.trans d')
  have v6 := nn.blk
  clear d' nn
  go_wp2_with (first | ((with_reducible refine store33 m1 l_m1 v5 zlen ?_ ?_ ?_ ?_); rfl; rfl; rfl; intro w' r' t'; refine Hid.out ?_))
  refine Lib.hid ?_
  replace o_m1 := Lib.hid (o_m1.out.trn v5 (NoU8.mach _) t')
  replace v1 := v1.trn t' n_v1_v5.out
  replace v3 := v3.trn t' n_v3_v5.out
  replace v4 := v4.trn t' n_v4_v5.out
  replace v6 := v6.trn t' n_v5_v6.out.symm
  replace HD := Lib.hid (HD.out.trn HL_v5.out t')
  clear t' v5
  have v5 := r'
  clear r'
  go_wp2_with (first | ((with_reducible refine storeTrap (k := 6) (v := 0) v6 ?_ ?_ ?_ ?_); rfl; rfl; rfl; intro w' r' t'; refine Hid.out ?_))
  refine Lib.hid ?_
  replace o_m1 := Lib.hid (o_m1.out.trn v6 (NoU8.trap _ _) t')
  replace v1 := v1.trn t' n_v1_v6.out
  replace v3 := v3.trn t' n_v3_v6.out
  replace v4 := v4.trn t' n_v4_v6.out
  replace v5 := v5.trn t' n_v5_v6.out
  replace HD := Lib.hid (HD.out.trn HL_v6.out t')
  clear t' v6
  have v6 := r'
  clear r'
  go_wp2_with (first | ((with_reducible refine load33 v1 hl ?_ ?_ ?_); rfl; rfl) | (go_at_call 13; (with_reducible refine (C3.out _ (hm.dn HD.out) (T.dn HD.out)).mono ?_); rintro e w' ⟨m2, rfl, o_m2, e_m2, d'⟩; refine Hid.out ?_))
  refine Lib.hid ?_
  replace v1 := v1.dn d'
  replace v3 := v3.dn d'
  replace v4 := v4.dn d'
  replace v5 := v5.dn d'
  replace v6 := v6.dn d'
  replace o_m1 := Lib.hid (o_m1.out.dn d')
  replace HD := Lib.hid (HD.out.trans d')
  clear d'
  have l_m2 := o_m2.out.len
  have o_m2 := Lib.hid o_m2.out
  go_wp2_with (first | ((with_reducible refine wpList_alloc zeroMach ?_ ?_); rfl; intro b_v7 w' nn; refine Hid.out ?_))
  refine Lib.hid ?_
  have n_v1_v7 := Lib.hid (nn.ne _ v1.lt)
  have n_v3_v7 := Lib.hid (nn.ne _ v3.lt)
  have n_v4_v7 := Lib.hid (nn.ne _ v4.lt)
  have n_v5_v7 := Lib.hid (nn.ne _ v5.lt)
  have n_v6_v7 := Lib.hid (nn.ne _ v6.lt)
  have HL_v7 : Hid (W.heap.size ≤ b_v7) := Lib.hid (Blk.hi nn HD.out.size)
  have d' := nn.dn
  replace v1 := v1.dn d'
  replace v3 := v3.dn d'
  replace v4 := v4.dn d'
  replace v5 := v5.dn d'
  replace v6 := v6.dn d'
  replace o_m1 := Lib.hid (o_m1.out.dn d')
  replace o_m2 := Lib.hid (o_m2.out.dn d')
  replace HD := Lib.hid (HD.out.trans d')
  have v7 := nn.blk
  clear d' nn
  go_wp2_with (first | ((with_reducible refine wpList_alloc zeroTrap ?_ ?_); rfl; intro b_v8 w' nn; refine Hid.out ?_))
  refine Lib.hid ?_
  have n_v1_v8 := Lib.hid (nn.ne _ v1.lt)
  have n_v3_v8 := Lib.hid (nn.ne _ v3.lt)
  have n_v4_v8 := Lib.hid (nn.ne _ v4.lt)
  have n_v5_v8 := Lib.hid (nn.ne _ v5.lt)
  have n_v6_v8 := Lib.hid (nn.ne _ v6.lt)
  have n_v7_v8 := Lib.hid (nn.ne _ v7.lt)
  have HL_v8 : Hid (W.heap.size ≤ b_v8) := Lib.hid (Blk.hi nn HD.out.size)
  have d' := nn.dn
  replace v1 := v1.dn d'
  replace v3 := v3.dn d'
  replace v4 := v4.dn d'
  replace v5 := v5.dn d'
  replace v6 := v6.dn d'
  replace v7 := v7.dn d'
  replace o_m1 := Lib.hid (o_m1.out.dn d')
  replace o_m2 := Lib.hid (o_m2.out.dn d')
  replace HD := Lib.hid (HD.out.trans d')
  have v8 := nn.blk
  clear d' nn
  go_wp2_with (first | ((with_reducible refine store33 m2 l_m2 v7 zlen ?_ ?_ ?_ ?_); rfl; rfl; rfl; intro w' r' t'; refine Hid.out ?_))
  refine Lib.hid ?_
  replace o_m1 := Lib.hid (o_m1.out.trn v7 (NoU8.mach _) t')
  replace o_m2 := Lib.hid (o_m2.out.trn v7 (NoU8.mach _) t')
  replace v1 := v1.trn t' n_v1_v7.out
  replace v3 := v3.trn t' n_v3_v7.out
  replace v4 := v4.trn t' n_v4_v7.out
  replace v5 := v5.trn t' n_v5_v7.out
  replace v6 := v6.trn t' n_v6_v7.out
  replace v8 := v8.trn t' n_v7_v8.out.symm
  replace HD := Lib.hid (HD.out.trn HL_v7.out t')
  clear t' v7
  have v7 := r'
  clear r'
  go_wp2_with (first | ((with_reducible refine storeTrap (k := k) (v := v) v8 ?_ ?_ ?_ ?_); rfl; rfl; rfl; intro w' r' t'; refine Hid.out ?_))
  refine Lib.hid ?_
  replace o_m1 := Lib.hid (o_m1.out.trn v8 (NoU8.trap _ _) t')
  replace o_m2 := Lib.hid (o_m2.out.trn v8 (NoU8.trap _ _) t')
  replace v1 := v1.trn t' n_v1_v8.out
  replace v3 := v3.trn t' n_v3_v8.out
  replace v4 := v4.trn t' n_v4_v8.out
  replace v5 := v5.trn t' n_v5_v8.out
  replace v6 := v6.trn t' n_v6_v8.out
  replace v7 := v7.trn t' n_v7_v8.out
  replace HD := Lib.hid (HD.out.trn HL_v8.out t')
  clear t' v8
  have v8 := r'
  clear r'
  have ck0 := v4.cell (i := 0) (v := .int .i64 0) rfl
  go_wp2_with (first | ((with_reducible refine loadI v3 ?_ ?_ ?_); rfl; rfl) | (go_at_call 20; (with_reducible refine (CM.out _).mono ?_); rintro e w' ⟨rfl, d'⟩; refine Hid.out ?_))
  refine Lib.hid ?_
  clear ck0
  replace v1 := v1.dn d'
  replace v3 := v3.dn d'
  replace v4 := v4.dn d'
  replace v5 := v5.dn d'
  replace v6 := v6.dn d'
  replace v7 := v7.dn d'
  replace v8 := v8.dn d'
  replace o_m1 := Lib.hid (o_m1.out.dn d')
  replace o_m2 := Lib.hid (o_m2.out.dn d')
  replace HD := Lib.hid (HD.out.trans d')
  clear d'
  have ck0 := v3.iop
  go_wp2_with (first | (go_at_call 21; (with_reducible refine (CP.out _).mono ?_); rintro e w' ⟨rfl, d'⟩; refine Hid.out ?_))
  refine Lib.hid ?_
  clear ck0
  replace v1 := v1.dn d'
  replace v3 := v3.dn d'
  replace v4 := v4.dn d'
  replace v5 := v5.dn d'
  replace v6 := v6.dn d'
  replace v7 := v7.dn d'
  replace v8 := v8.dn d'
  replace o_m1 := Lib.hid (o_m1.out.dn d')
  replace o_m2 := Lib.hid (o_m2.out.dn d')
  replace HD := Lib.hid (HD.out.trans d')
  clear d'
  have ck0 := v4.cell (i := 0) (v := .int .i64 0) rfl
  go_wp2_with (first | ((with_reducible refine load33 v1 hl ?_ ?_ ?_); rfl; rfl) | (go_at_call 22; (with_reducible refine (CD.out _ (hm.dn HD.out)).mono ?_); rintro e w' ⟨rfl, d'⟩; refine Hid.out ?_))
  refine Lib.hid ?_
  clear ck0
  replace v1 := v1.dn d'
  replace v3 := v3.dn d'
  replace v4 := v4.dn d'
  replace v5 := v5.dn d'
  replace v6 := v6.dn d'
  replace v7 := v7.dn d'
  replace v8 := v8.dn d'
  replace o_m1 := Lib.hid (o_m1.out.dn d')
  replace o_m2 := Lib.hid (o_m2.out.dn d')
  replace HD := Lib.hid (HD.out.trans d')
  clear d'
  go_wp2_with (first | ((with_reducible refine loadTrap v6 ?_ ?_ ?_); rfl; rfl) | fail)
  go_ret
  exact ⟨rfl, HD.out⟩
set_option maxRecDepth 100000 in
set_option maxHeartbeats 2000000 in
theorem stp_gnp (m : Mc) (W : World) (hm : m.Ok W) (T : Env2 W) (hx : m.xs.length ≤ 9223372036854775807) (hy : m.ys.length ≤ 9223372036854775807) (hf : decide (m.xs.length ≤ 600 ∧ m.ys.length ≤ 600) = true) (hh : m.h = false) (r s : M.SRes) (op rd ra rb imm : Int) (hr : M.stS m.c m.xs m.ys false m.t = r) (hk : r.k = 0) (hv : r.v = 0) (hs_ : M.stn m.c m.xs m.ys false m.t = s) (hsk : s.k = 0) (hsv : s.v = 0) (e1 : M.nw Is.M.dOp m.c m.xs = op) (e2 : M.nw Is.M.dRd m.c m.xs = rd) (e3 : M.nw Is.M.dRa m.c m.xs = ra) (e4 : M.nw Is.M.dRb m.c m.xs = rb) (e5 : M.nw Is.M.dImm m.c m.xs = imm) (e6 : M.nowK m.c m.xs = 0) (e7 : M.nowV m.c m.xs = 0) (hd : M.due m.c m.t = false) (i0 : -2147483648 ≤ imm) (i1 : imm < 2147483648) (hmay : Is.M.ok op rd ra rb imm = true) (hp : Is.M.priv op = true) (hsu : M.sup m.c = true) (ers : r = s) (zl : r.z.length ≤ 100000 ∧ r.ys.length ≤ 100000) :
    Calls Tryz.prog 5 #[.agg (mach m)] W fun e W' => e = .returned (.bool true) ∧ Dn W W' := by
  have hl := hm.len
  have hc := hm.core
  have hs : m.xs.length ≤ 600 := by simp only [decide_eq_true_eq] at hf; omega
  have hn : m.ys.length ≤ 600 := by simp only [decide_eq_true_eq] at hf; omega
  have C0 := Lib.hid fun w => fun (t : Env2 w) => awakeS w t
  have CF := Lib.hid fun w => fun (ow : m.Ok w) => rfew m true w ow hx hy hf
  clear hf
  have C1 := Lib.hid fun w => fun (ow : m.Ok w) (t : Env2 w) => stRunS m m.c m.xs m.ys false m.t rfl rfl rfl hh rfl r 0 0 hk hv (by omega) (by omega) w ow t hr
  have C3 := Lib.hid fun w => fun (ow : m.Ok w) (t : Env2 w) => stRunN m m.c m.xs m.ys false m.t rfl rfl rfl hh rfl s 0 0 hsk hsv (by omega) (by omega) w ow t hs_
  have C2 := Lib.hid fun w => fun (ow : m.Ok w) (t : Env2 w) => stRunC m m.c m.xs rfl rfl op rd ra rb imm 0 0 e1 e2 e3 e4 e5 e6 e7 (by omega) w ow t
  have CD := Lib.hid fun w => fun (ow : m.Ok w) => (by have h := rdue m w ow; rw [hd] at h; exact h : Calls Tryz.prog 22 #[.agg (mach m)] w fun e W' => e = .returned (.bool false) ∧ Dn w W')
  have CM := Lib.hid (rMay op rd ra rb imm true i0 i1 hmay)
  have CP := Lib.hid (rPrivi op true hp)
  have CU := Lib.hid fun w => (by have h := super_ m.c w hc; rw [hsu] at h; exact h : Calls Tryz.prog 18 #[.agg (ints .u32 m.c)] w fun e W' => e = .returned (.bool true) ∧ Dn w W')
  clear hsu
  clear hmay hp
  have CS := Lib.hid fun (w : World) (m1 m2 : Mc) (o1 : m1.Ok w) (o2 : m2.Ok w) (f1 : Sd r m1) (f2 : Sd s m2) => rsame_s w o1 o2 f1 f2 (by rw [ers]) (by rw [ers]) (by rw [ers]) (by rw [ers]) (by rw [ers]) zl.1 zl.2
  have qT := eqTrap_same 0 0
  clear hr hk hv hs_ hsk hsv hd e1 e2 e3 e4 e5 e6 e7
  have HD := Lib.hid (Dn.refl W)
  go_enter Tryz.func5, Tryz.ntmps5
  go_wp2_with (first | ((with_reducible refine wpList_box (vs := (mach m)) ?_ ?_ ?_); rfl; rfl; intro b_v1 w' nn; refine Hid.out ?_))
  refine Lib.hid ?_
  have HL_v1 : Hid (W.heap.size ≤ b_v1) := Lib.hid (Blk.hi nn HD.out.size)
  have d' := nn.dn
  replace HD := Lib.hid (HD.out.trans d')
  have v1 := nn.blk
  clear d' nn
  go_wp2_with (first | (go_at_call 9; (with_reducible refine (C0.out _ (T.dn HD.out)).mono ?_); rintro e w' ⟨rfl, d'⟩; refine Hid.out ?_))
  refine Lib.hid ?_
  replace v1 := v1.dn d'
  replace HD := Lib.hid (HD.out.trans d')
  clear d'
  go_wp2_with (first | ((with_reducible refine load33 v1 hl ?_ ?_ ?_); rfl; rfl) | (go_at_call 10; (with_reducible refine (CF.out _ (hm.dn HD.out)).mono ?_); rintro e w' ⟨rfl, d'⟩; refine Hid.out ?_))
  refine Lib.hid ?_
  replace v1 := v1.dn d'
  replace HD := Lib.hid (HD.out.trans d')
  clear d'
  have ck0 := v1.halted hl
  rw [hh] at ck0
  go_wp2_with (first | ((with_reducible refine load33 v1 hl ?_ ?_ ?_); rfl; rfl) | (go_at_call 15; (with_reducible refine (C2.out _ (hm.dn HD.out) (T.dn HD.out)).mono ?_); rintro e w' ⟨rfl, d'⟩; refine Hid.out ?_))
  refine Lib.hid ?_
  clear ck0
  replace v1 := v1.dn d'
  replace HD := Lib.hid (HD.out.trans d')
  clear d'
  go_wp2_with (first | ((with_reducible refine wpList_alloc zeroI ?_ ?_); rfl; intro b_v3 w' nn; refine Hid.out ?_))
  refine Lib.hid ?_
  have n_v1_v3 := Lib.hid (nn.ne _ v1.lt)
  have HL_v3 : Hid (W.heap.size ≤ b_v3) := Lib.hid (Blk.hi nn HD.out.size)
  have d' := nn.dn
  replace v1 := v1.dn d'
  replace HD := Lib.hid (HD.out.trans d')
  have v3 := nn.blk
  clear d' nn
  go_wp2_with (first | ((with_reducible refine wpList_alloc zeroTrap ?_ ?_); rfl; intro b_v4 w' nn; refine Hid.out ?_))
  refine Lib.hid ?_
  have n_v1_v4 := Lib.hid (nn.ne _ v1.lt)
  have n_v3_v4 := Lib.hid (nn.ne _ v3.lt)
  have HL_v4 : Hid (W.heap.size ≤ b_v4) := Lib.hid (Blk.hi nn HD.out.size)
  have d' := nn.dn
  replace v1 := v1.dn d'
  replace v3 := v3.dn d'
  replace HD := Lib.hid (HD.out.trans d')
  have v4 := nn.blk
  clear d' nn
  go_wp2_with (first | ((with_reducible refine storeI (op := op) (rd := rd) (ra := ra) (rb := rb) (imm := imm) v3 ?_ ?_ ?_ ?_); rfl; rfl; rfl; intro w' r' t'; refine Hid.out ?_))
  refine Lib.hid ?_
  replace v1 := v1.trn t' n_v1_v3.out
  replace v4 := v4.trn t' n_v3_v4.out.symm
  replace HD := Lib.hid (HD.out.trn HL_v3.out t')
  clear t' v3
  have v3 := r'
  clear r'
  go_wp2_with (first | ((with_reducible refine storeTrap (k := 0) (v := 0) v4 ?_ ?_ ?_ ?_); rfl; rfl; rfl; intro w' r' t'; refine Hid.out ?_))
  refine Lib.hid ?_
  replace v1 := v1.trn t' n_v1_v4.out
  replace v3 := v3.trn t' n_v3_v4.out
  replace HD := Lib.hid (HD.out.trn HL_v4.out t')
  clear t' v4
  have v4 := r'
  clear r'
  go_wp2_with (first | ((with_reducible refine load33 v1 hl ?_ ?_ ?_); rfl; rfl) | (go_at_call 11; (with_reducible refine (C1.out _ (hm.dn HD.out) (T.dn HD.out)).mono ?_); rintro e w' ⟨m1, rfl, o_m1, e_m1, d'⟩; refine Hid.out ?_))
  refine Lib.hid ?_
  replace v1 := v1.dn d'
  replace v3 := v3.dn d'
  replace v4 := v4.dn d'
  replace HD := Lib.hid (HD.out.trans d')
  clear d'
  have l_m1 := o_m1.out.len
  have o_m1 := Lib.hid o_m1.out
  go_wp2_with (first | ((with_reducible refine wpList_alloc zeroMach ?_ ?_); rfl; intro b_v5 w' nn; refine Hid.out ?_))
  refine Lib.hid ?_
  have n_v1_v5 := Lib.hid (nn.ne _ v1.lt)
  have n_v3_v5 := Lib.hid (nn.ne _ v3.lt)
  have n_v4_v5 := Lib.hid (nn.ne _ v4.lt)
  have HL_v5 : Hid (W.heap.size ≤ b_v5) := Lib.hid (Blk.hi nn HD.out.size)
  have d' := nn.dn
  replace v1 := v1.dn d'
  replace v3 := v3.dn d'
  replace v4 := v4.dn d'
  replace o_m1 := Lib.hid (o_m1.out.dn d')
  replace HD := Lib.hid (HD.out.trans d')
  have v5 := nn.blk
  clear d' nn
  go_wp2_with (first | ((with_reducible refine wpList_alloc zeroTrap ?_ ?_); rfl; intro b_v6 w' nn; refine Hid.out ?_))
  refine Lib.hid ?_
  have n_v1_v6 := Lib.hid (nn.ne _ v1.lt)
  have n_v3_v6 := Lib.hid (nn.ne _ v3.lt)
  have n_v4_v6 := Lib.hid (nn.ne _ v4.lt)
  have n_v5_v6 := Lib.hid (nn.ne _ v5.lt)
  have HL_v6 : Hid (W.heap.size ≤ b_v6) := Lib.hid (Blk.hi nn HD.out.size)
  have d' := nn.dn
  replace v1 := v1.dn d'
  replace v3 := v3.dn d'
  replace v4 := v4.dn d'
  replace v5 := v5.dn d'
  replace o_m1 := Lib.hid (o_m1.out.dn d')
  replace HD := Lib.hid (HD.out.trans d')
  have v6 := nn.blk
  clear d' nn
  go_wp2_with (first | ((with_reducible refine store33 m1 l_m1 v5 zlen ?_ ?_ ?_ ?_); rfl; rfl; rfl; intro w' r' t'; refine Hid.out ?_))
  refine Lib.hid ?_
  replace o_m1 := Lib.hid (o_m1.out.trn v5 (NoU8.mach _) t')
  replace v1 := v1.trn t' n_v1_v5.out
  replace v3 := v3.trn t' n_v3_v5.out
  replace v4 := v4.trn t' n_v4_v5.out
  replace v6 := v6.trn t' n_v5_v6.out.symm
  replace HD := Lib.hid (HD.out.trn HL_v5.out t')
  clear t' v5
  have v5 := r'
  clear r'
  go_wp2_with (first | ((with_reducible refine storeTrap (k := 0) (v := 0) v6 ?_ ?_ ?_ ?_); rfl; rfl; rfl; intro w' r' t'; refine Hid.out ?_))
  refine Lib.hid ?_
  replace o_m1 := Lib.hid (o_m1.out.trn v6 (NoU8.trap _ _) t')
  replace v1 := v1.trn t' n_v1_v6.out
  replace v3 := v3.trn t' n_v3_v6.out
  replace v4 := v4.trn t' n_v4_v6.out
  replace v5 := v5.trn t' n_v5_v6.out
  replace HD := Lib.hid (HD.out.trn HL_v6.out t')
  clear t' v6
  have v6 := r'
  clear r'
  go_wp2_with (first | ((with_reducible refine load33 v1 hl ?_ ?_ ?_); rfl; rfl) | (go_at_call 13; (with_reducible refine (C3.out _ (hm.dn HD.out) (T.dn HD.out)).mono ?_); rintro e w' ⟨m2, rfl, o_m2, e_m2, d'⟩; refine Hid.out ?_))
  refine Lib.hid ?_
  replace v1 := v1.dn d'
  replace v3 := v3.dn d'
  replace v4 := v4.dn d'
  replace v5 := v5.dn d'
  replace v6 := v6.dn d'
  replace o_m1 := Lib.hid (o_m1.out.dn d')
  replace HD := Lib.hid (HD.out.trans d')
  clear d'
  have l_m2 := o_m2.out.len
  have o_m2 := Lib.hid o_m2.out
  go_wp2_with (first | ((with_reducible refine wpList_alloc zeroMach ?_ ?_); rfl; intro b_v7 w' nn; refine Hid.out ?_))
  refine Lib.hid ?_
  have n_v1_v7 := Lib.hid (nn.ne _ v1.lt)
  have n_v3_v7 := Lib.hid (nn.ne _ v3.lt)
  have n_v4_v7 := Lib.hid (nn.ne _ v4.lt)
  have n_v5_v7 := Lib.hid (nn.ne _ v5.lt)
  have n_v6_v7 := Lib.hid (nn.ne _ v6.lt)
  have HL_v7 : Hid (W.heap.size ≤ b_v7) := Lib.hid (Blk.hi nn HD.out.size)
  have d' := nn.dn
  replace v1 := v1.dn d'
  replace v3 := v3.dn d'
  replace v4 := v4.dn d'
  replace v5 := v5.dn d'
  replace v6 := v6.dn d'
  replace o_m1 := Lib.hid (o_m1.out.dn d')
  replace o_m2 := Lib.hid (o_m2.out.dn d')
  replace HD := Lib.hid (HD.out.trans d')
  have v7 := nn.blk
  clear d' nn
  go_wp2_with (first | ((with_reducible refine wpList_alloc zeroTrap ?_ ?_); rfl; intro b_v8 w' nn; refine Hid.out ?_))
  refine Lib.hid ?_
  have n_v1_v8 := Lib.hid (nn.ne _ v1.lt)
  have n_v3_v8 := Lib.hid (nn.ne _ v3.lt)
  have n_v4_v8 := Lib.hid (nn.ne _ v4.lt)
  have n_v5_v8 := Lib.hid (nn.ne _ v5.lt)
  have n_v6_v8 := Lib.hid (nn.ne _ v6.lt)
  have n_v7_v8 := Lib.hid (nn.ne _ v7.lt)
  have HL_v8 : Hid (W.heap.size ≤ b_v8) := Lib.hid (Blk.hi nn HD.out.size)
  have d' := nn.dn
  replace v1 := v1.dn d'
  replace v3 := v3.dn d'
  replace v4 := v4.dn d'
  replace v5 := v5.dn d'
  replace v6 := v6.dn d'
  replace v7 := v7.dn d'
  replace o_m1 := Lib.hid (o_m1.out.dn d')
  replace o_m2 := Lib.hid (o_m2.out.dn d')
  replace HD := Lib.hid (HD.out.trans d')
  have v8 := nn.blk
  clear d' nn
  go_wp2_with (first | ((with_reducible refine store33 m2 l_m2 v7 zlen ?_ ?_ ?_ ?_); rfl; rfl; rfl; intro w' r' t'; refine Hid.out ?_))
  refine Lib.hid ?_
  replace o_m1 := Lib.hid (o_m1.out.trn v7 (NoU8.mach _) t')
  replace o_m2 := Lib.hid (o_m2.out.trn v7 (NoU8.mach _) t')
  replace v1 := v1.trn t' n_v1_v7.out
  replace v3 := v3.trn t' n_v3_v7.out
  replace v4 := v4.trn t' n_v4_v7.out
  replace v5 := v5.trn t' n_v5_v7.out
  replace v6 := v6.trn t' n_v6_v7.out
  replace v8 := v8.trn t' n_v7_v8.out.symm
  replace HD := Lib.hid (HD.out.trn HL_v7.out t')
  clear t' v7
  have v7 := r'
  clear r'
  go_wp2_with (first | ((with_reducible refine storeTrap (k := 0) (v := 0) v8 ?_ ?_ ?_ ?_); rfl; rfl; rfl; intro w' r' t'; refine Hid.out ?_))
  refine Lib.hid ?_
  replace o_m1 := Lib.hid (o_m1.out.trn v8 (NoU8.trap _ _) t')
  replace o_m2 := Lib.hid (o_m2.out.trn v8 (NoU8.trap _ _) t')
  replace v1 := v1.trn t' n_v1_v8.out
  replace v3 := v3.trn t' n_v3_v8.out
  replace v4 := v4.trn t' n_v4_v8.out
  replace v5 := v5.trn t' n_v5_v8.out
  replace v6 := v6.trn t' n_v6_v8.out
  replace v7 := v7.trn t' n_v7_v8.out
  replace HD := Lib.hid (HD.out.trn HL_v8.out t')
  clear t' v8
  have v8 := r'
  clear r'
  have ck0 := v4.cell (i := 0) (v := .int .i64 0) rfl
  go_wp2_with (first | ((with_reducible refine loadI v3 ?_ ?_ ?_); rfl; rfl) | (go_at_call 20; (with_reducible refine (CM.out _).mono ?_); rintro e w' ⟨rfl, d'⟩; refine Hid.out ?_))
  refine Lib.hid ?_
  clear ck0
  replace v1 := v1.dn d'
  replace v3 := v3.dn d'
  replace v4 := v4.dn d'
  replace v5 := v5.dn d'
  replace v6 := v6.dn d'
  replace v7 := v7.dn d'
  replace v8 := v8.dn d'
  replace o_m1 := Lib.hid (o_m1.out.dn d')
  replace o_m2 := Lib.hid (o_m2.out.dn d')
  replace HD := Lib.hid (HD.out.trans d')
  clear d'
  have ck0 := v3.iop
  go_wp2_with (first | (go_at_call 21; (with_reducible refine (CP.out _).mono ?_); rintro e w' ⟨rfl, d'⟩; refine Hid.out ?_))
  refine Lib.hid ?_
  clear ck0
  replace v1 := v1.dn d'
  replace v3 := v3.dn d'
  replace v4 := v4.dn d'
  replace v5 := v5.dn d'
  replace v6 := v6.dn d'
  replace v7 := v7.dn d'
  replace v8 := v8.dn d'
  replace o_m1 := Lib.hid (o_m1.out.dn d')
  replace o_m2 := Lib.hid (o_m2.out.dn d')
  replace HD := Lib.hid (HD.out.trans d')
  clear d'
  go_wp2_with (first | ((with_reducible refine loadCore v1 hl ?_ ?_ ?_); rfl; rfl) | (go_at_call 18; (with_reducible refine (CU.out _).mono ?_); rintro e w' ⟨rfl, d'⟩; refine Hid.out ?_))
  refine Lib.hid ?_
  replace v1 := v1.dn d'
  replace v3 := v3.dn d'
  replace v4 := v4.dn d'
  replace v5 := v5.dn d'
  replace v6 := v6.dn d'
  replace v7 := v7.dn d'
  replace v8 := v8.dn d'
  replace o_m1 := Lib.hid (o_m1.out.dn d')
  replace o_m2 := Lib.hid (o_m2.out.dn d')
  replace HD := Lib.hid (HD.out.trans d')
  clear d'
  have ck0 := v4.cell (i := 0) (v := .int .i64 0) rfl
  go_wp2_with (first | ((with_reducible refine load33 v1 hl ?_ ?_ ?_); rfl; rfl) | (go_at_call 22; (with_reducible refine (CD.out _ (hm.dn HD.out)).mono ?_); rintro e w' ⟨rfl, d'⟩; refine Hid.out ?_))
  refine Lib.hid ?_
  clear ck0
  replace v1 := v1.dn d'
  replace v3 := v3.dn d'
  replace v4 := v4.dn d'
  replace v5 := v5.dn d'
  replace v6 := v6.dn d'
  replace v7 := v7.dn d'
  replace v8 := v8.dn d'
  replace o_m1 := Lib.hid (o_m1.out.dn d')
  replace o_m2 := Lib.hid (o_m2.out.dn d')
  replace HD := Lib.hid (HD.out.trans d')
  clear d'
  go_wp2_with (first | ((with_reducible refine load33 v5 l_m1 ?_ ?_ ?_); rfl; rfl) | ((with_reducible refine load33 v7 l_m2 ?_ ?_ ?_); rfl; rfl) | (go_at_call 17; (with_reducible refine (CS.out _ m1 m2 o_m1.out o_m2.out e_m1.out e_m2.out).mono ?_); rintro e w' ⟨rfl, d'⟩; refine Hid.out ?_))
  refine Lib.hid ?_
  replace v1 := v1.dn d'
  replace v3 := v3.dn d'
  replace v4 := v4.dn d'
  replace v5 := v5.dn d'
  replace v6 := v6.dn d'
  replace v7 := v7.dn d'
  replace v8 := v8.dn d'
  replace o_m1 := Lib.hid (o_m1.out.dn d')
  replace o_m2 := Lib.hid (o_m2.out.dn d')
  replace HD := Lib.hid (HD.out.trans d')
  clear d'
  have ck0 := v6.cell (i := 0) (v := .int .i64 0) rfl
  have ck1 := v4.cell (i := 0) (v := .int .i64 0) rfl
  go_wp2_with (first | ((with_reducible refine loadTrap v6 ?_ ?_ ?_); rfl; rfl) | ((with_reducible refine loadTrap v8 ?_ ?_ ?_); rfl; rfl) | fail)
  go_ret
  exact ⟨rfl, HD.out⟩
end Go.Proofs.YtjbnflalngjfaaaGreatDoor
namespace Go.Proofs.YtjbnflalngjfaaaGreatDoor
open Go.ChangeShapes Go.WideShapes Go.ChangeAt Go.RowKit Go.Sort
set_option linter.unusedVariables false

set_option maxRecDepth 100000 in
set_option maxHeartbeats 2000000 in
theorem stp_gn0 (m : Mc) (W : World) (hm : m.Ok W) (T : Env2 W) (hx : m.xs.length ≤ 9223372036854775807) (hy : m.ys.length ≤ 9223372036854775807) (hf : decide (m.xs.length ≤ 600 ∧ m.ys.length ≤ 600) = true) (hh : m.h = false) (r s : M.SRes) (op rd ra rb imm : Int) (hr : M.stS m.c m.xs m.ys false m.t = r) (hk : r.k = 0) (hv : r.v = 0) (hs_ : M.stn m.c m.xs m.ys false m.t = s) (hsk : s.k = 0) (hsv : s.v = 0) (e1 : M.nw Is.M.dOp m.c m.xs = op) (e2 : M.nw Is.M.dRd m.c m.xs = rd) (e3 : M.nw Is.M.dRa m.c m.xs = ra) (e4 : M.nw Is.M.dRb m.c m.xs = rb) (e5 : M.nw Is.M.dImm m.c m.xs = imm) (e6 : M.nowK m.c m.xs = 0) (e7 : M.nowV m.c m.xs = 0) (hd : M.due m.c m.t = false) (i0 : -2147483648 ≤ imm) (i1 : imm < 2147483648) (hmay : Is.M.ok op rd ra rb imm = true) (hp : Is.M.priv op = false) (ers : r = s) (zl : r.z.length ≤ 100000 ∧ r.ys.length ≤ 100000) :
    Calls Tryz.prog 5 #[.agg (mach m)] W fun e W' => e = .returned (.bool true) ∧ Dn W W' := by
  have hl := hm.len
  have hc := hm.core
  have hs : m.xs.length ≤ 600 := by simp only [decide_eq_true_eq] at hf; omega
  have hn : m.ys.length ≤ 600 := by simp only [decide_eq_true_eq] at hf; omega
  have C0 := Lib.hid fun w => fun (t : Env2 w) => awakeS w t
  have CF := Lib.hid fun w => fun (ow : m.Ok w) => rfew m true w ow hx hy hf
  clear hf
  have C1 := Lib.hid fun w => fun (ow : m.Ok w) (t : Env2 w) => stRunS m m.c m.xs m.ys false m.t rfl rfl rfl hh rfl r 0 0 hk hv (by omega) (by omega) w ow t hr
  have C3 := Lib.hid fun w => fun (ow : m.Ok w) (t : Env2 w) => stRunN m m.c m.xs m.ys false m.t rfl rfl rfl hh rfl s 0 0 hsk hsv (by omega) (by omega) w ow t hs_
  have C2 := Lib.hid fun w => fun (ow : m.Ok w) (t : Env2 w) => stRunC m m.c m.xs rfl rfl op rd ra rb imm 0 0 e1 e2 e3 e4 e5 e6 e7 (by omega) w ow t
  have CD := Lib.hid fun w => fun (ow : m.Ok w) => (by have h := rdue m w ow; rw [hd] at h; exact h : Calls Tryz.prog 22 #[.agg (mach m)] w fun e W' => e = .returned (.bool false) ∧ Dn w W')
  have CM := Lib.hid (rMay op rd ra rb imm true i0 i1 hmay)
  have CP := Lib.hid (rPrivi op false hp)
  clear hmay hp
  have CS := Lib.hid fun (w : World) (m1 m2 : Mc) (o1 : m1.Ok w) (o2 : m2.Ok w) (f1 : Sd r m1) (f2 : Sd s m2) => rsame_s w o1 o2 f1 f2 (by rw [ers]) (by rw [ers]) (by rw [ers]) (by rw [ers]) (by rw [ers]) zl.1 zl.2
  have qT := eqTrap_same 0 0
  clear hr hk hv hs_ hsk hsv hd e1 e2 e3 e4 e5 e6 e7
  have HD := Lib.hid (Dn.refl W)
  go_enter Tryz.func5, Tryz.ntmps5
  go_wp2_with (first | ((with_reducible refine wpList_box (vs := (mach m)) ?_ ?_ ?_); rfl; rfl; intro b_v1 w' nn; refine Hid.out ?_))
  refine Lib.hid ?_
  have HL_v1 : Hid (W.heap.size ≤ b_v1) := Lib.hid (Blk.hi nn HD.out.size)
  have d' := nn.dn
  replace HD := Lib.hid (HD.out.trans d')
  have v1 := nn.blk
  clear d' nn
  go_wp2_with (first | (go_at_call 9; (with_reducible refine (C0.out _ (T.dn HD.out)).mono ?_); rintro e w' ⟨rfl, d'⟩; refine Hid.out ?_))
  refine Lib.hid ?_
  replace v1 := v1.dn d'
  replace HD := Lib.hid (HD.out.trans d')
  clear d'
  go_wp2_with (first | ((with_reducible refine load33 v1 hl ?_ ?_ ?_); rfl; rfl) | (go_at_call 10; (with_reducible refine (CF.out _ (hm.dn HD.out)).mono ?_); rintro e w' ⟨rfl, d'⟩; refine Hid.out ?_))
  refine Lib.hid ?_
  replace v1 := v1.dn d'
  replace HD := Lib.hid (HD.out.trans d')
  clear d'
  have ck0 := v1.halted hl
  rw [hh] at ck0
  go_wp2_with (first | ((with_reducible refine load33 v1 hl ?_ ?_ ?_); rfl; rfl) | (go_at_call 15; (with_reducible refine (C2.out _ (hm.dn HD.out) (T.dn HD.out)).mono ?_); rintro e w' ⟨rfl, d'⟩; refine Hid.out ?_))
  refine Lib.hid ?_
  clear ck0
  replace v1 := v1.dn d'
  replace HD := Lib.hid (HD.out.trans d')
  clear d'
  go_wp2_with (first | ((with_reducible refine wpList_alloc zeroI ?_ ?_); rfl; intro b_v3 w' nn; refine Hid.out ?_))
  refine Lib.hid ?_
  have n_v1_v3 := Lib.hid (nn.ne _ v1.lt)
  have HL_v3 : Hid (W.heap.size ≤ b_v3) := Lib.hid (Blk.hi nn HD.out.size)
  have d' := nn.dn
  replace v1 := v1.dn d'
  replace HD := Lib.hid (HD.out.trans d')
  have v3 := nn.blk
  clear d' nn
  go_wp2_with (first | ((with_reducible refine wpList_alloc zeroTrap ?_ ?_); rfl; intro b_v4 w' nn; refine Hid.out ?_))
  refine Lib.hid ?_
  have n_v1_v4 := Lib.hid (nn.ne _ v1.lt)
  have n_v3_v4 := Lib.hid (nn.ne _ v3.lt)
  have HL_v4 : Hid (W.heap.size ≤ b_v4) := Lib.hid (Blk.hi nn HD.out.size)
  have d' := nn.dn
  replace v1 := v1.dn d'
  replace v3 := v3.dn d'
  replace HD := Lib.hid (HD.out.trans d')
  have v4 := nn.blk
  clear d' nn
  go_wp2_with (first | ((with_reducible refine storeI (op := op) (rd := rd) (ra := ra) (rb := rb) (imm := imm) v3 ?_ ?_ ?_ ?_); rfl; rfl; rfl; intro w' r' t'; refine Hid.out ?_))
  refine Lib.hid ?_
  replace v1 := v1.trn t' n_v1_v3.out
  replace v4 := v4.trn t' n_v3_v4.out.symm
  replace HD := Lib.hid (HD.out.trn HL_v3.out t')
  clear t' v3
  have v3 := r'
  clear r'
  go_wp2_with (first | ((with_reducible refine storeTrap (k := 0) (v := 0) v4 ?_ ?_ ?_ ?_); rfl; rfl; rfl; intro w' r' t'; refine Hid.out ?_))
  refine Lib.hid ?_
  replace v1 := v1.trn t' n_v1_v4.out
  replace v3 := v3.trn t' n_v3_v4.out
  replace HD := Lib.hid (HD.out.trn HL_v4.out t')
  clear t' v4
  have v4 := r'
  clear r'
  go_wp2_with (first | ((with_reducible refine load33 v1 hl ?_ ?_ ?_); rfl; rfl) | (go_at_call 11; (with_reducible refine (C1.out _ (hm.dn HD.out) (T.dn HD.out)).mono ?_); rintro e w' ⟨m1, rfl, o_m1, e_m1, d'⟩; refine Hid.out ?_))
  refine Lib.hid ?_
  replace v1 := v1.dn d'
  replace v3 := v3.dn d'
  replace v4 := v4.dn d'
  replace HD := Lib.hid (HD.out.trans d')
  clear d'
  have l_m1 := o_m1.out.len
  have o_m1 := Lib.hid o_m1.out
  go_wp2_with (first | ((with_reducible refine wpList_alloc zeroMach ?_ ?_); rfl; intro b_v5 w' nn; refine Hid.out ?_))
  refine Lib.hid ?_
  have n_v1_v5 := Lib.hid (nn.ne _ v1.lt)
  have n_v3_v5 := Lib.hid (nn.ne _ v3.lt)
  have n_v4_v5 := Lib.hid (nn.ne _ v4.lt)
  have HL_v5 : Hid (W.heap.size ≤ b_v5) := Lib.hid (Blk.hi nn HD.out.size)
  have d' := nn.dn
  replace v1 := v1.dn d'
  replace v3 := v3.dn d'
  replace v4 := v4.dn d'
  replace o_m1 := Lib.hid (o_m1.out.dn d')
  replace HD := Lib.hid (HD.out.trans d')
  have v5 := nn.blk
  clear d' nn
  go_wp2_with (first | ((with_reducible refine wpList_alloc zeroTrap ?_ ?_); rfl; intro b_v6 w' nn; refine Hid.out ?_))
  refine Lib.hid ?_
  have n_v1_v6 := Lib.hid (nn.ne _ v1.lt)
  have n_v3_v6 := Lib.hid (nn.ne _ v3.lt)
  have n_v4_v6 := Lib.hid (nn.ne _ v4.lt)
  have n_v5_v6 := Lib.hid (nn.ne _ v5.lt)
  have HL_v6 : Hid (W.heap.size ≤ b_v6) := Lib.hid (Blk.hi nn HD.out.size)
  have d' := nn.dn
  replace v1 := v1.dn d'
  replace v3 := v3.dn d'
  replace v4 := v4.dn d'
  replace v5 := v5.dn d'
  replace o_m1 := Lib.hid (o_m1.out.dn d')
  replace HD := Lib.hid (HD.out.trans d')
  have v6 := nn.blk
  clear d' nn
  go_wp2_with (first | ((with_reducible refine store33 m1 l_m1 v5 zlen ?_ ?_ ?_ ?_); rfl; rfl; rfl; intro w' r' t'; refine Hid.out ?_))
  refine Lib.hid ?_
  replace o_m1 := Lib.hid (o_m1.out.trn v5 (NoU8.mach _) t')
  replace v1 := v1.trn t' n_v1_v5.out
  replace v3 := v3.trn t' n_v3_v5.out
  replace v4 := v4.trn t' n_v4_v5.out
  replace v6 := v6.trn t' n_v5_v6.out.symm
  replace HD := Lib.hid (HD.out.trn HL_v5.out t')
  clear t' v5
  have v5 := r'
  clear r'
  go_wp2_with (first | ((with_reducible refine storeTrap (k := 0) (v := 0) v6 ?_ ?_ ?_ ?_); rfl; rfl; rfl; intro w' r' t'; refine Hid.out ?_))
  refine Lib.hid ?_
  replace o_m1 := Lib.hid (o_m1.out.trn v6 (NoU8.trap _ _) t')
  replace v1 := v1.trn t' n_v1_v6.out
  replace v3 := v3.trn t' n_v3_v6.out
  replace v4 := v4.trn t' n_v4_v6.out
  replace v5 := v5.trn t' n_v5_v6.out
  replace HD := Lib.hid (HD.out.trn HL_v6.out t')
  clear t' v6
  have v6 := r'
  clear r'
  go_wp2_with (first | ((with_reducible refine load33 v1 hl ?_ ?_ ?_); rfl; rfl) | (go_at_call 13; (with_reducible refine (C3.out _ (hm.dn HD.out) (T.dn HD.out)).mono ?_); rintro e w' ⟨m2, rfl, o_m2, e_m2, d'⟩; refine Hid.out ?_))
  refine Lib.hid ?_
  replace v1 := v1.dn d'
  replace v3 := v3.dn d'
  replace v4 := v4.dn d'
  replace v5 := v5.dn d'
  replace v6 := v6.dn d'
  replace o_m1 := Lib.hid (o_m1.out.dn d')
  replace HD := Lib.hid (HD.out.trans d')
  clear d'
  have l_m2 := o_m2.out.len
  have o_m2 := Lib.hid o_m2.out
  go_wp2_with (first | ((with_reducible refine wpList_alloc zeroMach ?_ ?_); rfl; intro b_v7 w' nn; refine Hid.out ?_))
  refine Lib.hid ?_
  have n_v1_v7 := Lib.hid (nn.ne _ v1.lt)
  have n_v3_v7 := Lib.hid (nn.ne _ v3.lt)
  have n_v4_v7 := Lib.hid (nn.ne _ v4.lt)
  have n_v5_v7 := Lib.hid (nn.ne _ v5.lt)
  have n_v6_v7 := Lib.hid (nn.ne _ v6.lt)
  have HL_v7 : Hid (W.heap.size ≤ b_v7) := Lib.hid (Blk.hi nn HD.out.size)
  have d' := nn.dn
  replace v1 := v1.dn d'
  replace v3 := v3.dn d'
  replace v4 := v4.dn d'
  replace v5 := v5.dn d'
  replace v6 := v6.dn d'
  replace o_m1 := Lib.hid (o_m1.out.dn d')
  replace o_m2 := Lib.hid (o_m2.out.dn d')
  replace HD := Lib.hid (HD.out.trans d')
  have v7 := nn.blk
  clear d' nn
  go_wp2_with (first | ((with_reducible refine wpList_alloc zeroTrap ?_ ?_); rfl; intro b_v8 w' nn; refine Hid.out ?_))
  refine Lib.hid ?_
  have n_v1_v8 := Lib.hid (nn.ne _ v1.lt)
  have n_v3_v8 := Lib.hid (nn.ne _ v3.lt)
  have n_v4_v8 := Lib.hid (nn.ne _ v4.lt)
  have n_v5_v8 := Lib.hid (nn.ne _ v5.lt)
  have n_v6_v8 := Lib.hid (nn.ne _ v6.lt)
  have n_v7_v8 := Lib.hid (nn.ne _ v7.lt)
  have HL_v8 : Hid (W.heap.size ≤ b_v8) := Lib.hid (Blk.hi nn HD.out.size)
  have d' := nn.dn
  replace v1 := v1.dn d'
  replace v3 := v3.dn d'
  replace v4 := v4.dn d'
  replace v5 := v5.dn d'
  replace v6 := v6.dn d'
  replace v7 := v7.dn d'
  replace o_m1 := Lib.hid (o_m1.out.dn d')
  replace o_m2 := Lib.hid (o_m2.out.dn d')
  replace HD := Lib.hid (HD.out.trans d')
  have v8 := nn.blk
  clear d' nn
  go_wp2_with (first | ((with_reducible refine store33 m2 l_m2 v7 zlen ?_ ?_ ?_ ?_); rfl; rfl; rfl; intro w' r' t'; refine Hid.out ?_))
  refine Lib.hid ?_
  replace o_m1 := Lib.hid (o_m1.out.trn v7 (NoU8.mach _) t')
  replace o_m2 := Lib.hid (o_m2.out.trn v7 (NoU8.mach _) t')
  replace v1 := v1.trn t' n_v1_v7.out
  replace v3 := v3.trn t' n_v3_v7.out
  replace v4 := v4.trn t' n_v4_v7.out
  replace v5 := v5.trn t' n_v5_v7.out
  replace v6 := v6.trn t' n_v6_v7.out
  replace v8 := v8.trn t' n_v7_v8.out.symm
  replace HD := Lib.hid (HD.out.trn HL_v7.out t')
  clear t' v7
  have v7 := r'
  clear r'
  go_wp2_with (first | ((with_reducible refine storeTrap (k := 0) (v := 0) v8 ?_ ?_ ?_ ?_); rfl; rfl; rfl; intro w' r' t'; refine Hid.out ?_))
  refine Lib.hid ?_
  replace o_m1 := Lib.hid (o_m1.out.trn v8 (NoU8.trap _ _) t')
  replace o_m2 := Lib.hid (o_m2.out.trn v8 (NoU8.trap _ _) t')
  replace v1 := v1.trn t' n_v1_v8.out
  replace v3 := v3.trn t' n_v3_v8.out
  replace v4 := v4.trn t' n_v4_v8.out
  replace v5 := v5.trn t' n_v5_v8.out
  replace v6 := v6.trn t' n_v6_v8.out
  replace v7 := v7.trn t' n_v7_v8.out
  replace HD := Lib.hid (HD.out.trn HL_v8.out t')
  clear t' v8
  have v8 := r'
  clear r'
  have ck0 := v4.cell (i := 0) (v := .int .i64 0) rfl
  go_wp2_with (first | ((with_reducible refine loadI v3 ?_ ?_ ?_); rfl; rfl) | (go_at_call 20; (with_reducible refine (CM.out _).mono ?_); rintro e w' ⟨rfl, d'⟩; refine Hid.out ?_))
  refine Lib.hid ?_
  clear ck0
  replace v1 := v1.dn d'
  replace v3 := v3.dn d'
  replace v4 := v4.dn d'
  replace v5 := v5.dn d'
  replace v6 := v6.dn d'
  replace v7 := v7.dn d'
  replace v8 := v8.dn d'
  replace o_m1 := Lib.hid (o_m1.out.dn d')
  replace o_m2 := Lib.hid (o_m2.out.dn d')
  replace HD := Lib.hid (HD.out.trans d')
  clear d'
  have ck0 := v3.iop
  go_wp2_with (first | (go_at_call 21; (with_reducible refine (CP.out _).mono ?_); rintro e w' ⟨rfl, d'⟩; refine Hid.out ?_))
  refine Lib.hid ?_
  clear ck0
  replace v1 := v1.dn d'
  replace v3 := v3.dn d'
  replace v4 := v4.dn d'
  replace v5 := v5.dn d'
  replace v6 := v6.dn d'
  replace v7 := v7.dn d'
  replace v8 := v8.dn d'
  replace o_m1 := Lib.hid (o_m1.out.dn d')
  replace o_m2 := Lib.hid (o_m2.out.dn d')
  replace HD := Lib.hid (HD.out.trans d')
  clear d'
  have ck0 := v4.cell (i := 0) (v := .int .i64 0) rfl
  go_wp2_with (first | ((with_reducible refine load33 v1 hl ?_ ?_ ?_); rfl; rfl) | (go_at_call 22; (with_reducible refine (CD.out _ (hm.dn HD.out)).mono ?_); rintro e w' ⟨rfl, d'⟩; refine Hid.out ?_))
  refine Lib.hid ?_
  clear ck0
  replace v1 := v1.dn d'
  replace v3 := v3.dn d'
  replace v4 := v4.dn d'
  replace v5 := v5.dn d'
  replace v6 := v6.dn d'
  replace v7 := v7.dn d'
  replace v8 := v8.dn d'
  replace o_m1 := Lib.hid (o_m1.out.dn d')
  replace o_m2 := Lib.hid (o_m2.out.dn d')
  replace HD := Lib.hid (HD.out.trans d')
  clear d'
  go_wp2_with (first | ((with_reducible refine load33 v5 l_m1 ?_ ?_ ?_); rfl; rfl) | ((with_reducible refine load33 v7 l_m2 ?_ ?_ ?_); rfl; rfl) | (go_at_call 17; (with_reducible refine (CS.out _ m1 m2 o_m1.out o_m2.out e_m1.out e_m2.out).mono ?_); rintro e w' ⟨rfl, d'⟩; refine Hid.out ?_))
  refine Lib.hid ?_
  replace v1 := v1.dn d'
  replace v3 := v3.dn d'
  replace v4 := v4.dn d'
  replace v5 := v5.dn d'
  replace v6 := v6.dn d'
  replace v7 := v7.dn d'
  replace v8 := v8.dn d'
  replace o_m1 := Lib.hid (o_m1.out.dn d')
  replace o_m2 := Lib.hid (o_m2.out.dn d')
  replace HD := Lib.hid (HD.out.trans d')
  clear d'
  have ck0 := v6.cell (i := 0) (v := .int .i64 0) rfl
  have ck1 := v4.cell (i := 0) (v := .int .i64 0) rfl
  go_wp2_with (first | ((with_reducible refine loadTrap v6 ?_ ?_ ?_); rfl; rfl) | ((with_reducible refine loadTrap v8 ?_ ?_ ?_); rfl; rfl) | fail)
  go_ret
  exact ⟨rfl, HD.out⟩
set_option maxRecDepth 100000 in
set_option maxHeartbeats 2000000 in
theorem stp_gn3 (m : Mc) (W : World) (hm : m.Ok W) (T : Env2 W) (hx : m.xs.length ≤ 9223372036854775807) (hy : m.ys.length ≤ 9223372036854775807) (hf : decide (m.xs.length ≤ 600 ∧ m.ys.length ≤ 600) = true) (hh : m.h = false) (r s : M.SRes) (op rd ra rb imm v : Int) (hr : M.stS m.c m.xs m.ys false m.t = r) (hk : r.k = 3) (hv : r.v = v) (hs_ : M.stn m.c m.xs m.ys false m.t = s) (hsk : s.k = 3) (hsv : s.v = v) (e1 : M.nw Is.M.dOp m.c m.xs = op) (e2 : M.nw Is.M.dRd m.c m.xs = rd) (e3 : M.nw Is.M.dRa m.c m.xs = ra) (e4 : M.nw Is.M.dRb m.c m.xs = rb) (e5 : M.nw Is.M.dImm m.c m.xs = imm) (e6 : M.nowK m.c m.xs = 0) (e7 : M.nowV m.c m.xs = 0) (hd : M.due m.c m.t = false) (i0 : -2147483648 ≤ imm) (i1 : imm < 2147483648) (hmay : Is.M.ok op rd ra rb imm = true) (hp : Is.M.priv op = false) (ers : r = s) (zl : r.z.length ≤ 100000 ∧ r.ys.length ≤ 100000) :
    Calls Tryz.prog 5 #[.agg (mach m)] W fun e W' => e = .returned (.bool true) ∧ Dn W W' := by
  have hl := hm.len
  have hc := hm.core
  have hs : m.xs.length ≤ 600 := by simp only [decide_eq_true_eq] at hf; omega
  have hn : m.ys.length ≤ 600 := by simp only [decide_eq_true_eq] at hf; omega
  have C0 := Lib.hid fun w => fun (t : Env2 w) => awakeS w t
  have CF := Lib.hid fun w => fun (ow : m.Ok w) => rfew m true w ow hx hy hf
  clear hf
  have C1 := Lib.hid fun w => fun (ow : m.Ok w) (t : Env2 w) => stRunS m m.c m.xs m.ys false m.t rfl rfl rfl hh rfl r 3 v hk hv (by omega) (by omega) w ow t hr
  have C3 := Lib.hid fun w => fun (ow : m.Ok w) (t : Env2 w) => stRunN m m.c m.xs m.ys false m.t rfl rfl rfl hh rfl s 3 v hsk hsv (by omega) (by omega) w ow t hs_
  have C2 := Lib.hid fun w => fun (ow : m.Ok w) (t : Env2 w) => stRunC m m.c m.xs rfl rfl op rd ra rb imm 0 0 e1 e2 e3 e4 e5 e6 e7 (by omega) w ow t
  have CD := Lib.hid fun w => fun (ow : m.Ok w) => (by have h := rdue m w ow; rw [hd] at h; exact h : Calls Tryz.prog 22 #[.agg (mach m)] w fun e W' => e = .returned (.bool false) ∧ Dn w W')
  have CM := Lib.hid (rMay op rd ra rb imm true i0 i1 hmay)
  have CP := Lib.hid (rPrivi op false hp)
  clear hmay hp
  have CS := Lib.hid fun (w : World) (m1 m2 : Mc) (o1 : m1.Ok w) (o2 : m2.Ok w) (f1 : Sd r m1) (f2 : Sd s m2) => rsame_s w o1 o2 f1 f2 (by rw [ers]) (by rw [ers]) (by rw [ers]) (by rw [ers]) (by rw [ers]) zl.1 zl.2
  have qT := eqTrap_same 3 v
  clear hr hk hv hs_ hsk hsv hd e1 e2 e3 e4 e5 e6 e7
  have HD := Lib.hid (Dn.refl W)
  go_enter Tryz.func5, Tryz.ntmps5
  go_wp2_with (first | ((with_reducible refine wpList_box (vs := (mach m)) ?_ ?_ ?_); rfl; rfl; intro b_v1 w' nn; refine Hid.out ?_))
  refine Lib.hid ?_
  have HL_v1 : Hid (W.heap.size ≤ b_v1) := Lib.hid (Blk.hi nn HD.out.size)
  have d' := nn.dn
  replace HD := Lib.hid (HD.out.trans d')
  have v1 := nn.blk
  clear d' nn
  go_wp2_with (first | (go_at_call 9; (with_reducible refine (C0.out _ (T.dn HD.out)).mono ?_); rintro e w' ⟨rfl, d'⟩; refine Hid.out ?_))
  refine Lib.hid ?_
  replace v1 := v1.dn d'
  replace HD := Lib.hid (HD.out.trans d')
  clear d'
  go_wp2_with (first | ((with_reducible refine load33 v1 hl ?_ ?_ ?_); rfl; rfl) | (go_at_call 10; (with_reducible refine (CF.out _ (hm.dn HD.out)).mono ?_); rintro e w' ⟨rfl, d'⟩; refine Hid.out ?_))
  refine Lib.hid ?_
  replace v1 := v1.dn d'
  replace HD := Lib.hid (HD.out.trans d')
  clear d'
  have ck0 := v1.halted hl
  rw [hh] at ck0
  go_wp2_with (first | ((with_reducible refine load33 v1 hl ?_ ?_ ?_); rfl; rfl) | (go_at_call 15; (with_reducible refine (C2.out _ (hm.dn HD.out) (T.dn HD.out)).mono ?_); rintro e w' ⟨rfl, d'⟩; refine Hid.out ?_))
  refine Lib.hid ?_
  clear ck0
  replace v1 := v1.dn d'
  replace HD := Lib.hid (HD.out.trans d')
  clear d'
  go_wp2_with (first | ((with_reducible refine wpList_alloc zeroI ?_ ?_); rfl; intro b_v3 w' nn; refine Hid.out ?_))
  refine Lib.hid ?_
  have n_v1_v3 := Lib.hid (nn.ne _ v1.lt)
  have HL_v3 : Hid (W.heap.size ≤ b_v3) := Lib.hid (Blk.hi nn HD.out.size)
  have d' := nn.dn
  replace v1 := v1.dn d'
  replace HD := Lib.hid (HD.out.trans d')
  have v3 := nn.blk
  clear d' nn
  go_wp2_with (first | ((with_reducible refine wpList_alloc zeroTrap ?_ ?_); rfl; intro b_v4 w' nn; refine Hid.out ?_))
  refine Lib.hid ?_
  have n_v1_v4 := Lib.hid (nn.ne _ v1.lt)
  have n_v3_v4 := Lib.hid (nn.ne _ v3.lt)
  have HL_v4 : Hid (W.heap.size ≤ b_v4) := Lib.hid (Blk.hi nn HD.out.size)
  have d' := nn.dn
  replace v1 := v1.dn d'
  replace v3 := v3.dn d'
  replace HD := Lib.hid (HD.out.trans d')
  have v4 := nn.blk
  clear d' nn
  go_wp2_with (first | ((with_reducible refine storeI (op := op) (rd := rd) (ra := ra) (rb := rb) (imm := imm) v3 ?_ ?_ ?_ ?_); rfl; rfl; rfl; intro w' r' t'; refine Hid.out ?_))
  refine Lib.hid ?_
  replace v1 := v1.trn t' n_v1_v3.out
  replace v4 := v4.trn t' n_v3_v4.out.symm
  replace HD := Lib.hid (HD.out.trn HL_v3.out t')
  clear t' v3
  have v3 := r'
  clear r'
  go_wp2_with (first | ((with_reducible refine storeTrap (k := 0) (v := 0) v4 ?_ ?_ ?_ ?_); rfl; rfl; rfl; intro w' r' t'; refine Hid.out ?_))
  refine Lib.hid ?_
  replace v1 := v1.trn t' n_v1_v4.out
  replace v3 := v3.trn t' n_v3_v4.out
  replace HD := Lib.hid (HD.out.trn HL_v4.out t')
  clear t' v4
  have v4 := r'
  clear r'
  go_wp2_with (first | ((with_reducible refine load33 v1 hl ?_ ?_ ?_); rfl; rfl) | (go_at_call 11; (with_reducible refine (C1.out _ (hm.dn HD.out) (T.dn HD.out)).mono ?_); rintro e w' ⟨m1, rfl, o_m1, e_m1, d'⟩; refine Hid.out ?_))
  refine Lib.hid ?_
  replace v1 := v1.dn d'
  replace v3 := v3.dn d'
  replace v4 := v4.dn d'
  replace HD := Lib.hid (HD.out.trans d')
  clear d'
  have l_m1 := o_m1.out.len
  have o_m1 := Lib.hid o_m1.out
  go_wp2_with (first | ((with_reducible refine wpList_alloc zeroMach ?_ ?_); rfl; intro b_v5 w' nn; refine Hid.out ?_))
  refine Lib.hid ?_
  have n_v1_v5 := Lib.hid (nn.ne _ v1.lt)
  have n_v3_v5 := Lib.hid (nn.ne _ v3.lt)
  have n_v4_v5 := Lib.hid (nn.ne _ v4.lt)
  have HL_v5 : Hid (W.heap.size ≤ b_v5) := Lib.hid (Blk.hi nn HD.out.size)
  have d' := nn.dn
  replace v1 := v1.dn d'
  replace v3 := v3.dn d'
  replace v4 := v4.dn d'
  replace o_m1 := Lib.hid (o_m1.out.dn d')
  replace HD := Lib.hid (HD.out.trans d')
  have v5 := nn.blk
  clear d' nn
  go_wp2_with (first | ((with_reducible refine wpList_alloc zeroTrap ?_ ?_); rfl; intro b_v6 w' nn; refine Hid.out ?_))
  refine Lib.hid ?_
  have n_v1_v6 := Lib.hid (nn.ne _ v1.lt)
  have n_v3_v6 := Lib.hid (nn.ne _ v3.lt)
  have n_v4_v6 := Lib.hid (nn.ne _ v4.lt)
  have n_v5_v6 := Lib.hid (nn.ne _ v5.lt)
  have HL_v6 : Hid (W.heap.size ≤ b_v6) := Lib.hid (Blk.hi nn HD.out.size)
  have d' := nn.dn
  replace v1 := v1.dn d'
  replace v3 := v3.dn d'
  replace v4 := v4.dn d'
  replace v5 := v5.dn d'
  replace o_m1 := Lib.hid (o_m1.out.dn d')
  replace HD := Lib.hid (HD.out.trans d')
  have v6 := nn.blk
  clear d' nn
  go_wp2_with (first | ((with_reducible refine store33 m1 l_m1 v5 zlen ?_ ?_ ?_ ?_); rfl; rfl; rfl; intro w' r' t'; refine Hid.out ?_))
  refine Lib.hid ?_
  replace o_m1 := Lib.hid (o_m1.out.trn v5 (NoU8.mach _) t')
  replace v1 := v1.trn t' n_v1_v5.out
  replace v3 := v3.trn t' n_v3_v5.out
  replace v4 := v4.trn t' n_v4_v5.out
  replace v6 := v6.trn t' n_v5_v6.out.symm
  replace HD := Lib.hid (HD.out.trn HL_v5.out t')
  clear t' v5
  have v5 := r'
  clear r'
  go_wp2_with (first | ((with_reducible refine storeTrap (k := 3) (v := v) v6 ?_ ?_ ?_ ?_); rfl; rfl; rfl; intro w' r' t'; refine Hid.out ?_))
  refine Lib.hid ?_
  replace o_m1 := Lib.hid (o_m1.out.trn v6 (NoU8.trap _ _) t')
  replace v1 := v1.trn t' n_v1_v6.out
  replace v3 := v3.trn t' n_v3_v6.out
  replace v4 := v4.trn t' n_v4_v6.out
  replace v5 := v5.trn t' n_v5_v6.out
  replace HD := Lib.hid (HD.out.trn HL_v6.out t')
  clear t' v6
  have v6 := r'
  clear r'
  go_wp2_with (first | ((with_reducible refine load33 v1 hl ?_ ?_ ?_); rfl; rfl) | (go_at_call 13; (with_reducible refine (C3.out _ (hm.dn HD.out) (T.dn HD.out)).mono ?_); rintro e w' ⟨m2, rfl, o_m2, e_m2, d'⟩; refine Hid.out ?_))
  refine Lib.hid ?_
  replace v1 := v1.dn d'
  replace v3 := v3.dn d'
  replace v4 := v4.dn d'
  replace v5 := v5.dn d'
  replace v6 := v6.dn d'
  replace o_m1 := Lib.hid (o_m1.out.dn d')
  replace HD := Lib.hid (HD.out.trans d')
  clear d'
  have l_m2 := o_m2.out.len
  have o_m2 := Lib.hid o_m2.out
  go_wp2_with (first | ((with_reducible refine wpList_alloc zeroMach ?_ ?_); rfl; intro b_v7 w' nn; refine Hid.out ?_))
  refine Lib.hid ?_
  have n_v1_v7 := Lib.hid (nn.ne _ v1.lt)
  have n_v3_v7 := Lib.hid (nn.ne _ v3.lt)
  have n_v4_v7 := Lib.hid (nn.ne _ v4.lt)
  have n_v5_v7 := Lib.hid (nn.ne _ v5.lt)
  have n_v6_v7 := Lib.hid (nn.ne _ v6.lt)
  have HL_v7 : Hid (W.heap.size ≤ b_v7) := Lib.hid (Blk.hi nn HD.out.size)
  have d' := nn.dn
  replace v1 := v1.dn d'
  replace v3 := v3.dn d'
  replace v4 := v4.dn d'
  replace v5 := v5.dn d'
  replace v6 := v6.dn d'
  replace o_m1 := Lib.hid (o_m1.out.dn d')
  replace o_m2 := Lib.hid (o_m2.out.dn d')
  replace HD := Lib.hid (HD.out.trans d')
  have v7 := nn.blk
  clear d' nn
  go_wp2_with (first | ((with_reducible refine wpList_alloc zeroTrap ?_ ?_); rfl; intro b_v8 w' nn; refine Hid.out ?_))
  refine Lib.hid ?_
  have n_v1_v8 := Lib.hid (nn.ne _ v1.lt)
  have n_v3_v8 := Lib.hid (nn.ne _ v3.lt)
  have n_v4_v8 := Lib.hid (nn.ne _ v4.lt)
  have n_v5_v8 := Lib.hid (nn.ne _ v5.lt)
  have n_v6_v8 := Lib.hid (nn.ne _ v6.lt)
  have n_v7_v8 := Lib.hid (nn.ne _ v7.lt)
  have HL_v8 : Hid (W.heap.size ≤ b_v8) := Lib.hid (Blk.hi nn HD.out.size)
  have d' := nn.dn
  replace v1 := v1.dn d'
  replace v3 := v3.dn d'
  replace v4 := v4.dn d'
  replace v5 := v5.dn d'
  replace v6 := v6.dn d'
  replace v7 := v7.dn d'
  replace o_m1 := Lib.hid (o_m1.out.dn d')
  replace o_m2 := Lib.hid (o_m2.out.dn d')
  replace HD := Lib.hid (HD.out.trans d')
  have v8 := nn.blk
  clear d' nn
  go_wp2_with (first | ((with_reducible refine store33 m2 l_m2 v7 zlen ?_ ?_ ?_ ?_); rfl; rfl; rfl; intro w' r' t'; refine Hid.out ?_))
  refine Lib.hid ?_
  replace o_m1 := Lib.hid (o_m1.out.trn v7 (NoU8.mach _) t')
  replace o_m2 := Lib.hid (o_m2.out.trn v7 (NoU8.mach _) t')
  replace v1 := v1.trn t' n_v1_v7.out
  replace v3 := v3.trn t' n_v3_v7.out
  replace v4 := v4.trn t' n_v4_v7.out
  replace v5 := v5.trn t' n_v5_v7.out
  replace v6 := v6.trn t' n_v6_v7.out
  replace v8 := v8.trn t' n_v7_v8.out.symm
  replace HD := Lib.hid (HD.out.trn HL_v7.out t')
  clear t' v7
  have v7 := r'
  clear r'
  go_wp2_with (first | ((with_reducible refine storeTrap (k := 3) (v := v) v8 ?_ ?_ ?_ ?_); rfl; rfl; rfl; intro w' r' t'; refine Hid.out ?_))
  refine Lib.hid ?_
  replace o_m1 := Lib.hid (o_m1.out.trn v8 (NoU8.trap _ _) t')
  replace o_m2 := Lib.hid (o_m2.out.trn v8 (NoU8.trap _ _) t')
  replace v1 := v1.trn t' n_v1_v8.out
  replace v3 := v3.trn t' n_v3_v8.out
  replace v4 := v4.trn t' n_v4_v8.out
  replace v5 := v5.trn t' n_v5_v8.out
  replace v6 := v6.trn t' n_v6_v8.out
  replace v7 := v7.trn t' n_v7_v8.out
  replace HD := Lib.hid (HD.out.trn HL_v8.out t')
  clear t' v8
  have v8 := r'
  clear r'
  have ck0 := v4.cell (i := 0) (v := .int .i64 0) rfl
  go_wp2_with (first | ((with_reducible refine loadI v3 ?_ ?_ ?_); rfl; rfl) | (go_at_call 20; (with_reducible refine (CM.out _).mono ?_); rintro e w' ⟨rfl, d'⟩; refine Hid.out ?_))
  refine Lib.hid ?_
  clear ck0
  replace v1 := v1.dn d'
  replace v3 := v3.dn d'
  replace v4 := v4.dn d'
  replace v5 := v5.dn d'
  replace v6 := v6.dn d'
  replace v7 := v7.dn d'
  replace v8 := v8.dn d'
  replace o_m1 := Lib.hid (o_m1.out.dn d')
  replace o_m2 := Lib.hid (o_m2.out.dn d')
  replace HD := Lib.hid (HD.out.trans d')
  clear d'
  have ck0 := v3.iop
  go_wp2_with (first | (go_at_call 21; (with_reducible refine (CP.out _).mono ?_); rintro e w' ⟨rfl, d'⟩; refine Hid.out ?_))
  refine Lib.hid ?_
  clear ck0
  replace v1 := v1.dn d'
  replace v3 := v3.dn d'
  replace v4 := v4.dn d'
  replace v5 := v5.dn d'
  replace v6 := v6.dn d'
  replace v7 := v7.dn d'
  replace v8 := v8.dn d'
  replace o_m1 := Lib.hid (o_m1.out.dn d')
  replace o_m2 := Lib.hid (o_m2.out.dn d')
  replace HD := Lib.hid (HD.out.trans d')
  clear d'
  have ck0 := v4.cell (i := 0) (v := .int .i64 0) rfl
  go_wp2_with (first | ((with_reducible refine load33 v1 hl ?_ ?_ ?_); rfl; rfl) | (go_at_call 22; (with_reducible refine (CD.out _ (hm.dn HD.out)).mono ?_); rintro e w' ⟨rfl, d'⟩; refine Hid.out ?_))
  refine Lib.hid ?_
  clear ck0
  replace v1 := v1.dn d'
  replace v3 := v3.dn d'
  replace v4 := v4.dn d'
  replace v5 := v5.dn d'
  replace v6 := v6.dn d'
  replace v7 := v7.dn d'
  replace v8 := v8.dn d'
  replace o_m1 := Lib.hid (o_m1.out.dn d')
  replace o_m2 := Lib.hid (o_m2.out.dn d')
  replace HD := Lib.hid (HD.out.trans d')
  clear d'
  go_wp2_with (first | ((with_reducible refine load33 v5 l_m1 ?_ ?_ ?_); rfl; rfl) | ((with_reducible refine load33 v7 l_m2 ?_ ?_ ?_); rfl; rfl) | (go_at_call 17; (with_reducible refine (CS.out _ m1 m2 o_m1.out o_m2.out e_m1.out e_m2.out).mono ?_); rintro e w' ⟨rfl, d'⟩; refine Hid.out ?_))
  refine Lib.hid ?_
  replace v1 := v1.dn d'
  replace v3 := v3.dn d'
  replace v4 := v4.dn d'
  replace v5 := v5.dn d'
  replace v6 := v6.dn d'
  replace v7 := v7.dn d'
  replace v8 := v8.dn d'
  replace o_m1 := Lib.hid (o_m1.out.dn d')
  replace o_m2 := Lib.hid (o_m2.out.dn d')
  replace HD := Lib.hid (HD.out.trans d')
  clear d'
  have ck0 := v6.cell (i := 0) (v := .int .i64 3) rfl
  have ck1 := v4.cell (i := 0) (v := .int .i64 0) rfl
  go_wp2_with (first | ((with_reducible refine loadTrap v6 ?_ ?_ ?_); rfl; rfl) | ((with_reducible refine loadTrap v8 ?_ ?_ ?_); rfl; rfl) | fail)
  go_ret
  exact ⟨rfl, HD.out⟩
set_option maxRecDepth 100000 in
set_option maxHeartbeats 2000000 in
theorem stp_gn4 (m : Mc) (W : World) (hm : m.Ok W) (T : Env2 W) (hx : m.xs.length ≤ 9223372036854775807) (hy : m.ys.length ≤ 9223372036854775807) (hf : decide (m.xs.length ≤ 600 ∧ m.ys.length ≤ 600) = true) (hh : m.h = false) (r s : M.SRes) (op rd ra rb imm v : Int) (hr : M.stS m.c m.xs m.ys false m.t = r) (hk : r.k = 4) (hv : r.v = v) (hs_ : M.stn m.c m.xs m.ys false m.t = s) (hsk : s.k = 4) (hsv : s.v = v) (e1 : M.nw Is.M.dOp m.c m.xs = op) (e2 : M.nw Is.M.dRd m.c m.xs = rd) (e3 : M.nw Is.M.dRa m.c m.xs = ra) (e4 : M.nw Is.M.dRb m.c m.xs = rb) (e5 : M.nw Is.M.dImm m.c m.xs = imm) (e6 : M.nowK m.c m.xs = 0) (e7 : M.nowV m.c m.xs = 0) (hd : M.due m.c m.t = false) (i0 : -2147483648 ≤ imm) (i1 : imm < 2147483648) (hmay : Is.M.ok op rd ra rb imm = true) (hp : Is.M.priv op = false) (ers : r = s) (zl : r.z.length ≤ 100000 ∧ r.ys.length ≤ 100000) :
    Calls Tryz.prog 5 #[.agg (mach m)] W fun e W' => e = .returned (.bool true) ∧ Dn W W' := by
  have hl := hm.len
  have hc := hm.core
  have hs : m.xs.length ≤ 600 := by simp only [decide_eq_true_eq] at hf; omega
  have hn : m.ys.length ≤ 600 := by simp only [decide_eq_true_eq] at hf; omega
  have C0 := Lib.hid fun w => fun (t : Env2 w) => awakeS w t
  have CF := Lib.hid fun w => fun (ow : m.Ok w) => rfew m true w ow hx hy hf
  clear hf
  have C1 := Lib.hid fun w => fun (ow : m.Ok w) (t : Env2 w) => stRunS m m.c m.xs m.ys false m.t rfl rfl rfl hh rfl r 4 v hk hv (by omega) (by omega) w ow t hr
  have C3 := Lib.hid fun w => fun (ow : m.Ok w) (t : Env2 w) => stRunN m m.c m.xs m.ys false m.t rfl rfl rfl hh rfl s 4 v hsk hsv (by omega) (by omega) w ow t hs_
  have C2 := Lib.hid fun w => fun (ow : m.Ok w) (t : Env2 w) => stRunC m m.c m.xs rfl rfl op rd ra rb imm 0 0 e1 e2 e3 e4 e5 e6 e7 (by omega) w ow t
  have CD := Lib.hid fun w => fun (ow : m.Ok w) => (by have h := rdue m w ow; rw [hd] at h; exact h : Calls Tryz.prog 22 #[.agg (mach m)] w fun e W' => e = .returned (.bool false) ∧ Dn w W')
  have CM := Lib.hid (rMay op rd ra rb imm true i0 i1 hmay)
  have CP := Lib.hid (rPrivi op false hp)
  clear hmay hp
  have CS := Lib.hid fun (w : World) (m1 m2 : Mc) (o1 : m1.Ok w) (o2 : m2.Ok w) (f1 : Sd r m1) (f2 : Sd s m2) => rsame_s w o1 o2 f1 f2 (by rw [ers]) (by rw [ers]) (by rw [ers]) (by rw [ers]) (by rw [ers]) zl.1 zl.2
  have qT := eqTrap_same 4 v
  clear hr hk hv hs_ hsk hsv hd e1 e2 e3 e4 e5 e6 e7
  have HD := Lib.hid (Dn.refl W)
  go_enter Tryz.func5, Tryz.ntmps5
  go_wp2_with (first | ((with_reducible refine wpList_box (vs := (mach m)) ?_ ?_ ?_); rfl; rfl; intro b_v1 w' nn; refine Hid.out ?_))
  refine Lib.hid ?_
  have HL_v1 : Hid (W.heap.size ≤ b_v1) := Lib.hid (Blk.hi nn HD.out.size)
  have d' := nn.dn
  replace HD := Lib.hid (HD.out.trans d')
  have v1 := nn.blk
  clear d' nn
  go_wp2_with (first | (go_at_call 9; (with_reducible refine (C0.out _ (T.dn HD.out)).mono ?_); rintro e w' ⟨rfl, d'⟩; refine Hid.out ?_))
  refine Lib.hid ?_
  replace v1 := v1.dn d'
  replace HD := Lib.hid (HD.out.trans d')
  clear d'
  go_wp2_with (first | ((with_reducible refine load33 v1 hl ?_ ?_ ?_); rfl; rfl) | (go_at_call 10; (with_reducible refine (CF.out _ (hm.dn HD.out)).mono ?_); rintro e w' ⟨rfl, d'⟩; refine Hid.out ?_))
  refine Lib.hid ?_
  replace v1 := v1.dn d'
  replace HD := Lib.hid (HD.out.trans d')
  clear d'
  have ck0 := v1.halted hl
  rw [hh] at ck0
  go_wp2_with (first | ((with_reducible refine load33 v1 hl ?_ ?_ ?_); rfl; rfl) | (go_at_call 15; (with_reducible refine (C2.out _ (hm.dn HD.out) (T.dn HD.out)).mono ?_); rintro e w' ⟨rfl, d'⟩; refine Hid.out ?_))
  refine Lib.hid ?_
  clear ck0
  replace v1 := v1.dn d'
  replace HD := Lib.hid (HD.out.trans d')
  clear d'
  go_wp2_with (first | ((with_reducible refine wpList_alloc zeroI ?_ ?_); rfl; intro b_v3 w' nn; refine Hid.out ?_))
  refine Lib.hid ?_
  have n_v1_v3 := Lib.hid (nn.ne _ v1.lt)
  have HL_v3 : Hid (W.heap.size ≤ b_v3) := Lib.hid (Blk.hi nn HD.out.size)
  have d' := nn.dn
  replace v1 := v1.dn d'
  replace HD := Lib.hid (HD.out.trans d')
  have v3 := nn.blk
  clear d' nn
  go_wp2_with (first | ((with_reducible refine wpList_alloc zeroTrap ?_ ?_); rfl; intro b_v4 w' nn; refine Hid.out ?_))
  refine Lib.hid ?_
  have n_v1_v4 := Lib.hid (nn.ne _ v1.lt)
  have n_v3_v4 := Lib.hid (nn.ne _ v3.lt)
  have HL_v4 : Hid (W.heap.size ≤ b_v4) := Lib.hid (Blk.hi nn HD.out.size)
  have d' := nn.dn
  replace v1 := v1.dn d'
  replace v3 := v3.dn d'
  replace HD := Lib.hid (HD.out.trans d')
  have v4 := nn.blk
  clear d' nn
  go_wp2_with (first | ((with_reducible refine storeI (op := op) (rd := rd) (ra := ra) (rb := rb) (imm := imm) v3 ?_ ?_ ?_ ?_); rfl; rfl; rfl; intro w' r' t'; refine Hid.out ?_))
  refine Lib.hid ?_
  replace v1 := v1.trn t' n_v1_v3.out
  replace v4 := v4.trn t' n_v3_v4.out.symm
  replace HD := Lib.hid (HD.out.trn HL_v3.out t')
  clear t' v3
  have v3 := r'
  clear r'
  go_wp2_with (first | ((with_reducible refine storeTrap (k := 0) (v := 0) v4 ?_ ?_ ?_ ?_); rfl; rfl; rfl; intro w' r' t'; refine Hid.out ?_))
  refine Lib.hid ?_
  replace v1 := v1.trn t' n_v1_v4.out
  replace v3 := v3.trn t' n_v3_v4.out
  replace HD := Lib.hid (HD.out.trn HL_v4.out t')
  clear t' v4
  have v4 := r'
  clear r'
  go_wp2_with (first | ((with_reducible refine load33 v1 hl ?_ ?_ ?_); rfl; rfl) | (go_at_call 11; (with_reducible refine (C1.out _ (hm.dn HD.out) (T.dn HD.out)).mono ?_); rintro e w' ⟨m1, rfl, o_m1, e_m1, d'⟩; refine Hid.out ?_))
  refine Lib.hid ?_
  replace v1 := v1.dn d'
  replace v3 := v3.dn d'
  replace v4 := v4.dn d'
  replace HD := Lib.hid (HD.out.trans d')
  clear d'
  have l_m1 := o_m1.out.len
  have o_m1 := Lib.hid o_m1.out
  go_wp2_with (first | ((with_reducible refine wpList_alloc zeroMach ?_ ?_); rfl; intro b_v5 w' nn; refine Hid.out ?_))
  refine Lib.hid ?_
  have n_v1_v5 := Lib.hid (nn.ne _ v1.lt)
  have n_v3_v5 := Lib.hid (nn.ne _ v3.lt)
  have n_v4_v5 := Lib.hid (nn.ne _ v4.lt)
  have HL_v5 : Hid (W.heap.size ≤ b_v5) := Lib.hid (Blk.hi nn HD.out.size)
  have d' := nn.dn
  replace v1 := v1.dn d'
  replace v3 := v3.dn d'
  replace v4 := v4.dn d'
  replace o_m1 := Lib.hid (o_m1.out.dn d')
  replace HD := Lib.hid (HD.out.trans d')
  have v5 := nn.blk
  clear d' nn
  go_wp2_with (first | ((with_reducible refine wpList_alloc zeroTrap ?_ ?_); rfl; intro b_v6 w' nn; refine Hid.out ?_))
  refine Lib.hid ?_
  have n_v1_v6 := Lib.hid (nn.ne _ v1.lt)
  have n_v3_v6 := Lib.hid (nn.ne _ v3.lt)
  have n_v4_v6 := Lib.hid (nn.ne _ v4.lt)
  have n_v5_v6 := Lib.hid (nn.ne _ v5.lt)
  have HL_v6 : Hid (W.heap.size ≤ b_v6) := Lib.hid (Blk.hi nn HD.out.size)
  have d' := nn.dn
  replace v1 := v1.dn d'
  replace v3 := v3.dn d'
  replace v4 := v4.dn d'
  replace v5 := v5.dn d'
  replace o_m1 := Lib.hid (o_m1.out.dn d')
  replace HD := Lib.hid (HD.out.trans d')
  have v6 := nn.blk
  clear d' nn
  go_wp2_with (first | ((with_reducible refine store33 m1 l_m1 v5 zlen ?_ ?_ ?_ ?_); rfl; rfl; rfl; intro w' r' t'; refine Hid.out ?_))
  refine Lib.hid ?_
  replace o_m1 := Lib.hid (o_m1.out.trn v5 (NoU8.mach _) t')
  replace v1 := v1.trn t' n_v1_v5.out
  replace v3 := v3.trn t' n_v3_v5.out
  replace v4 := v4.trn t' n_v4_v5.out
  replace v6 := v6.trn t' n_v5_v6.out.symm
  replace HD := Lib.hid (HD.out.trn HL_v5.out t')
  clear t' v5
  have v5 := r'
  clear r'
  go_wp2_with (first | ((with_reducible refine storeTrap (k := 4) (v := v) v6 ?_ ?_ ?_ ?_); rfl; rfl; rfl; intro w' r' t'; refine Hid.out ?_))
  refine Lib.hid ?_
  replace o_m1 := Lib.hid (o_m1.out.trn v6 (NoU8.trap _ _) t')
  replace v1 := v1.trn t' n_v1_v6.out
  replace v3 := v3.trn t' n_v3_v6.out
  replace v4 := v4.trn t' n_v4_v6.out
  replace v5 := v5.trn t' n_v5_v6.out
  replace HD := Lib.hid (HD.out.trn HL_v6.out t')
  clear t' v6
  have v6 := r'
  clear r'
  go_wp2_with (first | ((with_reducible refine load33 v1 hl ?_ ?_ ?_); rfl; rfl) | (go_at_call 13; (with_reducible refine (C3.out _ (hm.dn HD.out) (T.dn HD.out)).mono ?_); rintro e w' ⟨m2, rfl, o_m2, e_m2, d'⟩; refine Hid.out ?_))
  refine Lib.hid ?_
  replace v1 := v1.dn d'
  replace v3 := v3.dn d'
  replace v4 := v4.dn d'
  replace v5 := v5.dn d'
  replace v6 := v6.dn d'
  replace o_m1 := Lib.hid (o_m1.out.dn d')
  replace HD := Lib.hid (HD.out.trans d')
  clear d'
  have l_m2 := o_m2.out.len
  have o_m2 := Lib.hid o_m2.out
  go_wp2_with (first | ((with_reducible refine wpList_alloc zeroMach ?_ ?_); rfl; intro b_v7 w' nn; refine Hid.out ?_))
  refine Lib.hid ?_
  have n_v1_v7 := Lib.hid (nn.ne _ v1.lt)
  have n_v3_v7 := Lib.hid (nn.ne _ v3.lt)
  have n_v4_v7 := Lib.hid (nn.ne _ v4.lt)
  have n_v5_v7 := Lib.hid (nn.ne _ v5.lt)
  have n_v6_v7 := Lib.hid (nn.ne _ v6.lt)
  have HL_v7 : Hid (W.heap.size ≤ b_v7) := Lib.hid (Blk.hi nn HD.out.size)
  have d' := nn.dn
  replace v1 := v1.dn d'
  replace v3 := v3.dn d'
  replace v4 := v4.dn d'
  replace v5 := v5.dn d'
  replace v6 := v6.dn d'
  replace o_m1 := Lib.hid (o_m1.out.dn d')
  replace o_m2 := Lib.hid (o_m2.out.dn d')
  replace HD := Lib.hid (HD.out.trans d')
  have v7 := nn.blk
  clear d' nn
  go_wp2_with (first | ((with_reducible refine wpList_alloc zeroTrap ?_ ?_); rfl; intro b_v8 w' nn; refine Hid.out ?_))
  refine Lib.hid ?_
  have n_v1_v8 := Lib.hid (nn.ne _ v1.lt)
  have n_v3_v8 := Lib.hid (nn.ne _ v3.lt)
  have n_v4_v8 := Lib.hid (nn.ne _ v4.lt)
  have n_v5_v8 := Lib.hid (nn.ne _ v5.lt)
  have n_v6_v8 := Lib.hid (nn.ne _ v6.lt)
  have n_v7_v8 := Lib.hid (nn.ne _ v7.lt)
  have HL_v8 : Hid (W.heap.size ≤ b_v8) := Lib.hid (Blk.hi nn HD.out.size)
  have d' := nn.dn
  replace v1 := v1.dn d'
  replace v3 := v3.dn d'
  replace v4 := v4.dn d'
  replace v5 := v5.dn d'
  replace v6 := v6.dn d'
  replace v7 := v7.dn d'
  replace o_m1 := Lib.hid (o_m1.out.dn d')
  replace o_m2 := Lib.hid (o_m2.out.dn d')
  replace HD := Lib.hid (HD.out.trans d')
  have v8 := nn.blk
  clear d' nn
  go_wp2_with (first | ((with_reducible refine store33 m2 l_m2 v7 zlen ?_ ?_ ?_ ?_); rfl; rfl; rfl; intro w' r' t'; refine Hid.out ?_))
  refine Lib.hid ?_
  replace o_m1 := Lib.hid (o_m1.out.trn v7 (NoU8.mach _) t')
  replace o_m2 := Lib.hid (o_m2.out.trn v7 (NoU8.mach _) t')
  replace v1 := v1.trn t' n_v1_v7.out
  replace v3 := v3.trn t' n_v3_v7.out
  replace v4 := v4.trn t' n_v4_v7.out
  replace v5 := v5.trn t' n_v5_v7.out
  replace v6 := v6.trn t' n_v6_v7.out
  replace v8 := v8.trn t' n_v7_v8.out.symm
  replace HD := Lib.hid (HD.out.trn HL_v7.out t')
  clear t' v7
  have v7 := r'
  clear r'
  go_wp2_with (first | ((with_reducible refine storeTrap (k := 4) (v := v) v8 ?_ ?_ ?_ ?_); rfl; rfl; rfl; intro w' r' t'; refine Hid.out ?_))
  refine Lib.hid ?_
  replace o_m1 := Lib.hid (o_m1.out.trn v8 (NoU8.trap _ _) t')
  replace o_m2 := Lib.hid (o_m2.out.trn v8 (NoU8.trap _ _) t')
  replace v1 := v1.trn t' n_v1_v8.out
  replace v3 := v3.trn t' n_v3_v8.out
  replace v4 := v4.trn t' n_v4_v8.out
  replace v5 := v5.trn t' n_v5_v8.out
  replace v6 := v6.trn t' n_v6_v8.out
  replace v7 := v7.trn t' n_v7_v8.out
  replace HD := Lib.hid (HD.out.trn HL_v8.out t')
  clear t' v8
  have v8 := r'
  clear r'
  have ck0 := v4.cell (i := 0) (v := .int .i64 0) rfl
  go_wp2_with (first | ((with_reducible refine loadI v3 ?_ ?_ ?_); rfl; rfl) | (go_at_call 20; (with_reducible refine (CM.out _).mono ?_); rintro e w' ⟨rfl, d'⟩; refine Hid.out ?_))
  refine Lib.hid ?_
  clear ck0
  replace v1 := v1.dn d'
  replace v3 := v3.dn d'
  replace v4 := v4.dn d'
  replace v5 := v5.dn d'
  replace v6 := v6.dn d'
  replace v7 := v7.dn d'
  replace v8 := v8.dn d'
  replace o_m1 := Lib.hid (o_m1.out.dn d')
  replace o_m2 := Lib.hid (o_m2.out.dn d')
  replace HD := Lib.hid (HD.out.trans d')
  clear d'
  have ck0 := v3.iop
  go_wp2_with (first | (go_at_call 21; (with_reducible refine (CP.out _).mono ?_); rintro e w' ⟨rfl, d'⟩; refine Hid.out ?_))
  refine Lib.hid ?_
  clear ck0
  replace v1 := v1.dn d'
  replace v3 := v3.dn d'
  replace v4 := v4.dn d'
  replace v5 := v5.dn d'
  replace v6 := v6.dn d'
  replace v7 := v7.dn d'
  replace v8 := v8.dn d'
  replace o_m1 := Lib.hid (o_m1.out.dn d')
  replace o_m2 := Lib.hid (o_m2.out.dn d')
  replace HD := Lib.hid (HD.out.trans d')
  clear d'
  have ck0 := v4.cell (i := 0) (v := .int .i64 0) rfl
  go_wp2_with (first | ((with_reducible refine load33 v1 hl ?_ ?_ ?_); rfl; rfl) | (go_at_call 22; (with_reducible refine (CD.out _ (hm.dn HD.out)).mono ?_); rintro e w' ⟨rfl, d'⟩; refine Hid.out ?_))
  refine Lib.hid ?_
  clear ck0
  replace v1 := v1.dn d'
  replace v3 := v3.dn d'
  replace v4 := v4.dn d'
  replace v5 := v5.dn d'
  replace v6 := v6.dn d'
  replace v7 := v7.dn d'
  replace v8 := v8.dn d'
  replace o_m1 := Lib.hid (o_m1.out.dn d')
  replace o_m2 := Lib.hid (o_m2.out.dn d')
  replace HD := Lib.hid (HD.out.trans d')
  clear d'
  go_wp2_with (first | ((with_reducible refine load33 v5 l_m1 ?_ ?_ ?_); rfl; rfl) | ((with_reducible refine load33 v7 l_m2 ?_ ?_ ?_); rfl; rfl) | (go_at_call 17; (with_reducible refine (CS.out _ m1 m2 o_m1.out o_m2.out e_m1.out e_m2.out).mono ?_); rintro e w' ⟨rfl, d'⟩; refine Hid.out ?_))
  refine Lib.hid ?_
  replace v1 := v1.dn d'
  replace v3 := v3.dn d'
  replace v4 := v4.dn d'
  replace v5 := v5.dn d'
  replace v6 := v6.dn d'
  replace v7 := v7.dn d'
  replace v8 := v8.dn d'
  replace o_m1 := Lib.hid (o_m1.out.dn d')
  replace o_m2 := Lib.hid (o_m2.out.dn d')
  replace HD := Lib.hid (HD.out.trans d')
  clear d'
  have ck0 := v6.cell (i := 0) (v := .int .i64 4) rfl
  have ck1 := v4.cell (i := 0) (v := .int .i64 0) rfl
  go_wp2_with (first | ((with_reducible refine loadTrap v6 ?_ ?_ ?_); rfl; rfl) | ((with_reducible refine loadTrap v8 ?_ ?_ ?_); rfl; rfl) | fail)
  go_ret
  exact ⟨rfl, HD.out⟩
set_option maxRecDepth 100000 in
set_option maxHeartbeats 2000000 in
theorem stp_gn5 (m : Mc) (W : World) (hm : m.Ok W) (T : Env2 W) (hx : m.xs.length ≤ 9223372036854775807) (hy : m.ys.length ≤ 9223372036854775807) (hf : decide (m.xs.length ≤ 600 ∧ m.ys.length ≤ 600) = true) (hh : m.h = false) (r s : M.SRes) (op rd ra rb imm v : Int) (hr : M.stS m.c m.xs m.ys false m.t = r) (hk : r.k = 5) (hv : r.v = v) (hs_ : M.stn m.c m.xs m.ys false m.t = s) (hsk : s.k = 5) (hsv : s.v = v) (e1 : M.nw Is.M.dOp m.c m.xs = op) (e2 : M.nw Is.M.dRd m.c m.xs = rd) (e3 : M.nw Is.M.dRa m.c m.xs = ra) (e4 : M.nw Is.M.dRb m.c m.xs = rb) (e5 : M.nw Is.M.dImm m.c m.xs = imm) (e6 : M.nowK m.c m.xs = 0) (e7 : M.nowV m.c m.xs = 0) (hd : M.due m.c m.t = false) (i0 : -2147483648 ≤ imm) (i1 : imm < 2147483648) (hmay : Is.M.ok op rd ra rb imm = true) (hp : Is.M.priv op = false) (ers : r = s) (zl : r.z.length ≤ 100000 ∧ r.ys.length ≤ 100000) :
    Calls Tryz.prog 5 #[.agg (mach m)] W fun e W' => e = .returned (.bool true) ∧ Dn W W' := by
  have hl := hm.len
  have hc := hm.core
  have hs : m.xs.length ≤ 600 := by simp only [decide_eq_true_eq] at hf; omega
  have hn : m.ys.length ≤ 600 := by simp only [decide_eq_true_eq] at hf; omega
  have C0 := Lib.hid fun w => fun (t : Env2 w) => awakeS w t
  have CF := Lib.hid fun w => fun (ow : m.Ok w) => rfew m true w ow hx hy hf
  clear hf
  have C1 := Lib.hid fun w => fun (ow : m.Ok w) (t : Env2 w) => stRunS m m.c m.xs m.ys false m.t rfl rfl rfl hh rfl r 5 v hk hv (by omega) (by omega) w ow t hr
  have C3 := Lib.hid fun w => fun (ow : m.Ok w) (t : Env2 w) => stRunN m m.c m.xs m.ys false m.t rfl rfl rfl hh rfl s 5 v hsk hsv (by omega) (by omega) w ow t hs_
  have C2 := Lib.hid fun w => fun (ow : m.Ok w) (t : Env2 w) => stRunC m m.c m.xs rfl rfl op rd ra rb imm 0 0 e1 e2 e3 e4 e5 e6 e7 (by omega) w ow t
  have CD := Lib.hid fun w => fun (ow : m.Ok w) => (by have h := rdue m w ow; rw [hd] at h; exact h : Calls Tryz.prog 22 #[.agg (mach m)] w fun e W' => e = .returned (.bool false) ∧ Dn w W')
  have CM := Lib.hid (rMay op rd ra rb imm true i0 i1 hmay)
  have CP := Lib.hid (rPrivi op false hp)
  clear hmay hp
  have CS := Lib.hid fun (w : World) (m1 m2 : Mc) (o1 : m1.Ok w) (o2 : m2.Ok w) (f1 : Sd r m1) (f2 : Sd s m2) => rsame_s w o1 o2 f1 f2 (by rw [ers]) (by rw [ers]) (by rw [ers]) (by rw [ers]) (by rw [ers]) zl.1 zl.2
  have qT := eqTrap_same 5 v
  clear hr hk hv hs_ hsk hsv hd e1 e2 e3 e4 e5 e6 e7
  have HD := Lib.hid (Dn.refl W)
  go_enter Tryz.func5, Tryz.ntmps5
  go_wp2_with (first | ((with_reducible refine wpList_box (vs := (mach m)) ?_ ?_ ?_); rfl; rfl; intro b_v1 w' nn; refine Hid.out ?_))
  refine Lib.hid ?_
  have HL_v1 : Hid (W.heap.size ≤ b_v1) := Lib.hid (Blk.hi nn HD.out.size)
  have d' := nn.dn
  replace HD := Lib.hid (HD.out.trans d')
  have v1 := nn.blk
  clear d' nn
  go_wp2_with (first | (go_at_call 9; (with_reducible refine (C0.out _ (T.dn HD.out)).mono ?_); rintro e w' ⟨rfl, d'⟩; refine Hid.out ?_))
  refine Lib.hid ?_
  replace v1 := v1.dn d'
  replace HD := Lib.hid (HD.out.trans d')
  clear d'
  go_wp2_with (first | ((with_reducible refine load33 v1 hl ?_ ?_ ?_); rfl; rfl) | (go_at_call 10; (with_reducible refine (CF.out _ (hm.dn HD.out)).mono ?_); rintro e w' ⟨rfl, d'⟩; refine Hid.out ?_))
  refine Lib.hid ?_
  replace v1 := v1.dn d'
  replace HD := Lib.hid (HD.out.trans d')
  clear d'
  have ck0 := v1.halted hl
  rw [hh] at ck0
  go_wp2_with (first | ((with_reducible refine load33 v1 hl ?_ ?_ ?_); rfl; rfl) | (go_at_call 15; (with_reducible refine (C2.out _ (hm.dn HD.out) (T.dn HD.out)).mono ?_); rintro e w' ⟨rfl, d'⟩; refine Hid.out ?_))
  refine Lib.hid ?_
  clear ck0
  replace v1 := v1.dn d'
  replace HD := Lib.hid (HD.out.trans d')
  clear d'
  go_wp2_with (first | ((with_reducible refine wpList_alloc zeroI ?_ ?_); rfl; intro b_v3 w' nn; refine Hid.out ?_))
  refine Lib.hid ?_
  have n_v1_v3 := Lib.hid (nn.ne _ v1.lt)
  have HL_v3 : Hid (W.heap.size ≤ b_v3) := Lib.hid (Blk.hi nn HD.out.size)
  have d' := nn.dn
  replace v1 := v1.dn d'
  replace HD := Lib.hid (HD.out.trans d')
  have v3 := nn.blk
  clear d' nn
  go_wp2_with (first | ((with_reducible refine wpList_alloc zeroTrap ?_ ?_); rfl; intro b_v4 w' nn; refine Hid.out ?_))
  refine Lib.hid ?_
  have n_v1_v4 := Lib.hid (nn.ne _ v1.lt)
  have n_v3_v4 := Lib.hid (nn.ne _ v3.lt)
  have HL_v4 : Hid (W.heap.size ≤ b_v4) := Lib.hid (Blk.hi nn HD.out.size)
  have d' := nn.dn
  replace v1 := v1.dn d'
  replace v3 := v3.dn d'
  replace HD := Lib.hid (HD.out.trans d')
  have v4 := nn.blk
  clear d' nn
  go_wp2_with (first | ((with_reducible refine storeI (op := op) (rd := rd) (ra := ra) (rb := rb) (imm := imm) v3 ?_ ?_ ?_ ?_); rfl; rfl; rfl; intro w' r' t'; refine Hid.out ?_))
  refine Lib.hid ?_
  replace v1 := v1.trn t' n_v1_v3.out
  replace v4 := v4.trn t' n_v3_v4.out.symm
  replace HD := Lib.hid (HD.out.trn HL_v3.out t')
  clear t' v3
  have v3 := r'
  clear r'
  go_wp2_with (first | ((with_reducible refine storeTrap (k := 0) (v := 0) v4 ?_ ?_ ?_ ?_); rfl; rfl; rfl; intro w' r' t'; refine Hid.out ?_))
  refine Lib.hid ?_
  replace v1 := v1.trn t' n_v1_v4.out
  replace v3 := v3.trn t' n_v3_v4.out
  replace HD := Lib.hid (HD.out.trn HL_v4.out t')
  clear t' v4
  have v4 := r'
  clear r'
  go_wp2_with (first | ((with_reducible refine load33 v1 hl ?_ ?_ ?_); rfl; rfl) | (go_at_call 11; (with_reducible refine (C1.out _ (hm.dn HD.out) (T.dn HD.out)).mono ?_); rintro e w' ⟨m1, rfl, o_m1, e_m1, d'⟩; refine Hid.out ?_))
  refine Lib.hid ?_
  replace v1 := v1.dn d'
  replace v3 := v3.dn d'
  replace v4 := v4.dn d'
  replace HD := Lib.hid (HD.out.trans d')
  clear d'
  have l_m1 := o_m1.out.len
  have o_m1 := Lib.hid o_m1.out
  go_wp2_with (first | ((with_reducible refine wpList_alloc zeroMach ?_ ?_); rfl; intro b_v5 w' nn; refine Hid.out ?_))
  refine Lib.hid ?_
  have n_v1_v5 := Lib.hid (nn.ne _ v1.lt)
  have n_v3_v5 := Lib.hid (nn.ne _ v3.lt)
  have n_v4_v5 := Lib.hid (nn.ne _ v4.lt)
  have HL_v5 : Hid (W.heap.size ≤ b_v5) := Lib.hid (Blk.hi nn HD.out.size)
  have d' := nn.dn
  replace v1 := v1.dn d'
  replace v3 := v3.dn d'
  replace v4 := v4.dn d'
  replace o_m1 := Lib.hid (o_m1.out.dn d')
  replace HD := Lib.hid (HD.out.trans d')
  have v5 := nn.blk
  clear d' nn
  go_wp2_with (first | ((with_reducible refine wpList_alloc zeroTrap ?_ ?_); rfl; intro b_v6 w' nn; refine Hid.out ?_))
  refine Lib.hid ?_
  have n_v1_v6 := Lib.hid (nn.ne _ v1.lt)
  have n_v3_v6 := Lib.hid (nn.ne _ v3.lt)
  have n_v4_v6 := Lib.hid (nn.ne _ v4.lt)
  have n_v5_v6 := Lib.hid (nn.ne _ v5.lt)
  have HL_v6 : Hid (W.heap.size ≤ b_v6) := Lib.hid (Blk.hi nn HD.out.size)
  have d' := nn.dn
  replace v1 := v1.dn d'
  replace v3 := v3.dn d'
  replace v4 := v4.dn d'
  replace v5 := v5.dn d'
  replace o_m1 := Lib.hid (o_m1.out.dn d')
  replace HD := Lib.hid (HD.out.trans d')
  have v6 := nn.blk
  clear d' nn
  go_wp2_with (first | ((with_reducible refine store33 m1 l_m1 v5 zlen ?_ ?_ ?_ ?_); rfl; rfl; rfl; intro w' r' t'; refine Hid.out ?_))
  refine Lib.hid ?_
  replace o_m1 := Lib.hid (o_m1.out.trn v5 (NoU8.mach _) t')
  replace v1 := v1.trn t' n_v1_v5.out
  replace v3 := v3.trn t' n_v3_v5.out
  replace v4 := v4.trn t' n_v4_v5.out
  replace v6 := v6.trn t' n_v5_v6.out.symm
  replace HD := Lib.hid (HD.out.trn HL_v5.out t')
  clear t' v5
  have v5 := r'
  clear r'
  go_wp2_with (first | ((with_reducible refine storeTrap (k := 5) (v := v) v6 ?_ ?_ ?_ ?_); rfl; rfl; rfl; intro w' r' t'; refine Hid.out ?_))
  refine Lib.hid ?_
  replace o_m1 := Lib.hid (o_m1.out.trn v6 (NoU8.trap _ _) t')
  replace v1 := v1.trn t' n_v1_v6.out
  replace v3 := v3.trn t' n_v3_v6.out
  replace v4 := v4.trn t' n_v4_v6.out
  replace v5 := v5.trn t' n_v5_v6.out
  replace HD := Lib.hid (HD.out.trn HL_v6.out t')
  clear t' v6
  have v6 := r'
  clear r'
  go_wp2_with (first | ((with_reducible refine load33 v1 hl ?_ ?_ ?_); rfl; rfl) | (go_at_call 13; (with_reducible refine (C3.out _ (hm.dn HD.out) (T.dn HD.out)).mono ?_); rintro e w' ⟨m2, rfl, o_m2, e_m2, d'⟩; refine Hid.out ?_))
  refine Lib.hid ?_
  replace v1 := v1.dn d'
  replace v3 := v3.dn d'
  replace v4 := v4.dn d'
  replace v5 := v5.dn d'
  replace v6 := v6.dn d'
  replace o_m1 := Lib.hid (o_m1.out.dn d')
  replace HD := Lib.hid (HD.out.trans d')
  clear d'
  have l_m2 := o_m2.out.len
  have o_m2 := Lib.hid o_m2.out
  go_wp2_with (first | ((with_reducible refine wpList_alloc zeroMach ?_ ?_); rfl; intro b_v7 w' nn; refine Hid.out ?_))
  refine Lib.hid ?_
  have n_v1_v7 := Lib.hid (nn.ne _ v1.lt)
  have n_v3_v7 := Lib.hid (nn.ne _ v3.lt)
  have n_v4_v7 := Lib.hid (nn.ne _ v4.lt)
  have n_v5_v7 := Lib.hid (nn.ne _ v5.lt)
  have n_v6_v7 := Lib.hid (nn.ne _ v6.lt)
  have HL_v7 : Hid (W.heap.size ≤ b_v7) := Lib.hid (Blk.hi nn HD.out.size)
  have d' := nn.dn
  replace v1 := v1.dn d'
  replace v3 := v3.dn d'
  replace v4 := v4.dn d'
  replace v5 := v5.dn d'
  replace v6 := v6.dn d'
  replace o_m1 := Lib.hid (o_m1.out.dn d')
  replace o_m2 := Lib.hid (o_m2.out.dn d')
  replace HD := Lib.hid (HD.out.trans d')
  have v7 := nn.blk
  clear d' nn
  go_wp2_with (first | ((with_reducible refine wpList_alloc zeroTrap ?_ ?_); rfl; intro b_v8 w' nn; refine Hid.out ?_))
  refine Lib.hid ?_
  have n_v1_v8 := Lib.hid (nn.ne _ v1.lt)
  have n_v3_v8 := Lib.hid (nn.ne _ v3.lt)
  have n_v4_v8 := Lib.hid (nn.ne _ v4.lt)
  have n_v5_v8 := Lib.hid (nn.ne _ v5.lt)
  have n_v6_v8 := Lib.hid (nn.ne _ v6.lt)
  have n_v7_v8 := Lib.hid (nn.ne _ v7.lt)
  have HL_v8 : Hid (W.heap.size ≤ b_v8) := Lib.hid (Blk.hi nn HD.out.size)
  have d' := nn.dn
  replace v1 := v1.dn d'
  replace v3 := v3.dn d'
  replace v4 := v4.dn d'
  replace v5 := v5.dn d'
  replace v6 := v6.dn d'
  replace v7 := v7.dn d'
  replace o_m1 := Lib.hid (o_m1.out.dn d')
  replace o_m2 := Lib.hid (o_m2.out.dn d')
  replace HD := Lib.hid (HD.out.trans d')
  have v8 := nn.blk
  clear d' nn
  go_wp2_with (first | ((with_reducible refine store33 m2 l_m2 v7 zlen ?_ ?_ ?_ ?_); rfl; rfl; rfl; intro w' r' t'; refine Hid.out ?_))
  refine Lib.hid ?_
  replace o_m1 := Lib.hid (o_m1.out.trn v7 (NoU8.mach _) t')
  replace o_m2 := Lib.hid (o_m2.out.trn v7 (NoU8.mach _) t')
  replace v1 := v1.trn t' n_v1_v7.out
  replace v3 := v3.trn t' n_v3_v7.out
  replace v4 := v4.trn t' n_v4_v7.out
  replace v5 := v5.trn t' n_v5_v7.out
  replace v6 := v6.trn t' n_v6_v7.out
  replace v8 := v8.trn t' n_v7_v8.out.symm
  replace HD := Lib.hid (HD.out.trn HL_v7.out t')
  clear t' v7
  have v7 := r'
  clear r'
  go_wp2_with (first | ((with_reducible refine storeTrap (k := 5) (v := v) v8 ?_ ?_ ?_ ?_); rfl; rfl; rfl; intro w' r' t'; refine Hid.out ?_))
  refine Lib.hid ?_
  replace o_m1 := Lib.hid (o_m1.out.trn v8 (NoU8.trap _ _) t')
  replace o_m2 := Lib.hid (o_m2.out.trn v8 (NoU8.trap _ _) t')
  replace v1 := v1.trn t' n_v1_v8.out
  replace v3 := v3.trn t' n_v3_v8.out
  replace v4 := v4.trn t' n_v4_v8.out
  replace v5 := v5.trn t' n_v5_v8.out
  replace v6 := v6.trn t' n_v6_v8.out
  replace v7 := v7.trn t' n_v7_v8.out
  replace HD := Lib.hid (HD.out.trn HL_v8.out t')
  clear t' v8
  have v8 := r'
  clear r'
  have ck0 := v4.cell (i := 0) (v := .int .i64 0) rfl
  go_wp2_with (first | ((with_reducible refine loadI v3 ?_ ?_ ?_); rfl; rfl) | (go_at_call 20; (with_reducible refine (CM.out _).mono ?_); rintro e w' ⟨rfl, d'⟩; refine Hid.out ?_))
  refine Lib.hid ?_
  clear ck0
  replace v1 := v1.dn d'
  replace v3 := v3.dn d'
  replace v4 := v4.dn d'
  replace v5 := v5.dn d'
  replace v6 := v6.dn d'
  replace v7 := v7.dn d'
  replace v8 := v8.dn d'
  replace o_m1 := Lib.hid (o_m1.out.dn d')
  replace o_m2 := Lib.hid (o_m2.out.dn d')
  replace HD := Lib.hid (HD.out.trans d')
  clear d'
  have ck0 := v3.iop
  go_wp2_with (first | (go_at_call 21; (with_reducible refine (CP.out _).mono ?_); rintro e w' ⟨rfl, d'⟩; refine Hid.out ?_))
  refine Lib.hid ?_
  clear ck0
  replace v1 := v1.dn d'
  replace v3 := v3.dn d'
  replace v4 := v4.dn d'
  replace v5 := v5.dn d'
  replace v6 := v6.dn d'
  replace v7 := v7.dn d'
  replace v8 := v8.dn d'
  replace o_m1 := Lib.hid (o_m1.out.dn d')
  replace o_m2 := Lib.hid (o_m2.out.dn d')
  replace HD := Lib.hid (HD.out.trans d')
  clear d'
  have ck0 := v4.cell (i := 0) (v := .int .i64 0) rfl
  go_wp2_with (first | ((with_reducible refine load33 v1 hl ?_ ?_ ?_); rfl; rfl) | (go_at_call 22; (with_reducible refine (CD.out _ (hm.dn HD.out)).mono ?_); rintro e w' ⟨rfl, d'⟩; refine Hid.out ?_))
  refine Lib.hid ?_
  clear ck0
  replace v1 := v1.dn d'
  replace v3 := v3.dn d'
  replace v4 := v4.dn d'
  replace v5 := v5.dn d'
  replace v6 := v6.dn d'
  replace v7 := v7.dn d'
  replace v8 := v8.dn d'
  replace o_m1 := Lib.hid (o_m1.out.dn d')
  replace o_m2 := Lib.hid (o_m2.out.dn d')
  replace HD := Lib.hid (HD.out.trans d')
  clear d'
  go_wp2_with (first | ((with_reducible refine load33 v5 l_m1 ?_ ?_ ?_); rfl; rfl) | ((with_reducible refine load33 v7 l_m2 ?_ ?_ ?_); rfl; rfl) | (go_at_call 17; (with_reducible refine (CS.out _ m1 m2 o_m1.out o_m2.out e_m1.out e_m2.out).mono ?_); rintro e w' ⟨rfl, d'⟩; refine Hid.out ?_))
  refine Lib.hid ?_
  replace v1 := v1.dn d'
  replace v3 := v3.dn d'
  replace v4 := v4.dn d'
  replace v5 := v5.dn d'
  replace v6 := v6.dn d'
  replace v7 := v7.dn d'
  replace v8 := v8.dn d'
  replace o_m1 := Lib.hid (o_m1.out.dn d')
  replace o_m2 := Lib.hid (o_m2.out.dn d')
  replace HD := Lib.hid (HD.out.trans d')
  clear d'
  have ck0 := v6.cell (i := 0) (v := .int .i64 5) rfl
  have ck1 := v4.cell (i := 0) (v := .int .i64 0) rfl
  go_wp2_with (first | ((with_reducible refine loadTrap v6 ?_ ?_ ?_); rfl; rfl) | ((with_reducible refine loadTrap v8 ?_ ?_ ?_); rfl; rfl) | fail)
  go_ret
  exact ⟨rfl, HD.out⟩
end Go.Proofs.YtjbnflalngjfaaaGreatDoor
namespace Go.Proofs.YtjbnflalngjfaaaGreatDoor
open Go.ChangeShapes Go.WideShapes Go.ChangeAt Go.RowKit Go.Sort
set_option linter.unusedVariables false

theorem stpWalk (m : Mc) (W : World) (hm : m.Ok W) (T : Env2 W) (hx : m.xs.length ≤ 9223372036854775807) (hy : m.ys.length ≤ 9223372036854775807) : Calls Tryz.prog 5 #[.agg (mach m)] W fun e W' => e = .returned (.bool true) ∧ Dn W W' := by
  cases hf : decide (m.xs.length ≤ 600 ∧ m.ys.length ≤ 600)
  · exact stp_few m W hm T hx hy hf
  · cases hh : m.h
    · have hc := hm.core
      have hw := fw_rng hm
      have hsn : m.xs.length ≤ 600 ∧ m.ys.length ≤ 600 := by simpa using hf
      have L := M.stS_len m.c m.xs m.ys false m.t
      have n4 := M.nowK_vals m.c m.xs
      by_cases hk : M.nowK m.c m.xs = 0
      · have hv := M.nowV_zero hk
        have hd0 := M.nowK_dok hk
        have hok := M.dok_ok hd0
        have hi := Is.dImm_rng (M.fw m.c m.xs)
        have g1 := M.nw_go Is.M.dOp hk
        have g2 := M.nw_go Is.M.dRd hk
        have g3 := M.nw_go Is.M.dRa hk
        have g4 := M.nw_go Is.M.dRb hk
        have g5 := M.nw_go Is.M.dImm hk
        cases hp : Is.M.priv (Is.M.dOp (M.fw m.c m.xs))
        · have es := M.stp_plain (ys := m.ys) (h := false) (t := m.t) hk hp
          have k5 := M.ex_k m.c m.xs (Is.M.dOp (M.fw m.c m.xs)) (Is.M.dRd (M.fw m.c m.xs)) (Is.M.dRa (M.fw m.c m.xs)) (Is.M.dRb (M.fw m.c m.xs)) (Is.M.dImm (M.fw m.c m.xs))
          have ekk : (M.stn m.c m.xs m.ys false m.t).k = (M.ex m.c m.xs (Is.M.dOp (M.fw m.c m.xs)) (Is.M.dRd (M.fw m.c m.xs)) (Is.M.dRa (M.fw m.c m.xs)) (Is.M.dRb (M.fw m.c m.xs)) (Is.M.dImm (M.fw m.c m.xs))).k := by rw [M.stn_on, es]
          have evv : (M.stn m.c m.xs m.ys false m.t).v = (M.ex m.c m.xs (Is.M.dOp (M.fw m.c m.xs)) (Is.M.dRd (M.fw m.c m.xs)) (Is.M.dRa (M.fw m.c m.xs)) (Is.M.dRb (M.fw m.c m.xs)) (Is.M.dImm (M.fw m.c m.xs))).v := by rw [M.stn_on, es]
          cases hd : M.due m.c m.t
          · have e := M.stS_not (xs := m.xs) (ys := m.ys) (h := false) hd
            rcases k5 with h0 | h0 | h0 | h0
            · have v0 := M.ex_v0 h0
              exact stp_gn0 m W hm T hx hy hf hh _ _ _ _ _ _ _ rfl (by rw [e, ekk, h0]) (by rw [e, evv, v0]) rfl (by rw [ekk, h0]) (by rw [evv, v0]) g1 g2 g3 g4 g5 hk hv hd hi.1 hi.2 hok hp e (by omega)
            · exact stp_gn3 m W hm T hx hy hf hh _ _ _ _ _ _ _ _ rfl (by rw [e, ekk, h0]) (by rw [e]) rfl (by rw [ekk, h0]) rfl g1 g2 g3 g4 g5 hk hv hd hi.1 hi.2 hok hp e (by omega)
            · exact stp_gn4 m W hm T hx hy hf hh _ _ _ _ _ _ _ _ rfl (by rw [e, ekk, h0]) (by rw [e]) rfl (by rw [ekk, h0]) rfl g1 g2 g3 g4 g5 hk hv hd hi.1 hi.2 hok hp e (by omega)
            · exact stp_gn5 m W hm T hx hy hf hh _ _ _ _ _ _ _ _ rfl (by rw [e, ekk, h0]) (by rw [e]) rfl (by rw [ekk, h0]) rfl g1 g2 g3 g4 g5 hk hv hd hi.1 hi.2 hok hp e (by omega)
          · exact stp_gdn m W hm T hx hy hf hh _ _ _ _ _ _ _ _ _ rfl (by rw [M.stS_due hd]) (by rw [M.stS_due hd]) rfl rfl rfl g1 g2 g3 g4 g5 hk hv hd hi.1 hi.2 hok hp
        · have hsu := M.nowK_sup hk hp
          have es := M.stp_priv (ys := m.ys) (h := false) (t := m.t) hk hp
          have ek0 : (M.stn m.c m.xs m.ys false m.t).k = 0 := by rw [M.stn_on, es]
          have ev0 : (M.stn m.c m.xs m.ys false m.t).v = 0 := by rw [M.stn_on, es]
          cases hd : M.due m.c m.t
          · have e := M.stS_not (xs := m.xs) (ys := m.ys) (h := false) hd
            exact stp_gnp m W hm T hx hy hf hh _ _ _ _ _ _ _ rfl (by rw [e, ek0]) (by rw [e, ev0]) rfl ek0 ev0 g1 g2 g3 g4 g5 hk hv hd hi.1 hi.2 hok hp hsu e (by omega)
          · exact stp_gdp m W hm T hx hy hf hh _ _ _ _ _ _ _ rfl (by rw [M.stS_due hd]) (by rw [M.stS_due hd]) rfl ek0 ev0 g1 g2 g3 g4 g5 hk hv hd hi.1 hi.2 hok hp hsu
      · have es := M.stp_trap (ys := m.ys) (h := false) (t := m.t) hk
        have ekk : (M.stn m.c m.xs m.ys false m.t).k = M.nowK m.c m.xs := by rw [M.stn_on, es]
        have evv : (M.stn m.c m.xs m.ys false m.t).v = M.nowV m.c m.xs := by rw [M.stn_on, es]
        have g1 := M.nw_no Is.M.dOp hk
        have g2 := M.nw_no Is.M.dRd hk
        have g3 := M.nw_no Is.M.dRa hk
        have g4 := M.nw_no Is.M.dRb hk
        have g5 := M.nw_no Is.M.dImm hk
        cases hd : M.due m.c m.t
        · have e := M.stS_not (xs := m.xs) (ys := m.ys) (h := false) hd
          exact stp_tn m W hm T hx hy hf hh _ _ _ _ rfl (by rw [e, ekk]) (by rw [e, evv]) rfl ekk evv g1 g2 g3 g4 g5 rfl rfl hd hk (by omega) e (by omega)
        · exact stp_td m W hm T hx hy hf hh _ _ _ _ rfl (by rw [M.stS_due hd]) (by rw [M.stS_due hd]) rfl ekk evv g1 g2 g3 g4 g5 rfl rfl hd hk (by omega)
    · exact stp_h m W hm T hx hy hf hh
end Go.Proofs.YtjbnflalngjfaaaGreatDoor
namespace Go.Proofs.YtjbnflalngjfaaaGreatDoor.stepTrapPriority
open Go.ChangeShapes Go.WideShapes Go.ChangeAt Go.RowKit
set_option linter.unusedVariables false


theorem readable : ∀ t ∈ Tryz.f5.params.toList, Tryz.prog.readableRec t = true ∧ t < Tryz.prog.types.size := by
  rw [Tryz.params5]
  intro t ht
  have hall : ([30].all fun t => Tryz.prog.readableRec t && decide (t < Tryz.prog.types.size)) = true := by kernel_rfl
  have h := List.all_eq_true.1 hall t ht
  simp only [Bool.and_eq_true, decide_eq_true_eq] at h
  exact h

theorem said (H : Type) (ds : List (DataW H)) (hl : ds.length = Tryz.f5.params.size) : (Rows.stepTrapPrioritySpec.fn H ds).results = [.lit (.bool true)] ∧ (Rows.stepTrapPrioritySpec.fn H ds).args = ds ∧ (Rows.stepTrapPrioritySpec.fn H ds).vars = [] := by
  rw [Tryz.params5] at hl
  match ds, hl with
  | [d0], _ => exact ⟨rfl, rfl, rfl⟩

set_option maxRecDepth 100000 in
theorem walk {H : Type} {enc : TypeId × Value → H} (W : World) (base : Nat) (args : Array Value) (ds : List (DataW H)) (ps : List MemPlace) (E : Env W)
    (hval : ∀ (j : Nat) t v, Tryz.f5.params[j]? = some t → args[j]? = some v → Value.okWide Tryz.prog W .any base t v)
    (hA : DataW.TrodAll enc Tryz.prog W 0 (fun _ => true) true Tryz.f5.params.toList args.toList ds ps) :
    Calls Tryz.prog 5 args W fun e W' => e = .returned (.bool true) ∧ Dn W W' := by
  rw [Tryz.params5] at hA hval
  obtain ⟨v0, vs0, d0, ds0, p0, q0, hargs, rfl, rfl, h0, r0⟩ := trodAll_cons hA
  obtain ⟨rfl, rfl, rfl⟩ := trodAll_nil r0
  obtain rfl : args = #[v0] := by cases args; simp_all
  obtain ⟨m0, rfl, o0, l0, y0⟩ := open33 (hval 0 30 v0 rfl rfl) h0
  exact stpWalk m0 W o0 E.two  l0 y0  

set_option maxRecDepth 100000 in
theorem lifted (os : Os) (started : os.Started) (H : Type) (enc : TypeId × Value → H) :
    ReturnsInHanded {} Tryz.checked os 5 .any (fun w args => (Rows.stepTrapPrioritySpec.pre enc Tryz.prog Tryz.f5 [] false w args ∧ laidMetH Tryz.prog laidL w) ∧ sizedMet enc Tryz.prog Tryz.f5 (OpenSpec.ofChange Rows.stepTrapPrioritySpec) false w args)
      (Rows.stepTrapPrioritySpec.post enc Tryz.prog Tryz.f5 false true false false) :=
  returns_of_walk (C := Tryz.checked) rfl own started (by kernel_rfl) Tryz.func5 rfl readable (by kernel_rfl) said
    (ChangeSpec.witness_shaped (enc := enc) (C := Tryz.checked) (os := os) (X := fun w _ => laidMetH Tryz.prog laidL w) false (World.laidAll Tryz.prog os laidL) #[.agg #[.int .u32 0, .int .u32 0, .int .u32 0, .int .u32 0, .int .u32 0, .int .u32 0, .int .u32 0, .int .u32 0, .int .u32 0, .int .u32 0, .int .u32 0, .int .u32 0, .int .u32 0, .int .u32 0, .int .u32 0, .int .u32 0, .int .u32 0, .int .u32 0, .int .u32 0, .int .u32 0, .int .u32 0, .int .u32 0, .int .u32 0, .int .u32 0, .int .u32 0, .int .u32 0, .int .u32 0, .int .u32 0, .int .u32 0, .slice none 0 0, .int .u64 0, .slice none 0 0, .bool false]] 8 (World.laidAll_os _ _ _)
      (start_shaped os _) (by kernel_rfl) (by kernel_rfl) (by kernel_rfl) (start_met os _)) walk

theorem over : Rows.StepTrapPrioritySaid :=
  OpenClaim.holds_of_wide 5 Tryz.f5 rfl rfl rfl rfl rfl rfl rfl ⟨rfl, rfl, rfl, rfl, rfl⟩ rfl rfl rfl rfl rfl (by kernel_rfl) Tryz.func5 (by kernel_rfl)
    (of_decide_eq_true (by kernel_rfl)) (by unfold Func.isWrapper; first | (rw [if_pos (by decide +kernel)]; kernel_rfl) | (rw [if_neg (by decide +kernel)]; exact ⟨rfl, rfl⟩))
    (fun os started H enc _ => lifted os started H enc)

/-- THE STATEMENT -/
theorem proved : Rows.StepTrapPriorityCardSaid :=
  Claim7.holds_tied_plain_at .later [] [.data, .data, .data] true (true, "8ffe0c46f9e92efb28c84b61b42d6714ec4442e8e8d9bdcf048d53b195bf4d9d") false
    over (fun _ h => by cases h) (by kernel_rfl) (fun _ h => by cases h) stepTrapPriority_row_tie rfl ⟨rfl, rfl⟩ (by kernel_rfl) rfl
    (fun f fn hf hfn => by
      obtain rfl : f = 5 := Option.some.inj ((show Tryz.prog.funcNamed "gaoler/gaolerlaw13.StepTrapPriority" = some 5 by kernel_rfl).symm.trans hf) |>.symm
      obtain rfl : fn = Tryz.f5 := (Option.some.inj (Tryz.func5.symm.trans hfn)).symm
      exact ⟨by kernel_rfl, fun j t ht => by
        rw [Tryz.params5] at ht
        have hm : t ∈ [30] := by simpa using Array.mem_of_getElem? ht
        have hall : ([30].all fun u => !Tryz.prog.wantsStandIn u) = true := by kernel_rfl
        exact (show Tryz.prog.wantsStandIn t = false by simpa using List.all_eq_true.1 hall t hm)⟩)
    (by kernel_rfl)
#print axioms proved
end Go.Proofs.YtjbnflalngjfaaaGreatDoor.stepTrapPriority
