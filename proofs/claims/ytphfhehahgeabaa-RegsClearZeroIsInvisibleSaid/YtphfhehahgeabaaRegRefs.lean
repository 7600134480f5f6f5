/-
  What each function of the reference package gaolerref07 returns when called: contracts over the translated program. Conditions: those that stand in each theorem.
-/
import Derived.Test.YtphfhehahgeabaaRegCalls
namespace Go.Proofs.Ytphfhehahgeabaa
open Go.ChangeShapes Go.WideShapes Go.ChangeAt Go.RowKit Go.Sort
set_option linter.unusedVariables false

theorem refClean (c : List Int) (W : World) (hl : c.length = 16) :
    Calls Try.prog 13 #[.agg (ints .u32 c)] W fun e W' => e = .returned (.agg (ints .u32 (M.clr0 c))) ∧ Dn W W' := by
  have kg := ints_get .u32 c 0 (by omega)
  have e2 : (ints .u32 c).setIfInBounds 0 (.int .u32 0) = ints .u32 (M.clr0 c) := ints_set _ _ _ _
  have hl2 : (M.clr0 c).length = 16 := (M.clr0_len c).trans hl
  have fr : ∀ Z, ((W.alloc (.cells (ints .u32 c) 23)).alloc Z).frozen? ⟨W.heap.size, 0, none⟩ = false := fun Z => ((Row.new W 23 .u32 c).dn ((Dn.refl _).alloc Z)).fr 0
  have kc : ∀ Z, ((W.alloc (.cells (ints .u32 c) 23)).alloc Z).cell? ⟨W.heap.size, 0, none⟩ = some (.int .u32 (c.getD 0 0)) := fun Z => ((Row.new W 23 .u32 c).dn ((Dn.refl _).alloc Z)).cell 0 (by omega)
  go_enter Try.func13, Try.ntmps13
  go_wp2_with (first
    | ((with_reducible refine alloc16 (b := W.heap.size + 1) (size_alloc _ _) ?_ ?_); rfl)
    | ((with_reducible refine load16 ((Row.new W 23 .u32 (M.clr0 c)).dn ((Dn.refl _).alloc _)) hl2 ?_ ?_ ?_); rfl; rfl)
    | ((with_reducible refine store16 (b := W.heap.size + 1) (M.clr0 c) hl2 zsize16 ?_ ?_ ?_ (size_alloc _ _).symm ?_); rfl; rfl; rfl))
  exact ret16 Try.results13 rfl (Row.second _ _ _ _ _) hl2 ⟨rfl, ((Dn.refl W).alloc _).alloc _⟩ rfl

def GetRel (W : World) (i : Int) (x : Value) (w : World) : Prop := ∃ k : Nat, 1 ≤ k ∧ k ≤ 16 ∧ x = .int .i64 k ∧ (∀ j : Nat, 1 ≤ j → j < k → i ≠ j) ∧ w = W

theorem refGet (c : List Int) (i : Int) (W : World) (hl : c.length = 16) :
    Calls Try.prog 9 #[.agg (ints .u32 c), .int .i64 i] W fun e W' => e = .returned (.int .u32 (M.reg c i)) ∧ Dn W W' := by
  have D := Lib.hid ((Dn.refl W).alloc (.cells (ints .u32 c) 23))
  have R := Lib.hid (Row.new W 23 .u32 c)
  go_enter Try.func9, Try.ntmps9
  go_wp2_with fail
  obtain ⟨w0, hw0⟩ : ∃ w0, w0 = W.alloc (.cells (ints .u32 c) 23) := ⟨_, rfl⟩
  rw [← hw0] at D R ⊢
  clear hw0
  go_loopw [5] (fun x w => GetRel w0 i x w) (fun x _ => 16 - (intOf x).toNat)
  case atStart => exact ⟨1, by decide, by decide, rfl, fun j h1 h2 => absurd h2 (by omega), rfl⟩
  case round =>
    obtain ⟨k, hk1, hk, rfl, hno, rfl⟩ := hrel
    have HNO := Lib.hid hno
    clear hno
    by_cases hlt : k < 16
    · have hlt2 : (k : Int) < 16 := by omega
      by_cases heq : i = k
      · subst heq
        have HE : Hid (M.reg c k = c.getD k 0) := Lib.hid (by rw [M.reg_in ((M.stored_iff _).2 (by omega)), Int.toNat_natCast])
        have kc : wr.cell? ⟨W.heap.size, k, none⟩ = some (.int .u32 (c.getD k 0)) := R.out.cell k (by omega)
        generalize c.getD k 0 = z at HE kc
        go_wp2
        go_ret
        exact ⟨ret_int HE.out.symm, D.out⟩
      · have hne : ((k : Int) == i) = false := by simp; omega
        have HNE := Lib.hid heq
        clear heq
        go_wp2
        go_roundw
        case rel =>
          refine ⟨k + 1, by omega, by omega, by go_num, fun j h1 h2 => ?_, rfl⟩
          by_cases hj : j = k
          · subst hj; exact HNE.out
          · exact HNO.out j h1 (by omega)
        case measure => simp [intOf]; omega
    · obtain rfl : k = 16 := by omega
      have HE : Hid (M.reg c i = 0) := Lib.hid (by
        refine M.reg_out ((M.stored_no i).2 ?_)
        by_cases h0 : 0 < i ∧ i < 16
        · exact absurd (by omega) (HNO.out i.toNat (by omega) (by omega))
        · omega)
      go_wp2
      go_ret
      exact ⟨ret_int HE.out.symm, D.out⟩

structure PutAt (W : World) (c a : List Int) (w : World) : Prop where
  r : Row w W.heap.size 23 .u32 c
  o : Row w (W.heap.size + 1) 23 .u32 (zeros 16)
  p : Row w (W.heap.size + 1 + 1) 23 .u32 a
  d : Dn W w
theorem PutAt.put {W w : World} {c a : List Int} (h : PutAt W c a w) (k : Nat) (z : Int) : PutAt W c (a.set k z) (w.setCell ⟨W.heap.size + 1 + 1, k, none⟩ (.int .u32 z)) :=
  ⟨h.r.otherCell (by omega) _, h.o.otherCell (by omega) _, h.p.put k z, h.d.setCell (by show W.heap.size ≤ W.heap.size + 1 + 1; omega) _⟩
theorem PutAt.new (W : World) (c : List Int) : PutAt W c (zeros 16) (((W.alloc (.cells (ints .u32 c) 23)).alloc (.cells (ints .u32 (zeros 16)) 23)).alloc (.cells (ints .u32 (zeros 16)) 23)) :=
  ⟨(Row.new W _ _ c).dn (((Dn.refl _).alloc _).alloc _), (Row.second W _ _ _ _).dn ((Dn.refl _).alloc _), Row.third _ _ _ _ _ _, (((Dn.refl W).alloc _).alloc _).alloc _⟩
def PutRel (W : World) (c d : List Int) (x : Value) (w : World) : Prop := ∃ (k : Nat) (a : List Int), k ≤ 16 ∧ x = .int .i64 k ∧ a.length = 16 ∧ (∀ j : Nat, j < k → a.getD j 0 = d.getD j 0) ∧ PutAt W c a w
theorem put_more {a d : List Int} {k : Nat} {z : Int} (hl : a.length = 16) (hk : k < 16) (h : ∀ j : Nat, j < k → a.getD j 0 = d.getD j 0) (hz : d.getD k 0 = z) : ∀ j : Nat, j < k + 1 → (a.set k z).getD j 0 = d.getD j 0 := by
  intro j hj
  rw [M.getD_set]
  by_cases e : k = j
  · subst e; rw [if_pos ⟨rfl, by omega⟩, hz]
  · rw [if_neg (fun h => e h.1), h j (by omega)]

theorem refPut (c : List Int) (i v : Int) (W : World) (hl : c.length = 16) :
    Calls Try.prog 11 #[.agg (ints .u32 c), .int .i64 i, .int .u32 v] W fun e W' => e = .returned (.agg (ints .u32 (M.setreg c i v))) ∧ Dn W W' := by
  have P0 := Lib.hid (PutAt.new W c)
  have HD : Hid (∀ j : Nat, (M.setreg c i v).getD j 0 = if M.stored i = true ∧ i = j then v else c.getD j 0) := Lib.hid fun j => M.getD_setreg hl i v j
  have hld : (M.setreg c i v).length = 16 := (M.setreg_len c i v).trans hl
  generalize M.setreg c i v = d at HD hld ⊢
  go_enter Try.func11, Try.ntmps11
  go_wp2_with (first
    | ((with_reducible refine alloc16 (b := W.heap.size + 1) (size_alloc _ _) ?_ ?_); rfl)
    | ((with_reducible refine alloc16 (b := W.heap.size + 1 + 1) (size2 _ _ _) ?_ ?_); rfl))
  obtain ⟨w0, hw0⟩ : ∃ w0, w0 = ((W.alloc (.cells (ints .u32 c) 23)).alloc (.cells (ints .u32 (zeros 16)) 23)).alloc (.cells (ints .u32 (zeros 16)) 23) := ⟨_, rfl⟩
  rw [← hw0] at P0 ⊢
  clear hw0
  go_loopw [8] (fun x w => PutRel W c d x w) (fun x _ => 16 - (intOf x).toNat)
  case atStart => exact ⟨0, zeros 16, by decide, rfl, rfl, fun j h => absurd h (by omega), P0.out⟩
  case round =>
    obtain ⟨k, a, hk, rfl, hla, hno, hp⟩ := hrel
    have HNO := Lib.hid hno
    have P := Lib.hid hp
    clear hno hp P0
    by_cases hlt : k < 16
    · have hlt2 : (k : Int) < 16 := by omega
      have kr : wr.cell? ⟨W.heap.size, k, none⟩ = some (.int .u32 (c.getD k 0)) := P.out.r.cell k (by omega)
      have ko : wr.cell? ⟨W.heap.size + 1 + 1, k, none⟩ = some (.int .u32 (a.getD k 0)) := P.out.p.cell k (by omega)
      have kf : wr.frozen? ⟨W.heap.size + 1 + 1, k, none⟩ = false := P.out.p.fr k
      have HK := Lib.hid (HD.out k)
      generalize hz : c.getD k 0 = z at kr HK
      generalize a.getD k 0 = y at ko
      have kf2 : (wr.setCell ⟨W.heap.size + 1 + 1, k, none⟩ (.int .u32 z)).frozen? ⟨W.heap.size + 1 + 1, k, none⟩ = false := (P.out.put k z).p.fr k
      have ko2 : (wr.setCell ⟨W.heap.size + 1 + 1, k, none⟩ (.int .u32 z)).cell? ⟨W.heap.size + 1 + 1, k, none⟩ = some (.int .u32 ((a.set k z).getD k 0)) := (P.out.put k z).p.cell k (by simp; omega)
      clear hz
      by_cases heq : i = k
      · subst heq
        by_cases h0 : k = 0
        · subst h0
          have HZ : Hid (d.getD 0 0 = z) := Lib.hid (by rw [HK.out, if_neg (fun h => by have := (M.stored_iff _).1 h.1; omega)])
          go_wp2
          go_roundw
          case rel => exact ⟨0 + 1, a.set 0 z, by omega, by go_num, by simp [hla], put_more hla (by omega) HNO.out HZ.out, P.out.put 0 z⟩
          case measure => simp [intOf]
        · have HZ : Hid (d.getD k 0 = v) := Lib.hid (by rw [HK.out, if_pos ⟨(M.stored_iff _).2 (by omega), rfl⟩])
          have hne : ((k : Int) == 0) = false := by simp; omega
          go_wp2
          go_roundw
          case rel => exact ⟨k + 1, (a.set k z).set k v, by omega, by go_num, by simp [hla], put_more (by simp [hla]) (by omega) (fun j hj => by rw [M.getD_set, if_neg (by omega)]; exact HNO.out j hj) HZ.out, (P.out.put k z).put k v⟩
          case measure => simp [intOf]; omega
      · have HZ : Hid (d.getD k 0 = z) := Lib.hid (by rw [HK.out, if_neg (fun h => heq h.2)])
        have hne : ((k : Int) == i) = false := by simp; omega
        clear heq
        go_wp2
        go_roundw
        case rel => exact ⟨k + 1, a.set k z, by omega, by go_num, by simp [hla], put_more hla hlt HNO.out HZ.out, P.out.put k z⟩
        case measure => simp [intOf]; omega
    · obtain rfl : k = 16 := by omega
      obtain rfl : a = d := M.same_of (by omega) fun j hj => HNO.out j (by omega)
      have ra := P.out.p
      have ro := P.out.o
      go_wp2_with (first
        | ((with_reducible refine load16 ra hld ?_ ?_ ?_); rfl; rfl)
        | ((with_reducible refine restore16 ro a rfl hld ?_ ?_ ?_ ?_); rfl; rfl; rfl))
      exact ret16 Try.results11 rfl (ro.stored a) hld ⟨rfl, P.out.d.setRow (by omega) _⟩ rfl
end Go.Proofs.Ytphfhehahgeabaa
