/-
  What each function of package regs returns when called: contracts over the translated program. Conditions: those that stand in each theorem.
-/
import Derived.Test.YtphfhehahgeabaaR16
import Derived.Test.YtphfhehahgeabaaRegMath
namespace Go.Proofs.Ytphfhehahgeabaa
open Go.ChangeShapes Go.WideShapes Go.ChangeAt Go.RowKit Go.Sort
set_option linter.unusedVariables false

theorem isStored (i : Int) (W : World) : Calls Try.prog 14 #[.int .i64 i] W fun e W' => e = .returned (.bool (M.stored i)) ∧ W = W' := by
  by_cases h0 : 0 < i
  · have HE : Hid (M.stored i = decide (i < 16)) := Lib.hid (by simp [M.stored, h0])
    go_enter Try.func14, Try.ntmps14
    go_wp2
    go_ret
    exact ⟨ret_bool HE.out.symm, rfl⟩
  · have HE : Hid (M.stored i = false) := Lib.hid (by simp [M.stored, h0])
    go_enter Try.func14, Try.ntmps14
    go_wp2
    go_ret
    exact ⟨ret_bool HE.out.symm, rfl⟩

theorem regGet (c : List Int) (i : Int) (W : World) (hl : c.length = 16) :
    Calls Try.prog 8 #[.agg (ints .u32 c), .int .i64 i] W fun e W' => e = .returned (.int .u32 (M.reg c i)) ∧ Dn W W' := by
  have hd := (Dn.refl W).alloc (.cells (ints .u32 c) 23)
  cases he : M.stored i
  · have HE : Hid (M.reg c i = 0) := Lib.hid (M.reg_out he)
    go_enter Try.func8, Try.ntmps8
    go_wp2_with (go_at_call 14; refine (isStored _ _).mono ?_; rintro e w' ⟨rfl, rfl⟩)
    go_ret
    exact ⟨ret_int HE.out.symm, hd⟩
  · have hb := (M.stored_iff i).1 he
    have HE : Hid (M.reg c i = c.getD i.toNat 0) := Lib.hid (M.reg_in he)
    have kc : (W.alloc (.cells (ints .u32 c) 23)).cell? ⟨W.heap.size, i.toNat, none⟩ = some (.int .u32 (c.getD i.toNat 0)) := (Row.new W 23 .u32 c).cell i.toNat (by omega)
    generalize c.getD i.toNat 0 = z at HE kc
    go_enter Try.func8, Try.ntmps8
    go_wp2_with (go_at_call 14; refine (isStored _ _).mono ?_; rintro e w' ⟨rfl, rfl⟩)
    go_ret
    exact ⟨ret_int HE.out.symm, hd⟩

theorem regSet (c : List Int) (i v : Int) (W : World) (hl : c.length = 16) :
    Calls Try.prog 10 #[.agg (ints .u32 c), .int .i64 i, .int .u32 v] W fun e W' => e = .returned (.agg (ints .u32 (M.setreg c i v))) ∧ Dn W W' := by
  have hd := (Dn.refl W).alloc (.cells (ints .u32 c) 23)
  cases he : M.stored i
  · have HE : Hid (M.setreg c i v = c) := Lib.hid (M.setreg_out he)
    go_enter Try.func10, Try.ntmps10
    go_wp2_with (first
      | (go_at_call 14; refine (isStored _ _).mono ?_; rintro e w' ⟨rfl, rfl⟩)
      | ((with_reducible refine alloc16 (b := W.heap.size + 1) (size_alloc _ _) ?_ ?_); rfl)
      | ((with_reducible refine load16 ((Row.new W 23 .u32 c).dn ((Dn.refl _).alloc _)) hl ?_ ?_ ?_); rfl; rfl)
      | ((with_reducible refine store16 (b := W.heap.size + 1) c hl zsize16 ?_ ?_ ?_ (size_alloc _ _).symm ?_); rfl; rfl; rfl))
    exact ret16 Try.results10 rfl (Row.second _ _ _ _ c) hl ⟨by rw [HE.out], hd.alloc _⟩ rfl
  · have hb := (M.stored_iff i).1 he
    have kg := ints_get .u32 c i.toNat (by omega)
    have e2 : (ints .u32 c).setIfInBounds i.toNat (.int .u32 v) = ints .u32 (M.setreg c i v) := by rw [ints_set, M.setreg_in he]
    have hl2 : (M.setreg c i v).length = 16 := (M.setreg_len c i v).trans hl
    have fr : ∀ Z, ((W.alloc (.cells (ints .u32 c) 23)).alloc Z).frozen? ⟨W.heap.size, i.toNat, none⟩ = false := fun Z => ((Row.new W 23 .u32 c).dn ((Dn.refl _).alloc Z)).fr i.toNat
    have kc : ∀ Z, ((W.alloc (.cells (ints .u32 c) 23)).alloc Z).cell? ⟨W.heap.size, i.toNat, none⟩ = some (.int .u32 (c.getD i.toNat 0)) := fun Z => ((Row.new W 23 .u32 c).dn ((Dn.refl _).alloc Z)).cell i.toNat (by omega)
    go_enter Try.func10, Try.ntmps10
    go_wp2_with (first
      | (go_at_call 14; refine (isStored _ _).mono ?_; rintro e w' ⟨rfl, rfl⟩)
      | ((with_reducible refine alloc16 (b := W.heap.size + 1) (size_alloc _ _) ?_ ?_); rfl)
      | ((with_reducible refine load16 ((Row.new W 23 .u32 (M.setreg c i v)).dn ((Dn.refl _).alloc _)) hl2 ?_ ?_ ?_); rfl; rfl)
      | ((with_reducible refine store16 (b := W.heap.size + 1) (M.setreg c i v) hl2 zsize16 ?_ ?_ ?_ (size_alloc _ _).symm ?_); rfl; rfl; rfl))
    exact ret16 Try.results10 rfl (Row.second _ _ _ _ _) hl2 ⟨rfl, ((Dn.refl W).alloc _).alloc _⟩ rfl

theorem regClear (c : List Int) (W : World) (hl : c.length = 16) :
    Calls Try.prog 12 #[.agg (ints .u32 c)] W fun e W' => e = .returned (.agg (ints .u32 (M.clr0 c))) ∧ Dn W W' := by
  have kg := ints_get .u32 c 0 (by omega)
  have e2 : (ints .u32 c).setIfInBounds 0 (.int .u32 0) = ints .u32 (M.clr0 c) := ints_set _ _ _ _
  have hl2 : (M.clr0 c).length = 16 := (M.clr0_len c).trans hl
  have fr : ∀ Z, ((W.alloc (.cells (ints .u32 c) 23)).alloc Z).frozen? ⟨W.heap.size, 0, none⟩ = false := fun Z => ((Row.new W 23 .u32 c).dn ((Dn.refl _).alloc Z)).fr 0
  have kc : ∀ Z, ((W.alloc (.cells (ints .u32 c) 23)).alloc Z).cell? ⟨W.heap.size, 0, none⟩ = some (.int .u32 (c.getD 0 0)) := fun Z => ((Row.new W 23 .u32 c).dn ((Dn.refl _).alloc Z)).cell 0 (by omega)
  go_enter Try.func12, Try.ntmps12
  go_wp2_with (first
    | ((with_reducible refine alloc16 (b := W.heap.size + 1) (size_alloc _ _) ?_ ?_); rfl)
    | ((with_reducible refine load16 ((Row.new W 23 .u32 (M.clr0 c)).dn ((Dn.refl _).alloc _)) hl2 ?_ ?_ ?_); rfl; rfl)
    | ((with_reducible refine store16 (b := W.heap.size + 1) (M.clr0 c) hl2 zsize16 ?_ ?_ ?_ (size_alloc _ _).symm ?_); rfl; rfl; rfl))
  exact ret16 Try.results12 rfl (Row.second _ _ _ _ _) hl2 ⟨rfl, ((Dn.refl W).alloc _).alloc _⟩ rfl
end Go.Proofs.Ytphfhehahgeabaa
