/-
  What each function of package csr returns when called: contracts over the translated program. Conditions: those that stand in each theorem; the two tables hold what the program's text lays there.
-/
import Derived.Test.YthfhidgahdoglaaDoorBase
import Derived.Test.YthfhidgahdoglaaDoorCsrMath
namespace Go.Proofs.YthfhidgahdoglaaDoor
open Go.ChangeShapes Go.WideShapes Go.ChangeAt Go.RowKit Go.Sort
set_option linter.unusedVariables false

/-- the cells of a whole array of strings -/
def strs (l : List (List UInt8)) : Array Value := (l.map fun s => Value.string ⟨s.toArray⟩).toArray
theorem strs_get (l : List (List UInt8)) (i : Nat) (h : i < l.length) : (strs l)[i]? = some (.string ⟨(l.getD i []).toArray⟩) := by
  simp [strs, List.getD, h]

/-- the two tables of package csr in memory -/
structure CsrTabs (W : World) : Prop where
  names : ∃ t fr, W.heap[(0 : Nat)]? = some (.cells (strs M.nameL) t fr)
  masks : ∃ t fr, W.heap[(1 : Nat)]? = some (.cells (ints .u32 M.maskL) t fr)
theorem CsrTabs.dn {W W' : World} (h : CsrTabs W) (k : Dn W W') : CsrTabs W' :=
  ⟨h.names.imp fun _ ⟨fr, e⟩ => ⟨fr, (k.block _ (Array.getElem?_eq_some_iff.1 e).1).trans e⟩, h.masks.imp fun _ ⟨fr, e⟩ => ⟨fr, (k.block _ (Array.getElem?_eq_some_iff.1 e).1).trans e⟩⟩

theorem exists_ (n : Int) (W : World) : Calls Tryd.prog 22 #[.int .i64 n] W fun e W' => e = .returned (.bool (M.ex n)) ∧ W = W' := by
  by_cases h0 : 0 ≤ n
  · have HE : Hid (M.ex n = decide (n < 12)) := Lib.hid (by simp [M.ex, h0])
    go_enter Tryd.func22, Tryd.ntmps22
    go_wp2
    go_ret
    exact ⟨ret_bool HE.out.symm, rfl⟩
  · have HE : Hid (M.ex n = false) := Lib.hid (by simp [M.ex, h0])
    go_enter Tryd.func22, Tryd.ntmps22
    go_wp2
    go_ret
    exact ⟨ret_bool HE.out.symm, rfl⟩

theorem read (c : List Int) (time n : Int) (W : World) (hl : c.length = 12) (h0 : 0 ≤ time) (h1 : time < 18446744073709551616) :
    Calls Tryd.prog 14 #[.agg (ints .u32 c), .int .u64 time, .int .i64 n] W fun e W' => e = .returned (.int .u32 (M.rd c time n)) ∧ Dn W W' := by
  have hd := (Dn.refl W).alloc (.cells (ints .u32 c) 23)
  cases he : M.ex n
  · have hb := (M.ex_no n).1 he
    have HE : Hid (M.rd c time n = 0) := Lib.hid (by unfold M.rd; rw [if_neg (by omega), if_neg (by omega), he]; rfl)
    go_enter Tryd.func14, Tryd.ntmps14
    go_wp2_with (go_at_call 22; refine (exists_ _ _).mono ?_; rintro e w' ⟨rfl, rfl⟩)
    go_ret
    exact ⟨ret_int HE.out.symm, hd⟩
  have hb := (M.ex_iff n).1 he
  by_cases a3 : n = 7
  · have HE : Hid (M.rd c time n = time % 4294967296) := Lib.hid (by unfold M.rd; rw [if_pos a3])
    go_enter Tryd.func14, Tryd.ntmps14
    go_wp2_with (go_at_call 22; refine (exists_ _ _).mono ?_; rintro e w' ⟨rfl, rfl⟩)
    go_ret
    exact ⟨ret_int HE.out.symm, hd⟩
  by_cases a4 : n = 8
  · have HE : Hid (M.rd c time n = time / 4294967296) := Lib.hid (by unfold M.rd; rw [if_neg a3, if_pos a4])
    go_enter Tryd.func14, Tryd.ntmps14
    go_wp2_with (go_at_call 22; refine (exists_ _ _).mono ?_; rintro e w' ⟨rfl, rfl⟩)
    go_ret
    exact ⟨ret_int HE.out.symm, hd⟩
  have HE : Hid (M.rd c time n = M.at_ c n) := Lib.hid (by unfold M.rd; rw [if_neg a3, if_neg a4, if_pos he])
  have kc : (W.alloc (.cells (ints .u32 c) 23)).cell? ⟨W.heap.size, n.toNat, none⟩ = some (.int .u32 (M.at_ c n)) := (Row.new W 23 .u32 c).cell n.toNat (by omega)
  go_enter Tryd.func14, Tryd.ntmps14
  go_wp2_with (go_at_call 22; refine (exists_ _ _).mono ?_; rintro e w' ⟨rfl, rfl⟩)
  go_ret
  exact ⟨ret_int HE.out.symm, hd⟩

theorem mask_cell {W : World} (T : CsrTabs W) (n : Int) (he : M.ex n = true) : W.cell? ⟨1, n.toNat, none⟩ = some (.int .u32 (M.mask n)) := by
  have hb := (M.ex_iff n).1 he
  obtain ⟨t, fr, h⟩ := T.masks
  rw [cell_of_row W _ _ _ _ _ h, ints_get _ _ _ (show n.toNat < 12 by omega)]
  unfold M.mask; rw [if_pos he]
theorem name_cell {W : World} (T : CsrTabs W) (n : Int) (he : M.ex n = true) : W.cell? ⟨0, n.toNat, none⟩ = some (.string ⟨(M.name n).toArray⟩) := by
  have hb := (M.ex_iff n).1 he
  have hl : n.toNat < M.nameL.length := by show n.toNat < 12; omega
  obtain ⟨t, fr, h⟩ := T.names
  rw [cell_of_row W _ _ _ _ _ h, strs_get _ _ hl]
  unfold M.name
  rw [if_pos he]

theorem writeMask (n : Int) (W : World) (T : CsrTabs W) :
    Calls Tryd.prog 12 #[.int .i64 n] W fun e W' => e = .returned (.int .u32 (M.mask n)) ∧ W = W' := by
  cases he : M.ex n
  · have HE : Hid (M.mask n = 0) := Lib.hid (by unfold M.mask; rw [he]; rfl)
    go_enter Tryd.func12, Tryd.ntmps12
    go_wp2_with (go_at_call 22; refine (exists_ _ _).mono ?_; rintro e w' ⟨rfl, rfl⟩)
    go_ret
    exact ⟨ret_int HE.out.symm, rfl⟩
  · have hb := (M.ex_iff n).1 he
    have kc := mask_cell T n he
    go_enter Tryd.func12, Tryd.ntmps12
    go_wp2_with (go_at_call 22; refine (exists_ _ _).mono ?_; rintro e w' ⟨rfl, rfl⟩)
    go_ret
    exact ⟨rfl, rfl⟩

theorem name (n : Int) (W : World) (T : CsrTabs W) :
    Calls Tryd.prog 11 #[.int .i64 n] W fun e W' => e = .returned (.string ⟨(M.name n).toArray⟩) ∧ W = W' := by
  cases he : M.ex n
  · have HE : Hid (M.name n = []) := Lib.hid (by unfold M.name; rw [he]; rfl)
    go_enter Tryd.func11, Tryd.ntmps11
    go_wp2_with (go_at_call 22; refine (exists_ _ _).mono ?_; rintro e w' ⟨rfl, rfl⟩)
    go_ret
    exact ⟨by rw [HE.out]; rfl, rfl⟩
  · have hb := (M.ex_iff n).1 he
    have kc := name_cell T n he
    go_enter Tryd.func11, Tryd.ntmps11
    go_wp2_with (go_at_call 22; refine (exists_ _ _).mono ?_; rintro e w' ⟨rfl, rfl⟩)
    go_ret
    exact ⟨rfl, rfl⟩

theorem info12 : (Tryd.prog.info? 23).map (·.size) = some 12 := by kernel_rfl

theorem info_ints (c : List Int) (h : c.length = 12) : (Tryd.prog.info? 23).map (·.size) = some (ints .u32 c).size := by rw [ints_size, h]; exact info12

section
variable {ops : Array Oper} {rest : List Oper} {dst : Option Tmp} {x y : Operand} {ty : TypeId} {pos : String} {aft : Array Edge} {gd : Option (Nat × Bool)} {a : Act} {w : World} {Q : Exit → Act → World → Prop} {b : Nat} {c : List Int}
/-- twelve words are loaded -/
theorem load12 (r : Row w b 23 .u32 c) (hl : c.length = 12) (hw : Region.wanted ⟨dst, .load 23 x, ty, pos, aft, gd⟩ (yielded ops a.tmps) = true) (hx : a.eval x = .pointer (some ⟨b, 0, none⟩))
    (h : wpList Tryd.prog ops Q rest (a.put dst (.agg (ints .u32 c))) w) : wpList Tryd.prog ops Q (⟨dst, .load 23 x, ty, pos, aft, gd⟩ :: rest) a w :=
  wpList_load_blk r Tryd.underlying23 (info_ints c hl) hw hx h
/-- twelve words are stored into a new variable -/
theorem store12 (d : List Int) (hl : d.length = 12) (hw : Region.wanted ⟨none, .store 23 x y, ty, pos, aft, gd⟩ (yielded ops a.tmps) = true) (hx : a.eval x = .pointer (some ⟨b, 0, none⟩)) (hy : a.eval y = .agg (ints .u32 d)) (hb : b = w.heap.size)
    (h : wpList Tryd.prog ops Q rest a (w.alloc (.cells (ints .u32 d) 23))) :
    wpList Tryd.prog ops Q (⟨none, .store 23 x y, ty, pos, aft, gd⟩ :: rest) a (w.alloc (.cells #[.int .u32 0, .int .u32 0, .int .u32 0, .int .u32 0, .int .u32 0, .int .u32 0, .int .u32 0, .int .u32 0, .int .u32 0, .int .u32 0, .int .u32 0, .int .u32 0] 23)) :=
  wpList_store_last (info_ints d hl) (by rw [ints_size, hl]; rfl) (ints_one _ d) hw hx hy hb h
/-- .. or into any block of twelve words -/
theorem restore12 (r : Row w b 23 .u32 c) (d : List Int) (hc : c.length = 12) (hl : d.length = 12) (hw : Region.wanted ⟨dst, .store 23 x y, ty, pos, aft, gd⟩ (yielded ops a.tmps) = true) (hx : a.eval x = .pointer (some ⟨b, 0, none⟩)) (hy : a.eval y = .agg (ints .u32 d))
    (h : wpList Tryd.prog ops Q rest (a.put dst undef) (w.setRow b (ints .u32 d))) : wpList Tryd.prog ops Q (⟨dst, .store 23 x y, ty, pos, aft, gd⟩ :: rest) a w :=
  wpList_store_blk r (info_ints d hl) (by rw [ints_size, ints_size, hl, hc]) (ints_one _ d) hw hx hy h
end
theorem zero12 : (#[.int .u32 0, .int .u32 0, .int .u32 0, .int .u32 0, .int .u32 0, .int .u32 0, .int .u32 0, .int .u32 0, .int .u32 0, .int .u32 0, .int .u32 0, .int .u32 0] : Array Value) = ints .u32 (List.replicate 12 0) := rfl
theorem Row.zero (w : World) : Row (w.alloc (.cells #[.int .u32 0, .int .u32 0, .int .u32 0, .int .u32 0, .int .u32 0, .int .u32 0, .int .u32 0, .int .u32 0, .int .u32 0, .int .u32 0, .int .u32 0, .int .u32 0] 23)) w.heap.size 23 .u32 (List.replicate 12 0) := Row.new w 23 .u32 (List.replicate 12 0)
theorem size_alloc (w : World) (o : Obj) : (w.alloc o).heap.size = w.heap.size + 1 := by simp

theorem Row.next (w : World) (o : Obj) (c : List Int) : Row ((w.alloc o).alloc (.cells (ints .u32 c) 23)) (w.heap.size + 1) 23 .u32 c := by
  have h := Row.new (w.alloc o) 23 .u32 c
  rwa [size_alloc] at h
/-- twelve words are handed back -/
theorem ret12 {fn : Func} {p : Tmp} {act : Act} {w : World} {b : Nat} {c : List Int} {Post : Ending → World → Prop} (h : fn.results = #[.cell p 23]) (hp : act.tmps.getD p undef = .pointer (some ⟨b, 0, none⟩)) (r : Row w b 23 .u32 c) (hl : c.length = 12)
    (k : Post (.returned (.agg (ints .u32 c))) w) (hd : act.defers = []) : bodyPost Tryd.prog fn Post .ret act w :=
  bodyPost_ret (results_cell_row h _ _ b 23 _ (0, 0) _ hp r Tryd.underlying23 rfl (info_ints c hl)) hd k

theorem write (c : List Int) (n v : Int) (W : World) (T : CsrTabs W) (hc : M.Ok c) (h0 : 0 ≤ v) (h1 : v < 4294967296) :
    Calls Tryd.prog 16 #[.agg (ints .u32 c), .int .i64 n, .int .u32 v] W fun e W' => e = .returned (.agg (ints .u32 (M.wr c n v))) ∧ Dn W W' := by
  have hl := hc.len
  have hd := (Dn.refl W).alloc (.cells (ints .u32 c) 23)
  cases he : M.ex n
  · have HE : Hid (M.wr c n v = c) := Lib.hid (by unfold M.wr; rw [he]; rfl)
    go_enter Tryd.func16, Tryd.ntmps16
    go_wp2_with (first
      | (go_at_call 22; refine (exists_ _ _).mono ?_; rintro e w' ⟨rfl, rfl⟩)
      | ((with_reducible refine load12 ((Row.new W 23 .u32 c).dn ((Dn.refl _).alloc _)) hl ?_ ?_ ?_); rfl; rfl)
      | ((with_reducible refine store12 (b := W.heap.size + 1) c hl ?_ ?_ ?_ (size_alloc _ _).symm ?_); rfl; rfl; rfl))
    exact ret12 Tryd.results16 rfl (Row.next _ _ c) hl ⟨by rw [HE.out], hd.alloc _⟩ rfl
  · have hb := (M.ex_iff n).1 he
    have kc : ∀ Z, ((W.alloc (.cells (ints .u32 c) 23)).alloc Z).cell? ⟨W.heap.size, n.toNat, none⟩ = some (.int .u32 (M.at_ c n)) := fun Z => ((Row.new W 23 .u32 c).dn ((Dn.refl _).alloc Z)).cell n.toNat (by omega)
    have fr : ∀ Z, ((W.alloc (.cells (ints .u32 c) 23)).alloc Z).frozen? ⟨W.heap.size, n.toNat, none⟩ = false := fun Z => ((Row.new W 23 .u32 c).dn ((Dn.refl _).alloc Z)).fr n.toNat
    have hm := M.mask_rng n
    have hr := hc.rng n
    have e1 := M.mix_eq (M.at_ c n) (M.mask n) v hr.1 hr.2 hm.1 hm.2 h0 h1
    have e2 : (ints .u32 c).setIfInBounds n.toNat (.int .u32 (M.mix (M.at_ c n) (M.mask n) v)) = ints .u32 (M.wr c n v) := by rw [ints_set]; unfold M.wr; rw [if_pos he]
    have hl2 := (M.wr_ok hc n v).len
    go_enter Tryd.func16, Tryd.ntmps16
    go_wp2_with (first
      | (go_at_call 22; refine (exists_ _ _).mono ?_; rintro e w' ⟨rfl, rfl⟩)
      | (go_at_call 12; refine (writeMask _ _ (T.dn (hd.alloc _))).mono ?_; rintro e w' ⟨rfl, rfl⟩)
      | ((with_reducible refine load12 ((Row.new W 23 .u32 (M.wr c n v)).dn ((Dn.refl _).alloc _)) hl2 ?_ ?_ ?_); rfl; rfl)
      | ((with_reducible refine store12 (b := W.heap.size + 1) (M.wr c n v) hl2 ?_ ?_ ?_ (size_alloc _ _).symm ?_); rfl; rfl; rfl))
    exact ret12 Tryd.results16 rfl (Row.next _ _ _) hl2 ⟨rfl, ((Dn.refl W).alloc _).alloc _⟩ rfl

theorem compare (c : List Int) (W : World) (hc : M.Ok c) :
    Calls Tryd.prog 18 #[.agg (ints .u32 c)] W fun e W' => e = .returned (.int .u64 (M.cmp c)) ∧ Dn W W' := by
  have hl := hc.len
  have k9 : (W.alloc (.cells (ints .u32 c) 23)).cell? ⟨W.heap.size, 9, none⟩ = some (.int .u32 (M.at_ c 9)) := (Row.new W 23 .u32 c).cell 9 (by omega)
  have k10 : (W.alloc (.cells (ints .u32 c) 23)).cell? ⟨W.heap.size, 10, none⟩ = some (.int .u32 (M.at_ c 10)) := (Row.new W 23 .u32 c).cell 10 (by omega)
  have r9 := hc.rng 9
  have r10 := hc.rng 10
  have HE := Lib.hid (M.cmp_eq c hc)
  go_enter Tryd.func18, Tryd.ntmps18
  go_wp2
  go_ret
  exact ⟨ret_int HE.out, (Dn.refl W).alloc _⟩

theorem reset (W : World) : Calls Tryd.prog 20 #[] W fun e W' => e = .returned (.agg (ints .u32 M.reset)) ∧ Dn W W' := by
  go_enter Tryd.func20, Tryd.ntmps20
  go_wp2_with (first
    | ((with_reducible refine store12 (b := W.heap.size) M.reset rfl ?_ ?_ ?_ rfl ?_); rfl; rfl; rfl))
  exact ret12 Tryd.results20 rfl (Row.new _ _ _ _) rfl ⟨rfl, (Dn.refl W).alloc _⟩ rfl

theorem info12s : (Tryd.prog.info? 39).map (·.size) = some 12 := by kernel_rfl
section
variable {ops : Array Oper} {rest : List Oper} {dst : Option Tmp} {x y : Operand} {ty : TypeId} {pos : String} {aft : Array Edge} {gd : Option (Nat × Bool)} {a : Act} {w : World} {Q : Exit → Act → World → Prop} {b : Nat} {c : List Int}
/-- the twelve names are loaded -/
theorem loadNames (T : CsrTabs w) (hw : Region.wanted ⟨dst, .load 39 x, ty, pos, aft, gd⟩ (yielded ops a.tmps) = true) (hx : a.eval x = .pointer (some ⟨0, 0, none⟩))
    (h : wpList Tryd.prog ops Q rest (a.put dst (.agg (strs M.nameL))) w) : wpList Tryd.prog ops Q (⟨dst, .load 39 x, ty, pos, aft, gd⟩ :: rest) a w :=
  let ⟨_, _, e⟩ := T.names
  wpList_load_blk e Tryd.underlying39 info12s hw hx h
end

theorem run_name_at (k : Nat) (hk : k < 12) (w : World) : (Instr.index 39 (.agg (strs M.nameL)) (.int .i64 k)).run Tryd.prog w = .ok (.string ⟨(M.nameL.getD k []).toArray⟩) w := by
  have kg := strs_get M.nameL k hk
  simp [Instr.index, go_sem, part, kg]
  intro h2
  omega

def NumRel (W : World) (s : List UInt8) (i : Value) (w : World) : Prop := ∃ k : Nat, k ≤ 12 ∧ i = .int .i64 k ∧ (∀ j, j < k → M.nameL.getD j [] ≠ s) ∧ w = W

theorem number (s : List UInt8) (W : World) (T : CsrTabs W) :
    Calls Tryd.prog 9 #[.string ⟨s.toArray⟩] W fun e W' => e = .returned (.tuple #[.int .i64 (M.num s), .bool (M.has s)]) ∧ W = W' := by
  go_enter Tryd.func9, Tryd.ntmps9
  go_wp2_with (first
    | ((with_reducible refine loadNames T ?_ ?_ ?_); rfl; rfl))
  go_loopw [7] (fun i w => NumRel W s i w) (fun i _ => 12 - (intOf i).toNat)
  case atStart => exact ⟨0, by decide, rfl, fun j hj => absurd hj (by omega), rfl⟩
  case round =>
    obtain ⟨k, hk, rfl, hno, rfl⟩ := hrel
    have HNO := Lib.hid hno
    clear hno
    by_cases hlt : k < 12
    · have hlt2 : (k : Int) < 12 := by omega
      have hx := run_name_at k hlt wr
      obtain ⟨z, hz⟩ : ∃ z, z = M.nameL.getD k [] := ⟨_, rfl⟩
      rw [← hz] at hx
      have HZ := Lib.hid hz
      clear hz
      by_cases heq : z = s
      · subst heq
        have e1 := M.num_at k hlt z HZ.out HNO.out
        have E1 := Lib.hid e1.1
        have E2 := Lib.hid e1.2
        clear e1
        go_wp2
        go_ret2
        exact ⟨by rw [E1.out, E2.out]; rfl, rfl⟩
      · have hne : (z == s) = false := by simpa using heq
        go_wp2
        refine ⟨⟨k + 1, by omega, by go_num, fun j hj => ?_, rfl⟩, by simp [intOf]; omega⟩
        by_cases hjk : j = k
        · subst hjk; rw [← HZ.out]; exact heq
        · exact HNO.out j (by omega)
    · obtain rfl : k = 12 := by omega
      have E1 := Lib.hid (M.num_none s HNO.out).1
      have E2 := Lib.hid (M.num_none s HNO.out).2
      go_wp2
      go_ret2
      exact ⟨by rw [E1.out, E2.out]; rfl, rfl⟩

end Go.Proofs.YthfhidgahdoglaaDoor
