/-
  The law StepUserModeConfinement of the law package returns true at every input, and each argument reads as it did; conditions: the listed package variables hold what the program's text lays there (the card ties them to it).
-/
import Derived.Test.YtjbnflalngjfaaaGreatDoorCards
import Derived.Test.YtjbnflalngjfaaaGreatDoorTie
import Derived.Test.YtjbnflalngjfaaaGreatDoorPkW
import Derived.Test.YtjbnflalngjfaaaGreatDoorPkB
import Derived.Test.YtjbnflalngjfaaaGreatDoorPkG
namespace Go.Proofs.YtjbnflalngjfaaaGreatDoor.M
open Go.RowKit
set_option linter.unusedVariables false
/-- the place lies in the range -/
def inb (ba bo : Int) (i : Nat) : Bool := decide (ba ≤ (i : Int)) && decide ((i : Int) < ba + bo)
theorem inb_iff {ba bo : Int} {i : Nat} : inb ba bo i = true ↔ Ins ba bo i := by unfold inb Ins; simp
/-- which of the first j places of L lie in the range -/
def insJ (ba bo : Int) (L j : Nat) : List Bool := (List.range L).map fun i => if i < j then inb ba bo i else false
/-- what place i of the other memory holds -/
def mixi (ba bo : Int) (xs os : List Int) (i : Nat) : Int := if inb ba bo i = false ∧ i < os.length then os.getD i 0 else xs.getD i 0
/-- the other memory, its first j places laid -/
def zsJ (ba bo : Int) (xs os : List Int) (j : Nat) : List Int := (List.range xs.length).map fun i => if i < j then mixi ba bo xs os i else xs.getD i 0
section
variable {ba bo : Int} {xs os : List Int}
theorem insJ_len (L j : Nat) : (insJ ba bo L j).length = L := by simp [insJ]
theorem zsJ_len (j : Nat) : (zsJ ba bo xs os j).length = xs.length := by simp [zsJ]
theorem insJ_get {L j i : Nat} (h : i < L) : (insJ ba bo L j)[i]? = some (if i < j then inb ba bo i else false) := by
  unfold insJ; rw [List.getElem?_map, List.getElem?_range h]; rfl
theorem zsJ_get {j i : Nat} (h : i < xs.length) : (zsJ ba bo xs os j)[i]? = some (if i < j then mixi ba bo xs os i else xs.getD i 0) := by
  unfold zsJ; rw [List.getElem?_map, List.getElem?_range h]; rfl
theorem insJ_zero (L : Nat) : insJ ba bo L 0 = List.replicate L false := by
  apply List.ext_getElem?
  intro i
  by_cases h : i < L
  · rw [insJ_get h, if_neg (by omega), List.getElem?_replicate, if_pos h]
  · rw [List.getElem?_eq_none (by rw [insJ_len]; omega), List.getElem?_eq_none (by simp; omega)]
theorem zsJ_zero : zsJ ba bo xs os 0 = xs := by
  apply List.ext_getElem?
  intro i
  by_cases h : i < xs.length
  · rw [zsJ_get h, if_neg (by omega), getD_at h]
  · rw [List.getElem?_eq_none (by rw [zsJ_len]; omega), List.getElem?_eq_none (by omega)]
theorem insJ_set {L j : Nat} (h : j < L) : (insJ ba bo L j).set j (inb ba bo j) = insJ ba bo L (j + 1) := by
  apply List.ext_getElem?
  intro i
  rw [List.getElem?_set]
  by_cases hi : i < L
  · rw [insJ_get hi, insJ_get hi]
    by_cases hij : j = i
    · subst hij
      rw [if_pos rfl, if_pos (by rw [insJ_len]; exact hi), if_pos (by omega)]
    · rw [if_neg hij]
      by_cases h2 : i < j
      · rw [if_pos h2, if_pos (by omega)]
      · rw [if_neg h2, if_neg (by omega)]
  · rw [if_neg (by omega), List.getElem?_eq_none (by rw [insJ_len]; omega), List.getElem?_eq_none (by rw [insJ_len]; omega)]
theorem zsJ_set {j : Nat} (h : j < xs.length) : (zsJ ba bo xs os j).set j (mixi ba bo xs os j) = zsJ ba bo xs os (j + 1) := by
  apply List.ext_getElem?
  intro i
  rw [List.getElem?_set]
  by_cases hi : i < xs.length
  · rw [zsJ_get hi, zsJ_get hi]
    by_cases hij : j = i
    · subst hij
      rw [if_pos rfl, if_pos (by rw [zsJ_len]; exact hi), if_pos (by omega)]
    · rw [if_neg hij]
      by_cases h2 : i < j
      · rw [if_pos h2, if_pos (by omega)]
      · rw [if_neg h2, if_neg (by omega)]
  · rw [if_neg (by omega), List.getElem?_eq_none (by rw [zsJ_len]; omega), List.getElem?_eq_none (by rw [zsJ_len]; omega)]
theorem mixi_in {i : Nat} (h : inb ba bo i = true) : mixi ba bo xs os i = xs.getD i 0 := by unfold mixi; rw [if_neg (by rw [h]; simp)]
theorem mixi_far {i : Nat} (h : ¬ i < os.length) : mixi ba bo xs os i = xs.getD i 0 := by unfold mixi; rw [if_neg (by omega)]
theorem mixi_os {i : Nat} (h : inb ba bo i = false) (h2 : i < os.length) : mixi ba bo xs os i = os.getD i 0 := by unfold mixi; rw [if_pos ⟨h, h2⟩]
theorem zsJ_same {j : Nat} (h : j < xs.length) (hm : mixi ba bo xs os j = xs.getD j 0) : zsJ ba bo xs os (j + 1) = zsJ ba bo xs os j := by
  rw [← zsJ_set h, hm]
  apply List.ext_getElem?
  intro i
  rw [List.getElem?_set]
  by_cases hij : j = i
  · subst hij
    rw [if_pos rfl, if_pos (by rw [zsJ_len]; exact h), zsJ_get h, if_neg (by omega)]
  · rw [if_neg hij]
theorem zsJ_by (hx : By xs) (ho : By os) (j : Nat) : By (zsJ ba bo xs os j) := fun x hx2 => by
  unfold zsJ at hx2
  obtain ⟨i, _, rfl⟩ := List.mem_map.1 hx2
  split
  · unfold mixi
    split
    · exact ho.getD i
    · exact hx.getD i
  · exact hx.getD i
theorem zs_agree : Agree ba bo xs (zsJ ba bo xs os xs.length) := by
  refine ⟨(zsJ_len _).symm, fun i hi => ?_⟩
  by_cases h : i < xs.length
  · rw [zsJ_get h, if_pos h, mixi_in (inb_iff.2 hi), getD_at h]
  · rw [List.getElem?_eq_none (by omega), List.getElem?_eq_none (by rw [zsJ_len]; omega)]
end
/-- a step in user mode, halted or not -/
theorem stS_confh {c xs zs : List Int} (hc : Core c) (hs : sup c = false) (h : Agree (csr c 5) (csr c 6) xs zs) (ys : List Int) (t : Int) (hh : Bool) : (stS c xs ys hh t).c = (stS c zs ys hh t).c ∧ (stS c xs ys hh t).k = (stS c zs ys hh t).k ∧ (stS c xs ys hh t).v = (stS c zs ys hh t).v ∧ (stS c xs ys hh t).t = (stS c zs ys hh t).t ∧ (stS c xs ys hh t).h = (stS c zs ys hh t).h ∧
    ∀ i, (Ins (csr c 5) (csr c 6) i → (stS c xs ys hh t).z[i]? = (stS c zs ys hh t).z[i]?) ∧ (¬ Ins (csr c 5) (csr c 6) i → (stS c xs ys hh t).z[i]? = xs[i]?) := by
  cases hh
  · obtain ⟨h1, h2, h3, h4, h5, _, h7⟩ := stS_conf hc hs h ys t
    exact ⟨h1, h2, h3, h4, h5, h7⟩
  · rw [stS_halted, stS_halted]
    exact ⟨rfl, rfl, rfl, rfl, rfl, fun i => ⟨fun hi => h.eq i hi, fun _ => rfl⟩⟩
end Go.Proofs.YtjbnflalngjfaaaGreatDoor.M
namespace Go.Proofs.YtjbnflalngjfaaaGreatDoor
open Go.ChangeShapes Go.WideShapes Go.ChangeAt Go.RowKit Go.Sort
set_option linter.unusedVariables false
/-- the cells of a row of bools -/
def bls (l : List Bool) : Array Value := (l.map Value.bool).toArray
theorem bls_size (l : List Bool) : (bls l).size = l.length := by simp [bls]
theorem bls_get {l : List Bool} {i : Nat} {x : Bool} (h : l[i]? = some x) : (bls l)[i]? = some (.bool x) := by
  unfold bls; rw [List.getElem?_toArray, List.getElem?_map, h]; rfl
theorem bls_set (l : List Bool) (i : Nat) (x : Bool) : (bls l).setIfInBounds i (.bool x) = bls (l.set i x) := by
  unfold bls
  rw [List.setIfInBounds_toArray, List.map_set]
theorem NoU8.bls (l : List Bool) : NoU8 (bls l) := by
  intro i x h
  have h1 := Array.mem_of_getElem? h
  simp [Go.Proofs.YtjbnflalngjfaaaGreatDoor.bls] at h1
theorem infoBl : (Tryz.prog.info? 4).map (fun i => (i.zero, i.size, i.bytes)) = some (some (.bool false), 1, 1) := by kernel_rfl
theorem infoBo : (Tryz.prog.info? 4).map (·.size) = some 1 := by kernel_rfl
theorem madeB (n : Nat) : madeCells (Value.bool false).cells (n * 1) = bls (List.replicate n false) := by
  apply Array.toList_inj.1
  have : (Value.bool false).cells = #[.bool false] := rfl
  rw [this, toList_madeCells_one]
  simp [bls]
section
variable {ops : Array Oper} {rest : List Oper} {dst : Option Tmp} {x y : Operand} {ty : TypeId} {pos : String} {aft : Array Edge} {gd : Option (Nat × Bool)} {a : Act} {w : World} {Q : Exit → Act → World → Prop}
/-- make([]bool, n) -/
theorem wpList_makeB {n : Nat} (hn : n ≤ 100000) (hw : Region.wanted ⟨dst, .makeSlice 46 x y, ty, pos, aft, gd⟩ (yielded ops a.tmps) = true) (hx : a.eval x = .int .i64 (n : Int)) (hy : a.eval y = .int .i64 (n : Int))
    (h : ∀ b w', New w w' b 4 (bls (List.replicate n false)) → wpList Tryz.prog ops Q rest (a.put dst (.slice (some ⟨b, 0, none⟩) n n)) w') :
    wpList Tryz.prog ops Q (⟨dst, .makeSlice 46 x y, ty, pos, aft, gd⟩ :: rest) a w := by
  obtain ⟨i, hi, hz, hs, hb⟩ := info_parts infoBl
  have hr := run_make (P := Tryz.prog) w 46 4 i _ Tryz.underlying46 hi hz .i64 .i64 (n : Int) (n : Int) (by omega) (by omega) (by rw [hb]; omega) (by omega)
  rw [hs, Int.toNat_natCast, madeB] at hr
  unfold wpList
  rw [if_pos hw]
  refine .inl ?_
  unfold Oper.wp execOp
  simp only [hx, hy, Sem.run_bind, Sem.run_pure, hr, Result.andThen_ok]
  exact h _ _ (New.mk' w _ _)
end
/-- an own row of bytes -/
def Uo (w : World) (base : Nat) (v : Value) (n : Nat) (xs : List Int) : Prop := w.ownsRow base 5 1 v n (xs.map (Value.int .u8))
section
variable {w w' W : World} {base n b : Nat} {v : Value} {xs : List Int} {t : TypeId} {cs : Array Value}
theorem Uo.dn (h : Uo w base v n xs) (d : Dn w w') : Uo w' base v n xs := by
  rcases h.2 with h0 | ⟨g, cap, cur, e, hb, hg, r⟩
  · exact ⟨h.1, .inl h0⟩
  · exact ⟨h.1, .inr ⟨g, cap, cur, e, hb, (d.block g (Array.getElem?_eq_some_iff.1 hg).1).trans hg, r⟩⟩
theorem Uo.sep (h : Uo w base v n xs) (r : Blk w b t cs) (ht : (t : TypeId) ≠ 5 := by decide) : v.ownBlock ≠ some b := fun e => by
  rcases h.2 with ⟨rfl, h0⟩ | ⟨g, cap, cur, rfl, hb, hg, q⟩
  · cases e
  · have : g = b := by simpa [Value.ownBlock] using e
    subst this
    have r' : w.heap[g]? = some (.cells cs t) := r
    rw [hg] at r'
    injection r' with r'
    injection r' with _ r' _
    exact ht r'.symm
theorem Uo.trn (h : Uo w base v n xs) (r : Blk w b t cs) (nu : NoU8 cs) (tr : Trn b w w') (ht : (t : TypeId) ≠ 5 := by decide) : Uo w' base v n xs := by
  have hs := h.sep r ht
  rcases h.2 with h0 | ⟨g, cap, cur, e, hb, hg, q⟩
  · exact ⟨h.1, .inl h0⟩
  · subst e
    exact ⟨h.1, .inr ⟨g, cap, cur, rfl, hb, (tr.block g (fun e => hs (by rw [e]; rfl))).trans hg, q⟩⟩
theorem Uo.shape (h : Uo w base v n xs) (h0 : 0 < n) : ∃ g cap, v = .slice (some ⟨g, 0, none⟩) n cap ∧ base ≤ g ∧ ∀ j, w.frozen? ⟨g, j, none⟩ = false := by
  rcases h.2 with ⟨_, h1⟩ | ⟨g, cap, cur, rfl, hb, hg, _⟩
  · omega
  · exact ⟨g, cap, rfl, hb, fun j => frozen_of_row w g j cur _ hg⟩
theorem Uo.cell {g cap : Nat} (h : Uo w base (.slice (some ⟨g, 0, none⟩) n cap) n xs) (j : Nat) (hj : j < xs.length) : w.cell? ⟨g, j, none⟩ = some (.int .u8 (xs.getD j 0)) := by
  have := World.ownsRow.cells h (g := g) rfl j (.int .u8 (xs.getD j 0)) (by rw [List.getElem?_map, M.getD_at hj]; rfl)
  rw [add0] at this
  exact this
theorem Uo.put {g cap : Nat} (h : Uo w base (.slice (some ⟨g, 0, none⟩) n cap) n xs) (j : Nat) (x : Int) : Uo (w.setCell ⟨g, j, none⟩ (.int .u8 x)) base (.slice (some ⟨g, 0, none⟩) n cap) n (xs.set j x) := by
  unfold Uo
  rw [List.map_set]
  exact (World.ownsRow.stored h j (.int .u8 x)).1
theorem Blk.setc {g j : Nat} {u : Value} (h : Blk w b t cs) (hn : g ≠ b) : Blk (w.setCell ⟨g, j, none⟩ u) b t cs := by
  unfold Blk at h ⊢
  rw [← h]
  exact Below.heap_setCell w _ _ _ (fun e => hn e.symm)
end
end Go.Proofs.YtjbnflalngjfaaaGreatDoor
namespace Go.Proofs.YtjbnflalngjfaaaGreatDoor
open Go.ChangeShapes Go.WideShapes Go.ChangeAt Go.RowKit Go.Sort
set_option linter.unusedVariables false

/-- the first loop's relation: j places are laid -/
def UcRel (W : World) (base b2 b8 bq : Nat) (m n : Mc) (ba bo : Int) (os : List Int) (k : Value) (w : World) : Prop :=
  ∃ j : Nat, j ≤ m.xs.length ∧ k = .int .i64 j ∧ Dn W w ∧ Blk w b2 30 (mach m) ∧ Blk w b8 30 (mach n) ∧ Blk w bq 4 (bls (M.insJ ba bo m.xs.length j)) ∧ Uo w base (.slice n.A m.xs.length n.k) m.xs.length (M.zsJ ba bo m.xs os j)
/-- the second loop's relation -/
def UcRel2 (L : Nat) (w0 : World) (k : Value) (w : World) : Prop := ∃ j : Nat, j ≤ L ∧ k = .int .i64 j ∧ Dn w0 w
theorem uc_own (W : World) : Uo (W.alloc (Obj.cells #[] 5)) W.heap.size (.slice (some ⟨W.heap.size, 0, none⟩) 0 0) 0 [] := own_zero W
set_option maxRecDepth 100000 in
set_option maxHeartbeats 2000000 in
theorem suc_few (m : Mc) (Ao : Option Addr) (ko : Nat) (os : List Int) (W : World) (hm : m.Ok W) (T : Env2 W) (hos : Bs W Ao ko os) (hx : m.xs.length ≤ 9223372036854775807) (hy : m.ys.length ≤ 9223372036854775807) (hol : os.length ≤ 9223372036854775807) (hf : decide (m.xs.length ≤ 600 ∧ m.ys.length ≤ 600) = false) :
    Calls Tryz.prog 6 #[.agg (mach m), .slice Ao os.length ko] W fun e W' => e = .returned (.bool true) ∧ Dn W W' := by
  have hl := hm.len
  have hc := hm.core
  have C0 := Lib.hid fun w => fun (t : Env2 w) => awakeS w t
  have CF := Lib.hid fun w => fun (ow : m.Ok w) => rfew m false w ow hx hy hf
  clear hf
  have HD := Lib.hid (Dn.refl W)
  go_enter Tryz.func6, Tryz.ntmps6
  go_wp2_with (first | ((with_reducible refine wpList_box (vs := (mach m)) ?_ ?_ ?_); rfl; rfl; intro b_v2 w' nn; refine Hid.out ?_))
  refine Lib.hid ?_
  have HL_v2 : Hid (W.heap.size ≤ b_v2) := Lib.hid (Blk.hi nn HD.out.size)
  have d' := nn.dn
  replace HD := Lib.hid (HD.out.trans d')
  have v2 := nn.blk
  clear d' nn
  go_wp2_with (first | (go_at_call 9; (with_reducible refine (C0.out _ (T.dn HD.out)).mono ?_); rintro e w' ⟨rfl, d'⟩; refine Hid.out ?_))
  refine Lib.hid ?_
  replace v2 := v2.dn d'
  replace HD := Lib.hid (HD.out.trans d')
  clear d'
  go_wp2_with (first | ((with_reducible refine load33 v2 hm.len ?_ ?_ ?_); rfl; rfl) | (go_at_call 10; (with_reducible refine (CF.out _ (hm.dn HD.out)).mono ?_); rintro e w' ⟨rfl, d'⟩; refine Hid.out ?_))
  refine Lib.hid ?_
  replace v2 := v2.dn d'
  replace HD := Lib.hid (HD.out.trans d')
  clear d'
  go_wp2_with (first | (go_at_call 9; (with_reducible refine (C0.out _ (T.dn HD.out)).mono ?_); rintro e w' ⟨rfl, d'⟩; refine Hid.out ?_))
  refine Lib.hid ?_
  replace v2 := v2.dn d'
  replace HD := Lib.hid (HD.out.trans d')
  clear d'
  go_wp2_with fail
  go_ret
  exact ⟨rfl, HD.out⟩
set_option maxRecDepth 100000 in
set_option maxHeartbeats 2000000 in
theorem suc_sup (m : Mc) (Ao : Option Addr) (ko : Nat) (os : List Int) (W : World) (hm : m.Ok W) (T : Env2 W) (hos : Bs W Ao ko os) (hx : m.xs.length ≤ 9223372036854775807) (hy : m.ys.length ≤ 9223372036854775807) (hol : os.length ≤ 9223372036854775807) (hf : decide (m.xs.length ≤ 600 ∧ m.ys.length ≤ 600) = true) (hsu : M.sup m.c = true) :
    Calls Tryz.prog 6 #[.agg (mach m), .slice Ao os.length ko] W fun e W' => e = .returned (.bool true) ∧ Dn W W' := by
  have hl := hm.len
  have hc := hm.core
  have C0 := Lib.hid fun w => fun (t : Env2 w) => awakeS w t
  have CF := Lib.hid fun w => fun (ow : m.Ok w) => rfew m true w ow hx hy hf
  have CSU := Lib.hid fun w => (by have h := super_ m.c w hc; rw [hsu] at h; exact h : Calls Tryz.prog 18 #[.agg (ints .u32 m.c)] w fun e W' => e = .returned (.bool true) ∧ Dn w W')
  clear hsu
  clear hf
  have HD := Lib.hid (Dn.refl W)
  go_enter Tryz.func6, Tryz.ntmps6
  go_wp2_with (first | ((with_reducible refine wpList_box (vs := (mach m)) ?_ ?_ ?_); rfl; rfl; intro b_v2 w' nn; refine Hid.out ?_))
  refine Lib.hid ?_
  have HL_v2 : Hid (W.heap.size ≤ b_v2) := Lib.hid (Blk.hi nn HD.out.size)
  have d' := nn.dn
  replace HD := Lib.hid (HD.out.trans d')
  have v2 := nn.blk
  clear d' nn
  go_wp2_with (first | (go_at_call 9; (with_reducible refine (C0.out _ (T.dn HD.out)).mono ?_); rintro e w' ⟨rfl, d'⟩; refine Hid.out ?_))
  refine Lib.hid ?_
  replace v2 := v2.dn d'
  replace HD := Lib.hid (HD.out.trans d')
  clear d'
  go_wp2_with (first | ((with_reducible refine load33 v2 hm.len ?_ ?_ ?_); rfl; rfl) | (go_at_call 10; (with_reducible refine (CF.out _ (hm.dn HD.out)).mono ?_); rintro e w' ⟨rfl, d'⟩; refine Hid.out ?_))
  refine Lib.hid ?_
  replace v2 := v2.dn d'
  replace HD := Lib.hid (HD.out.trans d')
  clear d'
  go_wp2_with (first | ((with_reducible refine loadCore v2 hm.len ?_ ?_ ?_); rfl; rfl) | (go_at_call 18; (with_reducible refine (CSU.out _).mono ?_); rintro e w' ⟨rfl, d'⟩; refine Hid.out ?_))
  refine Lib.hid ?_
  replace v2 := v2.dn d'
  replace HD := Lib.hid (HD.out.trans d')
  clear d'
  go_wp2_with (first | (go_at_call 9; (with_reducible refine (C0.out _ (T.dn HD.out)).mono ?_); rintro e w' ⟨rfl, d'⟩; refine Hid.out ?_))
  refine Lib.hid ?_
  replace v2 := v2.dn d'
  replace HD := Lib.hid (HD.out.trans d')
  clear d'
  go_wp2_with fail
  go_ret
  exact ⟨rfl, HD.out⟩
set_option maxRecDepth 100000 in
set_option maxHeartbeats 2000000 in
theorem suc_long (m : Mc) (Ao : Option Addr) (ko : Nat) (os : List Int) (W : World) (hm : m.Ok W) (T : Env2 W) (hos : Bs W Ao ko os) (hx : m.xs.length ≤ 9223372036854775807) (hy : m.ys.length ≤ 9223372036854775807) (hol : os.length ≤ 9223372036854775807) (hf : decide (m.xs.length ≤ 600 ∧ m.ys.length ≤ 600) = true) (hsu : M.sup m.c = false) (ho : 600 < os.length) :
    Calls Tryz.prog 6 #[.agg (mach m), .slice Ao os.length ko] W fun e W' => e = .returned (.bool true) ∧ Dn W W' := by
  have hl := hm.len
  have hc := hm.core
  have C0 := Lib.hid fun w => fun (t : Env2 w) => awakeS w t
  have CF := Lib.hid fun w => fun (ow : m.Ok w) => rfew m true w ow hx hy hf
  have CSU := Lib.hid fun w => (by have h := super_ m.c w hc; rw [hsu] at h; exact h : Calls Tryz.prog 18 #[.agg (ints .u32 m.c)] w fun e W' => e = .returned (.bool false) ∧ Dn w W')
  clear hsu
  have ho6 : decide ((600 : Int) < os.length) = true := by simp; omega
  have ho7 : (600 : Int) < os.length := by omega
  clear hf
  have HD := Lib.hid (Dn.refl W)
  go_enter Tryz.func6, Tryz.ntmps6
  go_wp2_with (first | ((with_reducible refine wpList_box (vs := (mach m)) ?_ ?_ ?_); rfl; rfl; intro b_v2 w' nn; refine Hid.out ?_))
  refine Lib.hid ?_
  have HL_v2 : Hid (W.heap.size ≤ b_v2) := Lib.hid (Blk.hi nn HD.out.size)
  have d' := nn.dn
  replace HD := Lib.hid (HD.out.trans d')
  have v2 := nn.blk
  clear d' nn
  go_wp2_with (first | (go_at_call 9; (with_reducible refine (C0.out _ (T.dn HD.out)).mono ?_); rintro e w' ⟨rfl, d'⟩; refine Hid.out ?_))
  refine Lib.hid ?_
  replace v2 := v2.dn d'
  replace HD := Lib.hid (HD.out.trans d')
  clear d'
  go_wp2_with (first | ((with_reducible refine load33 v2 hm.len ?_ ?_ ?_); rfl; rfl) | (go_at_call 10; (with_reducible refine (CF.out _ (hm.dn HD.out)).mono ?_); rintro e w' ⟨rfl, d'⟩; refine Hid.out ?_))
  refine Lib.hid ?_
  replace v2 := v2.dn d'
  replace HD := Lib.hid (HD.out.trans d')
  clear d'
  go_wp2_with (first | ((with_reducible refine loadCore v2 hm.len ?_ ?_ ?_); rfl; rfl) | (go_at_call 18; (with_reducible refine (CSU.out _).mono ?_); rintro e w' ⟨rfl, d'⟩; refine Hid.out ?_))
  refine Lib.hid ?_
  replace v2 := v2.dn d'
  replace HD := Lib.hid (HD.out.trans d')
  clear d'
  go_wp2_with (first | (go_at_call 9; (with_reducible refine (C0.out _ (T.dn HD.out)).mono ?_); rintro e w' ⟨rfl, d'⟩; refine Hid.out ?_))
  refine Lib.hid ?_
  replace v2 := v2.dn d'
  replace HD := Lib.hid (HD.out.trans d')
  clear d'
  go_wp2_with fail
  go_ret
  exact ⟨rfl, HD.out⟩
set_option maxRecDepth 100000 in
set_option maxHeartbeats 2000000 in
theorem suc_main (m : Mc) (Ao : Option Addr) (ko : Nat) (os : List Int) (W : World) (hm : m.Ok W) (T : Env2 W) (hos : Bs W Ao ko os) (hx : m.xs.length ≤ 9223372036854775807) (hy : m.ys.length ≤ 9223372036854775807) (hol : os.length ≤ 9223372036854775807) (hf : decide (m.xs.length ≤ 600 ∧ m.ys.length ≤ 600) = true) (hsu : M.sup m.c = false) (ho : ¬ 600 < os.length) :
    Calls Tryz.prog 6 #[.agg (mach m), .slice Ao os.length ko] W fun e W' => e = .returned (.bool true) ∧ Dn W W' := by
  have hl := hm.len
  have hc := hm.core
  have hs : m.xs.length ≤ 600 := by simp only [decide_eq_true_eq] at hf; omega
  have hn : m.ys.length ≤ 600 := by simp only [decide_eq_true_eq] at hf; omega
  have C0 := Lib.hid fun w => fun (t : Env2 w) => awakeS w t
  have CF := Lib.hid fun w => fun (ow : m.Ok w) => rfew m true w ow hx hy hf
  have ho6 : decide ((600 : Int) < os.length) = false := by simp; omega
  have ho7 : ¬ (600 : Int) < os.length := by omega
  have CSU := Lib.hid fun w => (by have h := super_ m.c w hc; rw [hsu] at h; exact h : Calls Tryz.prog 18 #[.agg (ints .u32 m.c)] w fun e W' => e = .returned (.bool false) ∧ Dn w W')
  clear hf
  obtain ⟨ba, nm22⟩ : ∃ ba, m.c.getD 22 0 = ba := ⟨_, rfl⟩
  obtain ⟨bo, nm23⟩ : ∃ bo, m.c.getD 23 0 = bo := ⟨_, rfl⟩
  have hb5 := hc.rng 22
  have hb6 := hc.rng 23
  rw [nm22] at hb5
  rw [nm23] at hb6
  have b50 := hb5.1
  have b51 := hb5.2
  have b60 := hb6.1
  have b61 := hb6.2
  clear hb5 hb6
  have HO := Lib.hid hm.mem
  have HOS := Lib.hid hos
  clear hos
  have AG : M.Agree ba bo m.xs (M.zsJ ba bo m.xs os m.xs.length) := M.zs_agree
  have e5 : M.csr m.c 5 = ba := nm22
  have e6 : M.csr m.c 6 = bo := nm23
  have CF1 := M.stS_confh hc hsu (by rw [e5, e6]; exact AG) m.ys m.t m.h
  have CF2 := M.stS_confh hc hsu (by rw [e5, e6]; exact AG.symm) m.ys m.t m.h
  rw [e5, e6] at CF1 CF2
  have ZL1 := M.stS_len m.c m.xs m.ys m.h m.t
  have ZL2 := M.stS_len m.c (M.zsJ ba bo m.xs os m.xs.length) m.ys m.h m.t
  obtain ⟨zs, hzs⟩ : ∃ zs, M.zsJ ba bo m.xs os m.xs.length = zs := ⟨_, rfl⟩
  have zl : zs.length = m.xs.length := by rw [← hzs]; exact M.zsJ_len _
  have HZS := Lib.hid hzs
  rw [hzs] at CF1 CF2 ZL2
  obtain ⟨r1, h1⟩ : ∃ r, M.stS m.c m.xs m.ys m.h m.t = r := ⟨_, rfl⟩
  obtain ⟨r2, h2⟩ : ∃ r, M.stS m.c zs m.ys m.h m.t = r := ⟨_, rfl⟩
  rw [h1, h2] at CF1 CF2
  rw [h1] at ZL1
  rw [h2, zl] at ZL2
  obtain ⟨f1, f2, f3, f4, f5, f6⟩ := CF1
  have f7 := CF2.2.2.2.2.2
  clear CF2 AG
  obtain ⟨k, hk⟩ : ∃ k, r1.k = k := ⟨_, rfl⟩
  obtain ⟨v, hv⟩ : ∃ v, r1.v = v := ⟨_, rfl⟩
  obtain ⟨T1, hT⟩ : ∃ t, r1.t = t := ⟨_, rfl⟩
  obtain ⟨hb, hhb⟩ : ∃ h, r1.h = h := ⟨_, rfl⟩
  have C1 := Lib.hid fun w => fun (ow : m.Ok w) (t : Env2 w) => stRunS m m.c m.xs m.ys m.h m.t rfl rfl rfl rfl rfl r1 k v hk hv (by omega) (by omega) w ow t h1
  have C2 := Lib.hid fun (w : World) (n : Mc) (en : n.c = m.c ∧ n.xs = zs ∧ n.ys = m.ys ∧ n.h = m.h ∧ n.t = m.t) (ow : n.Ok w) (t : Env2 w) => stRunS n m.c zs m.ys m.h m.t en.1 en.2.1 en.2.2.1 en.2.2.2.1 en.2.2.2.2 r2 k v (f2 ▸ hk) (f3 ▸ hv) (by omega) (by omega) w ow t h2
  have F1 := Lib.hid f1
  have F4 := Lib.hid (And.intro hT f4)
  have F5 := Lib.hid (And.intro hhb f5)
  have F6 := Lib.hid f6
  have F7 := Lib.hid f7
  have ZL := Lib.hid (And.intro ZL1.1 ZL2.1)
  have ZZ := Lib.hid zl
  have qT := eqTrap_same k v
  clear h1 h2 hk hv hT hhb f1 f2 f3 f4 f5 f6 f7 ZL1 ZL2 zl hzs hsu e5 e6
  have HD := Lib.hid (Dn.refl W)
  go_enter Tryz.func6, Tryz.ntmps6
  go_wp2_with (first | ((with_reducible refine wpList_box (vs := (mach m)) ?_ ?_ ?_); rfl; rfl; intro b_v2 w' nn; refine Hid.out ?_))
  refine Lib.hid ?_
  have HL_v2 : Hid (W.heap.size ≤ b_v2) := Lib.hid (Blk.hi nn HD.out.size)
  have d' := nn.dn
  replace HD := Lib.hid (HD.out.trans d')
  have v2 := nn.blk
  clear d' nn
  go_wp2_with (first | (go_at_call 9; (with_reducible refine (C0.out _ (T.dn HD.out)).mono ?_); rintro e w' ⟨rfl, d'⟩; refine Hid.out ?_))
  refine Lib.hid ?_
  replace v2 := v2.dn d'
  replace HD := Lib.hid (HD.out.trans d')
  clear d'
  go_wp2_with (first | ((with_reducible refine load33 v2 hm.len ?_ ?_ ?_); rfl; rfl) | (go_at_call 10; (with_reducible refine (CF.out _ (hm.dn HD.out)).mono ?_); rintro e w' ⟨rfl, d'⟩; refine Hid.out ?_))
  refine Lib.hid ?_
  replace v2 := v2.dn d'
  replace HD := Lib.hid (HD.out.trans d')
  clear d'
  go_wp2_with (first | ((with_reducible refine loadCore v2 hm.len ?_ ?_ ?_); rfl; rfl) | (go_at_call 18; (with_reducible refine (CSU.out _).mono ?_); rintro e w' ⟨rfl, d'⟩; refine Hid.out ?_))
  refine Lib.hid ?_
  replace v2 := v2.dn d'
  replace HD := Lib.hid (HD.out.trans d')
  clear d'
  have ck0 := v2.word hm.len 22 rfl
  rw [nm22] at ck0
  have ck1 := v2.word hm.len 23 rfl
  rw [nm23] at ck1
  have ck2 := v2.mem hm.len
  go_wp2_with (first | ((with_reducible refine wpList_makeB (n := m.xs.length) (by omega) ?_ ?_ ?_ ?_); rfl; rfl; rfl; intro b_q w' nn; refine Hid.out ?_))
  refine Lib.hid ?_
  clear ck0 ck1 ck2
  have n_v2_q := Lib.hid (nn.ne _ v2.lt)
  have HL_q : Hid (W.heap.size ≤ b_q) := Lib.hid (Blk.hi nn HD.out.size)
  have d' := nn.dn
  replace v2 := v2.dn d'
  replace HD := Lib.hid (HD.out.trans d')
  have q := nn.blk
  clear d' nn
  go_wp2_with (first | ((with_reducible refine load33 v2 hm.len ?_ ?_ ?_); rfl; rfl) | ((with_reducible refine wpList_alloc zeroMach ?_ ?_); rfl; intro b_v8 w' nn; refine Hid.out ?_))
  refine Lib.hid ?_
  have n_v2_v8 := Lib.hid (nn.ne _ v2.lt)
  have n_q_v8 := Lib.hid (nn.ne _ q.lt)
  have HL_v8 : Hid (W.heap.size ≤ b_v8) := Lib.hid (Blk.hi nn HD.out.size)
  have d' := nn.dn
  replace v2 := v2.dn d'
  replace q := q.dn d'
  replace HD := Lib.hid (HD.out.trans d')
  have v8 := nn.blk
  clear d' nn
  go_wp2_with (first | ((with_reducible refine store33 m hm.len v8 zlen ?_ ?_ ?_ ?_); rfl; rfl; rfl; intro w' r' t'; refine Hid.out ?_))
  refine Lib.hid ?_
  replace v2 := v2.trn t' n_v2_v8.out
  replace q := q.trn t' n_q_v8.out
  replace HD := Lib.hid (HD.out.trn HL_v8.out t')
  clear t' v8
  have v8 := r'
  clear r'
  have kk := v2.mem hl
  have vlt := v2.lt
  have OWN := Lib.hid (uc_own w')
  have D0 : Hid (Dn w' (w'.alloc (Obj.cells #[] 5))) := Lib.hid ((Dn.refl w').alloc _)
  have HB := Lib.hid ((HO.out.dn HD.out).dn D0.out)
  have hbW := HD.out.size
  go_wp2_with (at_builtin; (refine wpList_append8 rfl _ _ rfl w'.heap.size (.slice (some ⟨w'.heap.size, 0, none⟩) 0 0) 0 [] rfl OWN.out m.A m.k m.xs rfl HB.out (by omega) D0.out.size ?_); intro r w2 own1 gr1; refine Hid.out ?_)
  refine Lib.hid ?_
  have HW0 : Hid (Uo w2 w'.heap.size r m.xs.length m.xs) := Lib.hid (by unfold Uo; simpa using own1)
  have d' : Dn w' w2 := below_keep D0.out gr1 D0.out.size (fun q e => (World.ownsRow.lt OWN.out q e).1)
  clear own1 gr1 OWN HB kk vlt D0
  replace v2 := v2.dn d'
  replace q := q.dn d'
  replace v8 := v8.dn d'
  replace HD := Lib.hid (HD.out.trans d')
  obtain ⟨base, hbase⟩ : ∃ base, w'.heap.size = base := ⟨_, rfl⟩
  rw [hbase] at HW0 hbW
  replace hbW := Lib.hid hbW
  clear d' hbase
  obtain ⟨A1, c1, rfl, hbs⟩ := Bs.of_own rfl HO.out.2.1 HW0.out
  clear hbs
  obtain ⟨n1, en1⟩ : ∃ n1 : Mc, n1 = { m with A := A1, k := c1 } := ⟨_, rfl⟩
  have ln1 : n1.c.length = 29 := by rw [en1]; exact hl
  have HW1 : Hid (Uo w2 base (.slice n1.A m.xs.length n1.k) m.xs.length m.xs) := Lib.hid (by rw [en1]; exact HW0.out)
  replace en1 := Lib.hid en1
  clear HW0
  go_wp2_with (first | ((with_reducible refine storeMem (A' := A1) (k' := c1) (n' := m.xs.length) (zs := m.xs) v8 hl rfl ?_ ?_ ?_ ?_); rfl; rfl; rfl; intro w' r' t'; refine Hid.out ?_))
  refine Lib.hid ?_
  replace HW1 := Lib.hid (HW1.out.trn v8 (NoU8.mach _) t')
  replace v2 := v2.trn t' n_v2_v8.out
  replace q := q.trn t' n_q_v8.out
  rw [← en1.out] at r'
  replace HD := Lib.hid (HD.out.trn HL_v8.out t')
  clear t' v8
  have v8 := r'
  clear r'
  go_wp2_with fail
  go_loopw [9] (fun k w => UcRel W base b_v2 b_v8 b_q m n1 ba bo os k w) (fun k _ => m.xs.length - (intOf k).toNat)
  case atStart => exact ⟨0, Nat.zero_le _, rfl, HD.out, v2, v8, by rw [M.insJ_zero]; exact q, by rw [M.zsJ_zero]; exact HW1.out⟩
  case round =>
    clear v2 v8 q HW1 HD
    obtain ⟨j, hj, rfl, hd, v2, v8, q, own⟩ := hrel
    have HD := Lib.hid hd
    have HW1 := Lib.hid own
    clear hd own
    by_cases hlt : j < m.xs.length
    · have hlt2 : (j : Int) < m.xs.length := by omega
      have hj0 : (0 : Int) ≤ (j : Int) := by omega
      have hqs : j < (bls (M.insJ ba bo m.xs.length j)).size := by rw [bls_size, M.insJ_len]; exact hlt
      by_cases H : M.Ins ba bo j
      · skip
        have t1 : ba ≤ (j : Int) := H.1
        have t2 : (j : Int) < ba + bo := H.2
        have t1b : decide (ba ≤ (j : Int)) = true := decide_eq_true t1
        have t2b : decide ((j : Int) < ba + bo) = true := decide_eq_true t2
        have hx : M.inb ba bo j = true := M.inb_iff.2 H
        have ck0 := v2.mem hl
        go_wp2_with (first | ((with_reducible refine wpList_store_cell j (.bool true) rfl q infoBo hqs rfl ?_ ?_ ?_ ?_); rfl; rfl; rfl; intro w' r' t'; refine Hid.out ?_))
        refine Lib.hid ?_
        clear ck0
        replace HW1 := Lib.hid (HW1.out.trn q (NoU8.bls _) t')
        replace v2 := v2.trn t' n_v2_q.out
        replace v8 := v8.trn t' n_q_v8.out.symm
        replace HD := Lib.hid (HD.out.trn HL_q.out t')
        clear t' q
        have q : Blk w' b_q 4 (bls (M.insJ ba bo m.xs.length (j + 1))) := by rw [bls_set, ← hx, M.insJ_set hlt] at r'; exact r'
        clear r'
        have kq : w'.cell? ⟨b_q, j, none⟩ = some (.bool true) := q.cell (bls_get (by rw [M.insJ_get hlt, if_pos (Nat.lt_succ_self j), hx]))
        go_wp2_with fail
        clear kq
        go_wp2_with fail
        exact ⟨⟨j + 1, by omega, by go_num, HD.out, v2, v8, q, by rw [M.zsJ_same hlt (M.mixi_in hx)]; exact HW1.out⟩, by simp [intOf]; omega⟩
      · by_cases hjo : j < os.length
        · by_cases H1 : ¬ ba ≤ (j : Int)
          · skip
            have t1 : ¬ ba ≤ (j : Int) := H1
            have t1b : decide (ba ≤ (j : Int)) = false := decide_eq_false t1
            have hx : M.inb ba bo j = false := by unfold M.inb; rw [t1b]; rfl
            have ck0 := v2.mem hl
            go_wp2_with (first | ((with_reducible refine wpList_store_cell j (.bool false) rfl q infoBo hqs rfl ?_ ?_ ?_ ?_); rfl; rfl; rfl; intro w' r' t'; refine Hid.out ?_))
            refine Lib.hid ?_
            clear ck0
            replace HW1 := Lib.hid (HW1.out.trn q (NoU8.bls _) t')
            replace v2 := v2.trn t' n_v2_q.out
            replace v8 := v8.trn t' n_q_v8.out.symm
            replace HD := Lib.hid (HD.out.trn HL_q.out t')
            clear t' q
            have q : Blk w' b_q 4 (bls (M.insJ ba bo m.xs.length (j + 1))) := by rw [bls_set, ← hx, M.insJ_set hlt] at r'; exact r'
            clear r'
            have kq : w'.cell? ⟨b_q, j, none⟩ = some (.bool false) := q.cell (bls_get (by rw [M.insJ_get hlt, if_pos (Nat.lt_succ_self j), hx]))
            have t3 : (j : Int) < os.length := by omega
            have t3b : decide ((j : Int) < os.length) = true := by exact decide_eq_true t3
            go_wp2_with fail
            clear kq
            have d' : Dn w' { w' with drawn := w'.drawn + 1 } := (Dn.refl w').drew
            refine wp_region_still_tail 7 (by kernel_rfl) (by kernel_rfl) ?_
            simp only [List.take_succ_cons, List.take_zero, List.drop_succ_cons, List.drop_zero]
            replace v2 := v2.dn d'
            replace q := q.dn d'
            replace v8 := v8.dn d'
            replace HW1 := Lib.hid (HW1.out.dn d')
            replace HD := Lib.hid (HD.out.trans d')
            clear d'
            generalize ({ w' with drawn := w'.drawn + 1 } : World) = wd at v2 q v8 HW1 HD ⊢
            obtain ⟨g, cap, eg, hg, hfs⟩ := HW1.out.shape (by omega)
            obtain ⟨bd, eb, hbb, hcs⟩ := (HOS.out.dn HD.out).cells (by omega)
            have kb := hcs j hjo
            obtain ⟨y, hy9⟩ : ∃ y, os.getD j 0 = y := ⟨_, rfl⟩
            rw [hy9] at kb
            have y0 := (HOS.out.2.1.getD j).1
            have y1 := (HOS.out.2.1.getD j).2
            rw [hy9] at y0 y1
            clear hcs hbb
            have km := v8.mem ln1
            have hxl : n1.xs.length = m.xs.length := by rw [en1.out]
            rw [hxl, eg] at km
            have own := HW1.out
            rw [eg] at own
            obtain ⟨old, kold⟩ : ∃ old, wd.cell? ⟨g, j, none⟩ = some (.int .u8 old) := ⟨_, own.cell j (by rw [M.zsJ_len]; exact hlt)⟩
            have kfr := hfs j
            have P := Lib.hid (own.put j y)
            have PD : Hid (Dn W (wd.setCell ⟨g, j, none⟩ (.int .u8 y))) := Lib.hid (HD.out.setCell (Nat.le_trans hbW.out hg) _)
            have s2 := own.sep v2
            have s8 := own.sep v8
            have sq := own.sep q
            have P2 := Lib.hid (v2.setc (j := j) (u := .int .u8 y) (g := g) (fun e => s2 (by rw [e]; rfl)))
            have P8 := Lib.hid (v8.setc (j := j) (u := .int .u8 y) (g := g) (fun e => s8 (by rw [e]; rfl)))
            have PQ := Lib.hid (q.setc (j := j) (u := .int .u8 y) (g := g) (fun e => sq (by rw [e]; rfl)))
            have EG := Lib.hid eg
            have HY := Lib.hid hy9
            subst eb
            clear eg hfs s2 s8 sq own hy9 HW1 v2 v8 q HD
            repeat still_step
            refine wpStill_nil ?_
            go_wp2_with fail
            exact ⟨⟨j + 1, by omega, by go_num, PD.out, P2.out, P8.out, PQ.out, by rw [EG.out, ← M.zsJ_set hlt, M.mixi_os hx hjo, HY.out]; exact P.out⟩, by simp [intOf]; omega⟩
          · skip
            have t1 : ba ≤ (j : Int) := Decidable.not_not.1 H1
            have t2 : ¬ (j : Int) < ba + bo := fun e => H ⟨t1, e⟩
            have t1b : decide (ba ≤ (j : Int)) = true := decide_eq_true t1
            have t2b : decide ((j : Int) < ba + bo) = false := decide_eq_false t2
            have hx : M.inb ba bo j = false := by unfold M.inb; rw [t1b, t2b]; rfl
            have ck0 := v2.mem hl
            go_wp2_with (first | ((with_reducible refine wpList_store_cell j (.bool false) rfl q infoBo hqs rfl ?_ ?_ ?_ ?_); rfl; rfl; rfl; intro w' r' t'; refine Hid.out ?_))
            refine Lib.hid ?_
            clear ck0
            replace HW1 := Lib.hid (HW1.out.trn q (NoU8.bls _) t')
            replace v2 := v2.trn t' n_v2_q.out
            replace v8 := v8.trn t' n_q_v8.out.symm
            replace HD := Lib.hid (HD.out.trn HL_q.out t')
            clear t' q
            have q : Blk w' b_q 4 (bls (M.insJ ba bo m.xs.length (j + 1))) := by rw [bls_set, ← hx, M.insJ_set hlt] at r'; exact r'
            clear r'
            have kq : w'.cell? ⟨b_q, j, none⟩ = some (.bool false) := q.cell (bls_get (by rw [M.insJ_get hlt, if_pos (Nat.lt_succ_self j), hx]))
            have t3 : (j : Int) < os.length := by omega
            have t3b : decide ((j : Int) < os.length) = true := by exact decide_eq_true t3
            go_wp2_with fail
            clear kq
            have d' : Dn w' { w' with drawn := w'.drawn + 1 } := (Dn.refl w').drew
            refine wp_region_still_tail 7 (by kernel_rfl) (by kernel_rfl) ?_
            simp only [List.take_succ_cons, List.take_zero, List.drop_succ_cons, List.drop_zero]
            replace v2 := v2.dn d'
            replace q := q.dn d'
            replace v8 := v8.dn d'
            replace HW1 := Lib.hid (HW1.out.dn d')
            replace HD := Lib.hid (HD.out.trans d')
            clear d'
            generalize ({ w' with drawn := w'.drawn + 1 } : World) = wd at v2 q v8 HW1 HD ⊢
            obtain ⟨g, cap, eg, hg, hfs⟩ := HW1.out.shape (by omega)
            obtain ⟨bd, eb, hbb, hcs⟩ := (HOS.out.dn HD.out).cells (by omega)
            have kb := hcs j hjo
            obtain ⟨y, hy9⟩ : ∃ y, os.getD j 0 = y := ⟨_, rfl⟩
            rw [hy9] at kb
            have y0 := (HOS.out.2.1.getD j).1
            have y1 := (HOS.out.2.1.getD j).2
            rw [hy9] at y0 y1
            clear hcs hbb
            have km := v8.mem ln1
            have hxl : n1.xs.length = m.xs.length := by rw [en1.out]
            rw [hxl, eg] at km
            have own := HW1.out
            rw [eg] at own
            obtain ⟨old, kold⟩ : ∃ old, wd.cell? ⟨g, j, none⟩ = some (.int .u8 old) := ⟨_, own.cell j (by rw [M.zsJ_len]; exact hlt)⟩
            have kfr := hfs j
            have P := Lib.hid (own.put j y)
            have PD : Hid (Dn W (wd.setCell ⟨g, j, none⟩ (.int .u8 y))) := Lib.hid (HD.out.setCell (Nat.le_trans hbW.out hg) _)
            have s2 := own.sep v2
            have s8 := own.sep v8
            have sq := own.sep q
            have P2 := Lib.hid (v2.setc (j := j) (u := .int .u8 y) (g := g) (fun e => s2 (by rw [e]; rfl)))
            have P8 := Lib.hid (v8.setc (j := j) (u := .int .u8 y) (g := g) (fun e => s8 (by rw [e]; rfl)))
            have PQ := Lib.hid (q.setc (j := j) (u := .int .u8 y) (g := g) (fun e => sq (by rw [e]; rfl)))
            have EG := Lib.hid eg
            have HY := Lib.hid hy9
            subst eb
            clear eg hfs s2 s8 sq own hy9 HW1 v2 v8 q HD
            repeat still_step
            refine wpStill_nil ?_
            go_wp2_with fail
            exact ⟨⟨j + 1, by omega, by go_num, PD.out, P2.out, P8.out, PQ.out, by rw [EG.out, ← M.zsJ_set hlt, M.mixi_os hx hjo, HY.out]; exact P.out⟩, by simp [intOf]; omega⟩
        · by_cases H1 : ¬ ba ≤ (j : Int)
          · skip
            have t1 : ¬ ba ≤ (j : Int) := H1
            have t1b : decide (ba ≤ (j : Int)) = false := decide_eq_false t1
            have hx : M.inb ba bo j = false := by unfold M.inb; rw [t1b]; rfl
            have ck0 := v2.mem hl
            go_wp2_with (first | ((with_reducible refine wpList_store_cell j (.bool false) rfl q infoBo hqs rfl ?_ ?_ ?_ ?_); rfl; rfl; rfl; intro w' r' t'; refine Hid.out ?_))
            refine Lib.hid ?_
            clear ck0
            replace HW1 := Lib.hid (HW1.out.trn q (NoU8.bls _) t')
            replace v2 := v2.trn t' n_v2_q.out
            replace v8 := v8.trn t' n_q_v8.out.symm
            replace HD := Lib.hid (HD.out.trn HL_q.out t')
            clear t' q
            have q : Blk w' b_q 4 (bls (M.insJ ba bo m.xs.length (j + 1))) := by rw [bls_set, ← hx, M.insJ_set hlt] at r'; exact r'
            clear r'
            have kq : w'.cell? ⟨b_q, j, none⟩ = some (.bool false) := q.cell (bls_get (by rw [M.insJ_get hlt, if_pos (Nat.lt_succ_self j), hx]))
            have t3 : ¬ (j : Int) < os.length := by omega
            have t3b : decide ((j : Int) < os.length) = false := by exact decide_eq_false t3
            go_wp2_with fail
            clear kq
            go_wp2_with fail
            exact ⟨⟨j + 1, by omega, by go_num, HD.out, v2, v8, q, by rw [M.zsJ_same hlt (M.mixi_far hjo)]; exact HW1.out⟩, by simp [intOf]; omega⟩
          · skip
            have t1 : ba ≤ (j : Int) := Decidable.not_not.1 H1
            have t2 : ¬ (j : Int) < ba + bo := fun e => H ⟨t1, e⟩
            have t1b : decide (ba ≤ (j : Int)) = true := decide_eq_true t1
            have t2b : decide ((j : Int) < ba + bo) = false := decide_eq_false t2
            have hx : M.inb ba bo j = false := by unfold M.inb; rw [t1b, t2b]; rfl
            have ck0 := v2.mem hl
            go_wp2_with (first | ((with_reducible refine wpList_store_cell j (.bool false) rfl q infoBo hqs rfl ?_ ?_ ?_ ?_); rfl; rfl; rfl; intro w' r' t'; refine Hid.out ?_))
            refine Lib.hid ?_
            clear ck0
            replace HW1 := Lib.hid (HW1.out.trn q (NoU8.bls _) t')
            replace v2 := v2.trn t' n_v2_q.out
            replace v8 := v8.trn t' n_q_v8.out.symm
            replace HD := Lib.hid (HD.out.trn HL_q.out t')
            clear t' q
            have q : Blk w' b_q 4 (bls (M.insJ ba bo m.xs.length (j + 1))) := by rw [bls_set, ← hx, M.insJ_set hlt] at r'; exact r'
            clear r'
            have kq : w'.cell? ⟨b_q, j, none⟩ = some (.bool false) := q.cell (bls_get (by rw [M.insJ_get hlt, if_pos (Nat.lt_succ_self j), hx]))
            have t3 : ¬ (j : Int) < os.length := by omega
            have t3b : decide ((j : Int) < os.length) = false := by exact decide_eq_false t3
            go_wp2_with fail
            clear kq
            go_wp2_with fail
            exact ⟨⟨j + 1, by omega, by go_num, HD.out, v2, v8, q, by rw [M.zsJ_same hlt (M.mixi_far hjo)]; exact HW1.out⟩, by simp [intOf]; omega⟩
    · have hlt2 : ¬ (j : Int) < m.xs.length := by omega
      obtain rfl : j = m.xs.length := by omega
      obtain ⟨n2, en2⟩ : ∃ n2 : Mc, n2 = { n1 with xs := zs } := ⟨_, rfl⟩
      have ln2 : n2.c.length = 29 := by rw [en2]; exact ln1
      have em : mach n2 = mach n1 := by rw [en2]; unfold mach; rw [show ({ n1 with xs := zs } : Mc).xs.length = n1.xs.length by show zs.length = _; rw [ZZ.out, en1.out]]
      rw [← em] at v8
      have HB2 : Hid (Bs wr n1.A n1.k zs) := Lib.hid (by have own := HW1.out; rw [HZS.out] at own; obtain ⟨A2, c2, e2, hb2⟩ := Bs.of_own (n := m.xs.length) (xs := zs) ZZ.out.symm (by rw [← HZS.out]; exact M.zsJ_by HO.out.2.1 HOS.out.2.1 _) own; injection e2 with e2 _ e3; rw [e2, e3]; exact hb2)
      have o2 : Hid (n2.Ok wr) := Lib.hid (by have o := hm.dn HD.out; rw [en2, en1.out]; have hb3 := HB2.out; rw [en1.out] at hb3; exact ⟨o.core, hb3, o.out, o.t0, o.t1⟩)
      have EN := Lib.hid (show n2.c = m.c ∧ n2.xs = zs ∧ n2.ys = m.ys ∧ n2.h = m.h ∧ n2.t = m.t by rw [en2, en1.out]; exact ⟨rfl, rfl, rfl, rfl, rfl⟩)
      have nx2 : n2.xs.length = m.xs.length := by rw [en2]; exact ZZ.out
      clear HW1 HB2 em en2
      have ck0 := v2.mem hl
      go_wp2_with (first | ((with_reducible refine load33 v2 hl ?_ ?_ ?_); rfl; rfl) | (go_at_call 11; (with_reducible refine (C1.out _ (hm.dn HD.out) (T.dn HD.out)).mono ?_); rintro e w' ⟨m1, rfl, o_m1, e_m1, d'⟩; refine Hid.out ?_))
      refine Lib.hid ?_
      clear ck0
      replace v2 := v2.dn d'
      replace q := q.dn d'
      replace v8 := v8.dn d'
      replace o2 := Lib.hid (o2.out.dn d')
      replace HD := Lib.hid (HD.out.trans d')
      clear d'
      have l_m1 := o_m1.out.len
      have nt1 : m1.t = T1 := e_m1.out.t.trans F4.out.1
      have nh1 : m1.h = hb := e_m1.out.h.trans F5.out.1
      have hq2 : m1.xs.length = m.xs.length := by rw [e_m1.out.xs]; exact ZL.out.1
      have o_m1 := Lib.hid o_m1.out
      go_wp2_with (first | ((with_reducible refine wpList_alloc zeroMach ?_ ?_); rfl; intro b_v10 w' nn; refine Hid.out ?_))
      refine Lib.hid ?_
      have n_v2_v10 := Lib.hid (nn.ne _ v2.lt)
      have n_q_v10 := Lib.hid (nn.ne _ q.lt)
      have n_v8_v10 := Lib.hid (nn.ne _ v8.lt)
      have HL_v10 : Hid (W.heap.size ≤ b_v10) := Lib.hid (Blk.hi nn HD.out.size)
      have d' := nn.dn
      replace v2 := v2.dn d'
      replace q := q.dn d'
      replace v8 := v8.dn d'
      replace o2 := Lib.hid (o2.out.dn d')
      replace o_m1 := Lib.hid (o_m1.out.dn d')
      replace HD := Lib.hid (HD.out.trans d')
      have v10 := nn.blk
      clear d' nn
      go_wp2_with (first | ((with_reducible refine wpList_alloc zeroTrap ?_ ?_); rfl; intro b_v11 w' nn; refine Hid.out ?_))
      refine Lib.hid ?_
      have n_v2_v11 := Lib.hid (nn.ne _ v2.lt)
      have n_q_v11 := Lib.hid (nn.ne _ q.lt)
      have n_v8_v11 := Lib.hid (nn.ne _ v8.lt)
      have n_v10_v11 := Lib.hid (nn.ne _ v10.lt)
      have HL_v11 : Hid (W.heap.size ≤ b_v11) := Lib.hid (Blk.hi nn HD.out.size)
      have d' := nn.dn
      replace v2 := v2.dn d'
      replace q := q.dn d'
      replace v8 := v8.dn d'
      replace v10 := v10.dn d'
      replace o2 := Lib.hid (o2.out.dn d')
      replace o_m1 := Lib.hid (o_m1.out.dn d')
      replace HD := Lib.hid (HD.out.trans d')
      have v11 := nn.blk
      clear d' nn
      go_wp2_with (first | ((with_reducible refine store33 m1 l_m1 v10 zlen ?_ ?_ ?_ ?_); rfl; rfl; rfl; intro w' r' t'; refine Hid.out ?_))
      refine Lib.hid ?_
      replace o2 := Lib.hid (o2.out.trn v10 (NoU8.mach _) t')
      replace o_m1 := Lib.hid (o_m1.out.trn v10 (NoU8.mach _) t')
      replace v2 := v2.trn t' n_v2_v10.out
      replace q := q.trn t' n_q_v10.out
      replace v8 := v8.trn t' n_v8_v10.out
      replace v11 := v11.trn t' n_v10_v11.out.symm
      replace HD := Lib.hid (HD.out.trn HL_v10.out t')
      clear t' v10
      have v10 := r'
      clear r'
      go_wp2_with (first | ((with_reducible refine storeTrap (k := k) (v := v) v11 ?_ ?_ ?_ ?_); rfl; rfl; rfl; intro w' r' t'; refine Hid.out ?_))
      refine Lib.hid ?_
      replace o2 := Lib.hid (o2.out.trn v11 (NoU8.trap _ _) t')
      replace o_m1 := Lib.hid (o_m1.out.trn v11 (NoU8.trap _ _) t')
      replace v2 := v2.trn t' n_v2_v11.out
      replace q := q.trn t' n_q_v11.out
      replace v8 := v8.trn t' n_v8_v11.out
      replace v10 := v10.trn t' n_v10_v11.out
      replace HD := Lib.hid (HD.out.trn HL_v11.out t')
      clear t' v11
      have v11 := r'
      clear r'
      go_wp2_with (first | ((with_reducible refine load33 v8 ln2 ?_ ?_ ?_); rfl; rfl) | (go_at_call 11; (with_reducible refine (C2.out _ n2 EN.out o2.out (T.dn HD.out)).mono ?_); rintro e w' ⟨m2, rfl, o_m2, e_m2, d'⟩; refine Hid.out ?_))
      refine Lib.hid ?_
      replace v2 := v2.dn d'
      replace q := q.dn d'
      replace v8 := v8.dn d'
      replace v10 := v10.dn d'
      replace v11 := v11.dn d'
      replace o2 := Lib.hid (o2.out.dn d')
      replace o_m1 := Lib.hid (o_m1.out.dn d')
      replace HD := Lib.hid (HD.out.trans d')
      clear d'
      have l_m2 := o_m2.out.len
      have nt2 : m2.t = T1 := e_m2.out.t.trans (F4.out.2.symm.trans F4.out.1)
      have nh2 : m2.h = hb := e_m2.out.h.trans (F5.out.2.symm.trans F5.out.1)
      have hq3 : m2.xs.length = m.xs.length := by rw [e_m2.out.xs]; exact ZL.out.2
      have q29 : ∀ w, (Op.equalIn 10000 26 (.agg (ints .u32 m1.c)) (.agg (ints .u32 m2.c))).run Tryz.prog w = .ok true w := fun w => by rw [eq29 l_m1 l_m2, e_m1.out.c, e_m2.out.c, F1.out, beq_self_eq_true]
      have o_m2 := Lib.hid o_m2.out
      go_wp2_with (first | ((with_reducible refine wpList_alloc zeroMach ?_ ?_); rfl; intro b_v12 w' nn; refine Hid.out ?_))
      refine Lib.hid ?_
      have n_v2_v12 := Lib.hid (nn.ne _ v2.lt)
      have n_q_v12 := Lib.hid (nn.ne _ q.lt)
      have n_v8_v12 := Lib.hid (nn.ne _ v8.lt)
      have n_v10_v12 := Lib.hid (nn.ne _ v10.lt)
      have n_v11_v12 := Lib.hid (nn.ne _ v11.lt)
      have HL_v12 : Hid (W.heap.size ≤ b_v12) := Lib.hid (Blk.hi nn HD.out.size)
      have d' := nn.dn
      replace v2 := v2.dn d'
      replace q := q.dn d'
      replace v8 := v8.dn d'
      replace v10 := v10.dn d'
      replace v11 := v11.dn d'
      replace o2 := Lib.hid (o2.out.dn d')
      replace o_m1 := Lib.hid (o_m1.out.dn d')
      replace o_m2 := Lib.hid (o_m2.out.dn d')
      replace HD := Lib.hid (HD.out.trans d')
      have v12 := nn.blk
      clear d' nn
      go_wp2_with (first | ((with_reducible refine wpList_alloc zeroTrap ?_ ?_); rfl; intro b_v13 w' nn; refine Hid.out ?_))
      refine Lib.hid ?_
      have n_v2_v13 := Lib.hid (nn.ne _ v2.lt)
      have n_q_v13 := Lib.hid (nn.ne _ q.lt)
      have n_v8_v13 := Lib.hid (nn.ne _ v8.lt)
      have n_v10_v13 := Lib.hid (nn.ne _ v10.lt)
      have n_v11_v13 := Lib.hid (nn.ne _ v11.lt)
      have n_v12_v13 := Lib.hid (nn.ne _ v12.lt)
      have HL_v13 : Hid (W.heap.size ≤ b_v13) := Lib.hid (Blk.hi nn HD.out.size)
      have d' := nn.dn
      replace v2 := v2.dn d'
      replace q := q.dn d'
      replace v8 := v8.dn d'
      replace v10 := v10.dn d'
      replace v11 := v11.dn d'
      replace v12 := v12.dn d'
      replace o2 := Lib.hid (o2.out.dn d')
      replace o_m1 := Lib.hid (o_m1.out.dn d')
      replace o_m2 := Lib.hid (o_m2.out.dn d')
      replace HD := Lib.hid (HD.out.trans d')
      have v13 := nn.blk
      clear d' nn
      go_wp2_with (first | ((with_reducible refine store33 m2 l_m2 v12 zlen ?_ ?_ ?_ ?_); rfl; rfl; rfl; intro w' r' t'; refine Hid.out ?_))
      refine Lib.hid ?_
      replace o2 := Lib.hid (o2.out.trn v12 (NoU8.mach _) t')
      replace o_m1 := Lib.hid (o_m1.out.trn v12 (NoU8.mach _) t')
      replace o_m2 := Lib.hid (o_m2.out.trn v12 (NoU8.mach _) t')
      replace v2 := v2.trn t' n_v2_v12.out
      replace q := q.trn t' n_q_v12.out
      replace v8 := v8.trn t' n_v8_v12.out
      replace v10 := v10.trn t' n_v10_v12.out
      replace v11 := v11.trn t' n_v11_v12.out
      replace v13 := v13.trn t' n_v12_v13.out.symm
      replace HD := Lib.hid (HD.out.trn HL_v12.out t')
      clear t' v12
      have v12 := r'
      clear r'
      go_wp2_with (first | ((with_reducible refine storeTrap (k := k) (v := v) v13 ?_ ?_ ?_ ?_); rfl; rfl; rfl; intro w' r' t'; refine Hid.out ?_))
      refine Lib.hid ?_
      replace o2 := Lib.hid (o2.out.trn v13 (NoU8.trap _ _) t')
      replace o_m1 := Lib.hid (o_m1.out.trn v13 (NoU8.trap _ _) t')
      replace o_m2 := Lib.hid (o_m2.out.trn v13 (NoU8.trap _ _) t')
      replace v2 := v2.trn t' n_v2_v13.out
      replace q := q.trn t' n_q_v13.out
      replace v8 := v8.trn t' n_v8_v13.out
      replace v10 := v10.trn t' n_v10_v13.out
      replace v11 := v11.trn t' n_v11_v13.out
      replace v12 := v12.trn t' n_v12_v13.out
      replace HD := Lib.hid (HD.out.trn HL_v13.out t')
      clear t' v13
      have v13 := r'
      clear r'
      have ck0 := v10.time l_m1
      rw [nt1] at ck0
      have ck1 := v12.time l_m2
      rw [nt2] at ck1
      have ck2 := v10.halted l_m1
      rw [nh1] at ck2
      have ck3 := v12.halted l_m2
      rw [nh2] at ck3
      have ck4 := v10.mem l_m1
      rw [hq2] at ck4
      have ck5 := v2.mem hl
      have ck6 := v12.mem l_m2
      rw [hq3] at ck6
      go_wp2_with (first | ((with_reducible refine loadTrap v11 ?_ ?_ ?_); rfl; rfl) | ((with_reducible refine loadTrap v13 ?_ ?_ ?_); rfl; rfl) | ((with_reducible refine loadCore v10 l_m1 ?_ ?_ ?_); rfl; rfl) | ((with_reducible refine loadCore v12 l_m2 ?_ ?_ ?_); rfl; rfl) | fail)
      clear ck0 ck1 ck2 ck3 ck4 ck5 ck6
      go_loopw [14] (fun k w => UcRel2 m.xs.length w' k w) (fun k _ => m.xs.length - (intOf k).toNat)
      case atStart => exact ⟨0, Nat.zero_le _, rfl, Dn.refl _⟩
      case round =>
        obtain ⟨j, hj, rfl, dn⟩ := hrel
        replace v2 := v2.dn dn
        replace q := q.dn dn
        replace v8 := v8.dn dn
        replace v10 := v10.dn dn
        replace v11 := v11.dn dn
        replace v12 := v12.dn dn
        replace v13 := v13.dn dn
        replace o2 := Lib.hid (o2.out.dn dn)
        replace o_m1 := Lib.hid (o_m1.out.dn dn)
        replace o_m2 := Lib.hid (o_m2.out.dn dn)
        have HW := Lib.hid (HD.out.trans dn)
        have DJ := Lib.hid dn
        clear HD dn
        by_cases hlt : j < m.xs.length
        · have hlt2 : (j : Int) < m.xs.length := by omega
          have hj0 : (0 : Int) ≤ (j : Int) := by omega
          cases hx : M.inb ba bo j
          · skip
            have HW9 := HW
            have HD := Lib.hid (Dn.refl wr)
            have ck0 := v2.mem hl
            go_wp2_with fail
            clear ck0
            have kq : wr.cell? ⟨b_q, j, none⟩ = some (.bool false) := q.cell (bls_get (by rw [M.insJ_get hlt, if_pos hlt, hx]))
            obtain ⟨da, ea, _, ca⟩ := o_m1.out.mem.cells (by rw [e_m1.out.xs, ZL.out.1]; omega)
            have ka := ca j (by rw [e_m1.out.xs, ZL.out.1]; omega)
            obtain ⟨db, ebb, _, cb⟩ := o_m2.out.mem.cells (by rw [e_m2.out.xs, ZL.out.2]; omega)
            have kb := cb j (by rw [e_m2.out.xs, ZL.out.2]; omega)
            have ma := v10.mem l_m1
            have mb := v12.mem l_m2
            rw [ea, hq2] at ma
            rw [ebb, hq3] at mb
            have ni : ¬ M.Ins ba bo j := fun e => by rw [M.inb_iff.2 e] at hx; cases hx
            obtain ⟨dm, emm, _, cm⟩ := (HO.out.dn HW.out).cells (by omega)
            have km := cm j hlt
            obtain ⟨dn_, enn, _, cn⟩ := o2.out.mem.cells (by omega)
            have kn := cn j (by omega)
            have mm := v2.mem hl
            have mn := v8.mem ln2
            rw [emm] at mm
            rw [enn, nx2] at mn
            have E1 : m1.xs.getD j 0 = m.xs.getD j 0 := by rw [e_m1.out.xs]; have h := (F6.out j).2 ni; rw [List.getD_eq_getElem?_getD, List.getD_eq_getElem?_getD, h]
            have E2 : m2.xs.getD j 0 = n2.xs.getD j 0 := by rw [e_m2.out.xs, EN.out.2.1]; have h := (F7.out j).2 ni; rw [List.getD_eq_getElem?_getD, List.getD_eq_getElem?_getD, h]
            obtain ⟨y, hy9⟩ : ∃ y, m1.xs.getD j 0 = y := ⟨_, rfl⟩
            rw [hy9] at ka
            rw [← E1, hy9] at km
            obtain ⟨y2, hy8⟩ : ∃ y, m2.xs.getD j 0 = y := ⟨_, rfl⟩
            rw [hy8] at kb
            rw [← E2, hy8] at kn
            clear E1 E2 hy9 hy8 ni
            have lkq := fun d os => cell_regrown kq d os
            have lka := fun d os => cell_regrown ka d os
            have lkb := fun d os => cell_regrown kb d os
            have lma := fun d os => cell_regrown ma d os
            have lmb := fun d os => cell_regrown mb d os
            have lkm := fun d os => cell_regrown km d os
            have lkn := fun d os => cell_regrown kn d os
            have lmm := fun d os => cell_regrown mm d os
            have lmn := fun d os => cell_regrown mn d os
            refine wp_region_quiet_below (by kernel_rfl) (by kernel_rfl) ?_
            repeat (first | go_big_quiet_skip | (go_big_quiet_want; (go_big_quiet_op; go_big_quiet_on)))
            refine wpQuiet_nil ?_
            intro _ hw'
            obtain ⟨⟨dq, osq⟩, hw''⟩ := hw'
            subst hw''
            have d' := below_regrown wr dq osq
            clear lkq lka lkb lma lmb lkm lkn lmm lmn kq ka kb ma mb km kn mm mn
            replace v2 := v2.dn d'
            replace q := q.dn d'
            replace v8 := v8.dn d'
            replace v10 := v10.dn d'
            replace v11 := v11.dn d'
            replace v12 := v12.dn d'
            replace v13 := v13.dn d'
            replace o2 := Lib.hid (o2.out.dn d')
            replace o_m1 := Lib.hid (o_m1.out.dn d')
            replace o_m2 := Lib.hid (o_m2.out.dn d')
            replace HD := Lib.hid (HD.out.trans d')
            clear d'
            generalize grow (redrawn wr dq) osq = w' at v2 q v8 v10 v11 v12 v13 o2 o_m1 o_m2 HD ⊢
            go_wp2_with fail
            exact ⟨⟨j + 1, by omega, by go_num, DJ.out.trans HD.out⟩, by simp [intOf]; omega⟩
          · skip
            have HW9 := HW
            have HD := Lib.hid (Dn.refl wr)
            have ck0 := v2.mem hl
            go_wp2_with fail
            clear ck0
            have kq : wr.cell? ⟨b_q, j, none⟩ = some (.bool true) := q.cell (bls_get (by rw [M.insJ_get hlt, if_pos hlt, hx]))
            obtain ⟨da, ea, _, ca⟩ := o_m1.out.mem.cells (by rw [e_m1.out.xs, ZL.out.1]; omega)
            have ka := ca j (by rw [e_m1.out.xs, ZL.out.1]; omega)
            obtain ⟨db, ebb, _, cb⟩ := o_m2.out.mem.cells (by rw [e_m2.out.xs, ZL.out.2]; omega)
            have kb := cb j (by rw [e_m2.out.xs, ZL.out.2]; omega)
            have ma := v10.mem l_m1
            have mb := v12.mem l_m2
            rw [ea, hq2] at ma
            rw [ebb, hq3] at mb
            have E : m1.xs.getD j 0 = m2.xs.getD j 0 := by rw [e_m1.out.xs, e_m2.out.xs]; have h := (F6.out j).1 (M.inb_iff.1 hx); rw [List.getD_eq_getElem?_getD, List.getD_eq_getElem?_getD, h]
            obtain ⟨y, hy9⟩ : ∃ y, m1.xs.getD j 0 = y := ⟨_, rfl⟩
            rw [hy9] at ka
            rw [← E, hy9] at kb
            clear E hy9
            have lkq := fun d os => cell_regrown kq d os
            have lka := fun d os => cell_regrown ka d os
            have lkb := fun d os => cell_regrown kb d os
            have lma := fun d os => cell_regrown ma d os
            have lmb := fun d os => cell_regrown mb d os
            refine wp_region_quiet_below (by kernel_rfl) (by kernel_rfl) ?_
            repeat (first | go_big_quiet_skip | (go_big_quiet_want; (go_big_quiet_op; go_big_quiet_on)))
            refine wpQuiet_nil ?_
            intro _ hw'
            obtain ⟨⟨dq, osq⟩, hw''⟩ := hw'
            subst hw''
            have d' := below_regrown wr dq osq
            clear lkq lka lkb lma lmb kq ka kb ma mb
            replace v2 := v2.dn d'
            replace q := q.dn d'
            replace v8 := v8.dn d'
            replace v10 := v10.dn d'
            replace v11 := v11.dn d'
            replace v12 := v12.dn d'
            replace v13 := v13.dn d'
            replace o2 := Lib.hid (o2.out.dn d')
            replace o_m1 := Lib.hid (o_m1.out.dn d')
            replace o_m2 := Lib.hid (o_m2.out.dn d')
            replace HD := Lib.hid (HD.out.trans d')
            clear d'
            generalize grow (redrawn wr dq) osq = w' at v2 q v8 v10 v11 v12 v13 o2 o_m1 o_m2 HD ⊢
            go_wp2_with fail
            exact ⟨⟨j + 1, by omega, by go_num, DJ.out.trans HD.out⟩, by simp [intOf]; omega⟩
        · have hlt2 : ¬ (j : Int) < m.xs.length := by omega
          have HD := HW
          have ck0 := v2.mem hl
          go_wp2_with fail
          go_ret
          exact ⟨rfl, HD.out⟩
theorem sucWalk (m : Mc) (Ao : Option Addr) (ko : Nat) (os : List Int) (W : World) (hm : m.Ok W) (T : Env2 W) (hos : Bs W Ao ko os) (hx : m.xs.length ≤ 9223372036854775807) (hy : m.ys.length ≤ 9223372036854775807) (hol : os.length ≤ 9223372036854775807) : Calls Tryz.prog 6 #[.agg (mach m), .slice Ao os.length ko] W fun e W' => e = .returned (.bool true) ∧ Dn W W' := by
  cases hf : decide (m.xs.length ≤ 600 ∧ m.ys.length ≤ 600)
  · exact suc_few m Ao ko os W hm T hos hx hy hol hf
  · cases hsu : M.sup m.c
    · by_cases ho : 600 < os.length
      · exact suc_long m Ao ko os W hm T hos hx hy hol hf hsu ho
      · exact suc_main m Ao ko os W hm T hos hx hy hol hf hsu ho
    · exact suc_sup m Ao ko os W hm T hos hx hy hol hf hsu
end Go.Proofs.YtjbnflalngjfaaaGreatDoor
namespace Go.Proofs.YtjbnflalngjfaaaGreatDoor.stepUserModeConfinement
open Go.ChangeShapes Go.WideShapes Go.ChangeAt Go.RowKit
set_option linter.unusedVariables false

set_option maxRecDepth 100000 in
/-- a slice of bytes among the arguments -/
theorem open_bytes {H : Type} {enc : TypeId × Value → H} {w : World} {base : Nat} {held : Bool} {b0 : Nat} {v : Value} {d : DataW H} {p : List MemPlace} (hv : Value.okWide Tryz.prog w .any b0 27 v) (h : DataW.Trod enc Tryz.prog w base (fun _ => true) held 27 v d p) :
    ∃ (A : Option Addr) (k : Nat) (xs : List Int), v = .slice A xs.length k ∧ Bs w A k xs ∧ xs.length ≤ 9223372036854775807 := by
  obtain ⟨a, len, cap, rfl⟩ := okWide_slice Tryz.underlying27 hv
  obtain ⟨fuel, hf⟩ := h
  obtain ⟨A, k, xs, hc, hb, hl⟩ := bytes_cell hf
  have e : Value.slice a len cap = .slice A xs.length k := by simpa [Value.cells] using hc
  exact ⟨A, k, xs, e, hb, hl⟩

theorem readable : ∀ t ∈ Tryz.f6.params.toList, Tryz.prog.readableRec t = true ∧ t < Tryz.prog.types.size := by
  rw [Tryz.params6]
  intro t ht
  have hall : ([30, 27].all fun t => Tryz.prog.readableRec t && decide (t < Tryz.prog.types.size)) = true := by kernel_rfl
  have h := List.all_eq_true.1 hall t ht
  simp only [Bool.and_eq_true, decide_eq_true_eq] at h
  exact h

theorem said (H : Type) (ds : List (DataW H)) (hl : ds.length = Tryz.f6.params.size) : (Rows.stepUserModeConfinementSpec.fn H ds).results = [.lit (.bool true)] ∧ (Rows.stepUserModeConfinementSpec.fn H ds).args = ds ∧ (Rows.stepUserModeConfinementSpec.fn H ds).vars = [] := by
  rw [Tryz.params6] at hl
  match ds, hl with
  | [d0, d1], _ => exact ⟨rfl, rfl, rfl⟩

set_option maxRecDepth 100000 in
theorem walk {H : Type} {enc : TypeId × Value → H} (W : World) (base : Nat) (args : Array Value) (ds : List (DataW H)) (ps : List MemPlace) (E : Env W)
    (hval : ∀ (j : Nat) t v, Tryz.f6.params[j]? = some t → args[j]? = some v → Value.okWide Tryz.prog W .any base t v)
    (hA : DataW.TrodAll enc Tryz.prog W 0 (fun _ => true) true Tryz.f6.params.toList args.toList ds ps) :
    Calls Tryz.prog 6 args W fun e W' => e = .returned (.bool true) ∧ Dn W W' := by
  rw [Tryz.params6] at hA hval
  obtain ⟨v0, vs0, d0, ds0, p0, q0, hargs, rfl, rfl, h0, r0⟩ := trodAll_cons hA
  obtain ⟨v1, vs1, d1, ds1, p1, q1, rfl, rfl, rfl, h1, r1⟩ := trodAll_cons r0
  obtain ⟨rfl, rfl, rfl⟩ := trodAll_nil r1
  obtain rfl : args = #[v0, v1] := by cases args; simp_all
  obtain ⟨m0, rfl, o0, l0, y0⟩ := open33 (hval 0 30 v0 rfl rfl) h0
  obtain ⟨A1, c1, ls1, rfl, hb1, hl1⟩ := open_bytes (hval 1 27 v1 rfl rfl) h1
  exact sucWalk m0 A1 c1 ls1 W o0 E.two hb1 l0 y0  hl1

set_option maxRecDepth 100000 in
theorem lifted (os : Os) (started : os.Started) (H : Type) (enc : TypeId × Value → H) :
    ReturnsInHanded {} Tryz.checked os 6 .any (fun w args => (Rows.stepUserModeConfinementSpec.pre enc Tryz.prog Tryz.f6 [] false w args ∧ laidMetH Tryz.prog laidL w) ∧ sizedMet enc Tryz.prog Tryz.f6 (OpenSpec.ofChange Rows.stepUserModeConfinementSpec) false w args)
      (Rows.stepUserModeConfinementSpec.post enc Tryz.prog Tryz.f6 false true false false) :=
  returns_of_walk (C := Tryz.checked) rfl own started (by kernel_rfl) Tryz.func6 rfl readable (by kernel_rfl) said
    (ChangeSpec.witness_shaped (enc := enc) (C := Tryz.checked) (os := os) (X := fun w _ => laidMetH Tryz.prog laidL w) false (World.laidAll Tryz.prog os laidL) #[.agg #[.int .u32 0, .int .u32 0, .int .u32 0, .int .u32 0, .int .u32 0, .int .u32 0, .int .u32 0, .int .u32 0, .int .u32 0, .int .u32 0, .int .u32 0, .int .u32 0, .int .u32 0, .int .u32 0, .int .u32 0, .int .u32 0, .int .u32 0, .int .u32 0, .int .u32 0, .int .u32 0, .int .u32 0, .int .u32 0, .int .u32 0, .int .u32 0, .int .u32 0, .int .u32 0, .int .u32 0, .int .u32 0, .int .u32 0, .slice none 0 0, .int .u64 0, .slice none 0 0, .bool false], .slice none 0 0] 8 (World.laidAll_os _ _ _)
      (start_shaped os _) (by kernel_rfl) (by kernel_rfl) (by kernel_rfl) (start_met os _)) walk

theorem over : Rows.StepUserModeConfinementSaid :=
  OpenClaim.holds_of_wide 6 Tryz.f6 rfl rfl rfl rfl rfl rfl rfl ⟨rfl, rfl, rfl, rfl, rfl⟩ rfl rfl rfl rfl rfl (by kernel_rfl) Tryz.func6 (by kernel_rfl)
    (of_decide_eq_true (by kernel_rfl)) (by unfold Func.isWrapper; first | (rw [if_pos (by decide +kernel)]; kernel_rfl) | (rw [if_neg (by decide +kernel)]; exact ⟨rfl, rfl⟩))
    (fun os started H enc _ => lifted os started H enc)

/-- THE STATEMENT -/
theorem proved : Rows.StepUserModeConfinementCardSaid :=
  Claim7.holds_tied_plain_at .later [] [.data, .data, .data] true (true, "8ffe0c46f9e92efb28c84b61b42d6714ec4442e8e8d9bdcf048d53b195bf4d9d") false
    over (fun _ h => by cases h) (by kernel_rfl) (fun _ h => by cases h) stepUserModeConfinement_row_tie rfl ⟨rfl, rfl⟩ (by kernel_rfl) rfl
    (fun f fn hf hfn => by
      obtain rfl : f = 6 := Option.some.inj ((show Tryz.prog.funcNamed "gaoler/gaolerlaw13.StepUserModeConfinement" = some 6 by kernel_rfl).symm.trans hf) |>.symm
      obtain rfl : fn = Tryz.f6 := (Option.some.inj (Tryz.func6.symm.trans hfn)).symm
      exact ⟨by kernel_rfl, fun j t ht => by
        rw [Tryz.params6] at ht
        have hm : t ∈ [30, 27] := by simpa using Array.mem_of_getElem? ht
        have hall : ([30, 27].all fun u => !Tryz.prog.wantsStandIn u) = true := by kernel_rfl
        exact (show Tryz.prog.wantsStandIn t = false by simpa using List.all_eq_true.1 hall t hm)⟩)
    (by kernel_rfl)
#print axioms proved
end Go.Proofs.YtjbnflalngjfaaaGreatDoor.stepUserModeConfinement
