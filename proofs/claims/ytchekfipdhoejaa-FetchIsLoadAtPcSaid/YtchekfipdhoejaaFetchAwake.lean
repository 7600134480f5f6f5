/-
  The law package's awake returns true, and what its size returns: contracts over the translated program. No conditions.
-/
import Derived.Test.YtchekfipdhoejaaFetchRefs
import Derived.Test.YtchekfipdhoejaaDrawn
namespace Go.Proofs.Ytchekfipdhoejaa
open Go.ChangeShapes Go.WideShapes Go.ChangeAt Go.RowKit Go.Sort
set_option linter.unusedVariables false

theorem Blk.pc {w : World} {b : Nat} {m : Mc} {t : TypeId} (g : Blk w b t (mach m)) (h : m.c.length = 29) : w.cell? ⟨b, 16, none⟩ = some (.int .u32 (M.pc m.c)) := g.word h 16 rfl
theorem Blk.csr {w : World} {b : Nat} {m : Mc} {t : TypeId} (g : Blk w b t (mach m)) (h : m.c.length = 29) (i : Nat) (hi : decide (17 + i < 29) = true) : w.cell? ⟨b, 17 + i, none⟩ = some (.int .u32 (M.csr m.c i)) := g.word h (17 + i) hi
/-- the machines of awake -/
def awM (g : Nat) (c : List Int) (t : Int) : Mc := ⟨c, some ⟨g, 0, none⟩, 8, [1, 2, 3, 4, 5, 6, 7, 8], t, none, 0, [], false⟩
def aw1 : List Int := (zeros 29).set 17 1
def aw2 : List Int := ((aw1.set 17 2).set 22 4).set 23 4
def aw3 : List Int := aw2.set 26 5
theorem core_lit {c : List Int} (h : (decide (c.length = 29) && c.all fun x => decide (0 ≤ x ∧ x < 4294967296)) = true) : M.Core c := by
  simp only [Bool.and_eq_true, decide_eq_true_eq, List.all_eq_true] at h
  exact M.core_of h.1 h.2
theorem awM_len {g : Nat} {c : List Int} {t : Int} : (awM g c t).xs.length ≤ 100000 := by show (8 : Nat) ≤ 100000; decide
theorem awM_ok {w : World} {g : Nat} {c : List Int} {t : Int} (hb : Bs w (some ⟨g, 0, none⟩) 8 [1, 2, 3, 4, 5, 6, 7, 8]) (hc : M.Core c) (t0 : 0 ≤ t) (t1 : t < 18446744073709551616) : (awM g c t).Ok w := ⟨hc, hb, bs_nil w, t0, t1⟩
set_option maxRecDepth 100000 in
set_option maxHeartbeats 2000000 in
theorem size_ (b : Bool) (n : Int) (W : World) (hn : (if b = true then 4 else 1 : Int) = n) :
    Calls Try.prog 11 #[.bool b] W fun e W' => e = .returned (.int .i64 n) ∧ W = W' := by
  subst hn
  cases b
  · go_enter Try.func11, Try.ntmps11
    go_wp2
    go_ret
    exact ⟨rfl, rfl⟩
  · go_enter Try.func11, Try.ntmps11
    go_wp2
    go_ret
    exact ⟨rfl, rfl⟩
set_option maxRecDepth 100000 in
set_option maxHeartbeats 2000000 in
theorem awake (W : World) : Calls Try.prog 9 #[] W fun e W' => e = .returned (.bool true) ∧ Dn W W' := by
  have HD := Lib.hid (Dn.refl W)
  obtain ⟨x0, g, hw0, hb0, rb, d', nn⟩ := new_blk W 5 (ints .u8 [1, 2, 3, 4, 5, 6, 7, 8])
  clear nn
  have oz : Hid (Bs x0 (some ⟨g, 0, none⟩) 8 [1, 2, 3, 4, 5, 6, 7, 8]) := Lib.hid (Bs.of_row rb.row (by_lit rfl))
  replace HD := Lib.hid (HD.out.trans d')
  clear d' rb
  obtain ⟨x1, b_m, hw1, hb1, m, d', nn⟩ := new_blk x0 30 (mach Mc.zero)
  have HL_m : Hid (W.heap.size ≤ b_m) := Lib.hid (by have := HD.out.size; omega)
  clear nn
  replace HD := Lib.hid (HD.out.trans d')
  replace oz := Lib.hid (oz.out.dn d')
  clear d'
  rw [hw0] at hw1 hb1
  simp only [size_alloc] at hb1
  go_enter Try.func9, Try.ntmps9
  go_wp2_with ((with_reducible refine alloc33 (b := W.heap.size + 1) (size_alloc _ _) ?_ ?_); rfl; refine Hid.out ?_)
  refine Lib.hid ?_
  have hw1' : x1 = (W.alloc (.cells #[.int .u8 1, .int .u8 2, .int .u8 3, .int .u8 4, .int .u8 5, .int .u8 6, .int .u8 7, .int .u8 8] 5)).alloc (.cells (mach Mc.zero) 30) := hw1
  rw [← hw1', ← hb1, ← hb0]
  clear hw0 hw1 hw1' hb0 hb1
  go_wp2_with (first | ((with_reducible refine load33 m zlen ?_ ?_ ?_); rfl; rfl) | ((with_reducible refine loadCore m zlen ?_ ?_ ?_); rfl; rfl) | ((with_reducible refine loadCsr m zlen ?_ ?_ ?_); rfl; rfl) | ((with_reducible refine store33 (awM g (zeros 29) 0) rfl m zlen ?_ ?_ ?_ ?_); rfl; rfl; rfl; intro w' r' t'; refine Hid.out ?_))
  refine Lib.hid ?_
  replace oz := Lib.hid (oz.out.trn m (NoU8.mach _) t')
  replace HD := Lib.hid (HD.out.trn HL_m.out t')
  clear t' m
  have m := r'
  clear r'
  go_wp2_with (first | ((with_reducible refine load33 m rfl ?_ ?_ ?_); rfl; rfl) | ((with_reducible refine loadCore m rfl ?_ ?_ ?_); rfl; rfl) | ((with_reducible refine loadCsr m rfl ?_ ?_ ?_); rfl; rfl) | ((with_reducible refine storeWord (i := 17) (u := 1) m rfl ?_ ?_ ?_ rfl ?_); rfl; rfl; rfl; intro w' r' t'; refine Hid.out ?_))
  refine Lib.hid ?_
  replace oz := Lib.hid (oz.out.trn m (NoU8.mach _) t')
  replace HD := Lib.hid (HD.out.trn HL_m.out t')
  clear t' m
  have m := r'
  clear r'
  replace m : Blk w' b_m 30 (mach (awM g aw1 0)) := m
  have om : Hid ((awM g aw1 0).Ok w') := Lib.hid (awM_ok oz.out (core_lit (by decide)) (by decide) (by decide))
  have C1 := Lib.hid fun w => fun (ow : (awM g aw1 0).Ok w) => fload (awM g aw1 0) 4 4 w ow awM_len (by decide) (by decide) (by decide) (by decide) 134678021 0 0 (by kernel_rfl) (by kernel_rfl) (by kernel_rfl)
  have C2 := Lib.hid fun w => fun (ow : (awM g aw1 0).Ok w) => fload (awM g aw1 0) 2 4 w ow awM_len (by decide) (by decide) (by decide) (by decide) 0 4 2 (by kernel_rfl) (by kernel_rfl) (by kernel_rfl)
  have C3 := Lib.hid fun w => fun (ow : (awM g aw1 0).Ok w) => fload (awM g aw1 0) 8 1 w ow awM_len (by decide) (by decide) (by decide) (by decide) 0 3 8 (by kernel_rfl) (by kernel_rfl) (by kernel_rfl)
  have C4 := Lib.hid fun w => fun (ow : (awM g aw1 0).Ok w) => fstore (awM g aw1 0) 7 1 9 w ow awM_len (by decide) (by decide) (by decide) (by decide) (by decide) (by decide) [1, 2, 3, 4, 5, 6, 7, 9] 0 0 (by kernel_rfl) (by kernel_rfl) (by kernel_rfl)
  go_wp2_with (first | ((with_reducible refine load33 m rfl ?_ ?_ ?_); rfl; rfl) | ((with_reducible refine loadCore m rfl ?_ ?_ ?_); rfl; rfl) | ((with_reducible refine loadCsr m rfl ?_ ?_ ?_); rfl; rfl) | (go_at_call 14; (first | (with_reducible refine (C1.out _ om.out).mono ?_)); rintro e w' ⟨rfl, d'⟩; replace m := m.dn d'; replace om := Lib.hid (om.out.dn d'); replace oz := Lib.hid (oz.out.dn d'); replace HD := Lib.hid (HD.out.trans d'); clear d') | ((with_reducible refine allocTrap (b := w'.heap.size) rfl ?_ ?_); rfl; refine Hid.out ?_))
  refine Lib.hid ?_
  obtain ⟨x', b_t, hw, hb, t, d', nn⟩ := new_blk w' 35 #[.int .i64 0, .int .u32 0]
  have n_m_t := Lib.hid (nn _ m.lt)
  have HL_t : Hid (W.heap.size ≤ b_t) := Lib.hid (by have := HD.out.size; omega)
  rw [← hw, ← hb]
  clear hw hb nn
  replace m := m.dn d'
  replace om := Lib.hid (om.out.dn d')
  replace oz := Lib.hid (oz.out.dn d')
  replace HD := Lib.hid (HD.out.trans d')
  clear d'
  go_wp2_with (first | ((with_reducible refine load33 m rfl ?_ ?_ ?_); rfl; rfl) | ((with_reducible refine loadCore m rfl ?_ ?_ ?_); rfl; rfl) | ((with_reducible refine loadCsr m rfl ?_ ?_ ?_); rfl; rfl) | ((with_reducible refine loadTrap t ?_ ?_ ?_); rfl; rfl) | ((with_reducible refine storeTrap (k := 0) (v := 0) t ?_ ?_ ?_ ?_); rfl; rfl; rfl; intro w' r' t'; refine Hid.out ?_))
  refine Lib.hid ?_
  replace om := Lib.hid (om.out.trn t (NoU8.trap _ _) t')
  replace oz := Lib.hid (oz.out.trn t (NoU8.trap _ _) t')
  replace m := m.trn t' n_m_t.out
  replace HD := Lib.hid (HD.out.trn HL_t.out t')
  clear t' t
  have t := r'
  clear r'
  clear C1
  go_wp2_with (first | ((with_reducible refine load33 m rfl ?_ ?_ ?_); rfl; rfl) | ((with_reducible refine loadCore m rfl ?_ ?_ ?_); rfl; rfl) | ((with_reducible refine loadCsr m rfl ?_ ?_ ?_); rfl; rfl) | ((with_reducible refine loadTrap t ?_ ?_ ?_); rfl; rfl) | (go_at_call 14; (first | (with_reducible refine (C2.out _ om.out).mono ?_)); rintro e w' ⟨rfl, d'⟩; replace m := m.dn d'; replace t := t.dn d'; replace om := Lib.hid (om.out.dn d'); replace oz := Lib.hid (oz.out.dn d'); replace HD := Lib.hid (HD.out.trans d'); clear d') | ((with_reducible refine allocTrap (b := w'.heap.size) rfl ?_ ?_); rfl; refine Hid.out ?_))
  refine Lib.hid ?_
  obtain ⟨x', b_u, hw, hb, u, d', nn⟩ := new_blk w' 35 #[.int .i64 0, .int .u32 0]
  have n_m_u := Lib.hid (nn _ m.lt)
  have n_t_u := Lib.hid (nn _ t.lt)
  have HL_u : Hid (W.heap.size ≤ b_u) := Lib.hid (by have := HD.out.size; omega)
  rw [← hw, ← hb]
  clear hw hb nn
  replace m := m.dn d'
  replace t := t.dn d'
  replace om := Lib.hid (om.out.dn d')
  replace oz := Lib.hid (oz.out.dn d')
  replace HD := Lib.hid (HD.out.trans d')
  clear d'
  go_wp2_with (first | ((with_reducible refine load33 m rfl ?_ ?_ ?_); rfl; rfl) | ((with_reducible refine loadCore m rfl ?_ ?_ ?_); rfl; rfl) | ((with_reducible refine loadCsr m rfl ?_ ?_ ?_); rfl; rfl) | ((with_reducible refine loadTrap t ?_ ?_ ?_); rfl; rfl) | ((with_reducible refine loadTrap u ?_ ?_ ?_); rfl; rfl) | ((with_reducible refine storeTrap (k := 4) (v := 2) u ?_ ?_ ?_ ?_); rfl; rfl; rfl; intro w' r' t'; refine Hid.out ?_))
  refine Lib.hid ?_
  replace om := Lib.hid (om.out.trn u (NoU8.trap _ _) t')
  replace oz := Lib.hid (oz.out.trn u (NoU8.trap _ _) t')
  replace m := m.trn t' n_m_u.out
  replace t := t.trn t' n_t_u.out
  replace HD := Lib.hid (HD.out.trn HL_u.out t')
  clear t' u
  have u := r'
  clear r'
  clear C2
  go_wp2_with (first | ((with_reducible refine load33 m rfl ?_ ?_ ?_); rfl; rfl) | ((with_reducible refine loadCore m rfl ?_ ?_ ?_); rfl; rfl) | ((with_reducible refine loadCsr m rfl ?_ ?_ ?_); rfl; rfl) | ((with_reducible refine loadTrap t ?_ ?_ ?_); rfl; rfl) | ((with_reducible refine loadTrap u ?_ ?_ ?_); rfl; rfl) | (go_at_call 14; (first | (with_reducible refine (C3.out _ om.out).mono ?_)); rintro e w' ⟨rfl, d'⟩; replace m := m.dn d'; replace t := t.dn d'; replace u := u.dn d'; replace om := Lib.hid (om.out.dn d'); replace oz := Lib.hid (oz.out.dn d'); replace HD := Lib.hid (HD.out.trans d'); clear d') | ((with_reducible refine allocTrap (b := w'.heap.size) rfl ?_ ?_); rfl; refine Hid.out ?_))
  refine Lib.hid ?_
  obtain ⟨x', b_z, hw, hb, z, d', nn⟩ := new_blk w' 35 #[.int .i64 0, .int .u32 0]
  have n_m_z := Lib.hid (nn _ m.lt)
  have n_t_z := Lib.hid (nn _ t.lt)
  have n_u_z := Lib.hid (nn _ u.lt)
  have HL_z : Hid (W.heap.size ≤ b_z) := Lib.hid (by have := HD.out.size; omega)
  rw [← hw, ← hb]
  clear hw hb nn
  replace m := m.dn d'
  replace t := t.dn d'
  replace u := u.dn d'
  replace om := Lib.hid (om.out.dn d')
  replace oz := Lib.hid (oz.out.dn d')
  replace HD := Lib.hid (HD.out.trans d')
  clear d'
  go_wp2_with (first | ((with_reducible refine load33 m rfl ?_ ?_ ?_); rfl; rfl) | ((with_reducible refine loadCore m rfl ?_ ?_ ?_); rfl; rfl) | ((with_reducible refine loadCsr m rfl ?_ ?_ ?_); rfl; rfl) | ((with_reducible refine loadTrap t ?_ ?_ ?_); rfl; rfl) | ((with_reducible refine loadTrap u ?_ ?_ ?_); rfl; rfl) | ((with_reducible refine loadTrap z ?_ ?_ ?_); rfl; rfl) | ((with_reducible refine storeTrap (k := 3) (v := 8) z ?_ ?_ ?_ ?_); rfl; rfl; rfl; intro w' r' t'; refine Hid.out ?_))
  refine Lib.hid ?_
  replace om := Lib.hid (om.out.trn z (NoU8.trap _ _) t')
  replace oz := Lib.hid (oz.out.trn z (NoU8.trap _ _) t')
  replace m := m.trn t' n_m_z.out
  replace t := t.trn t' n_t_z.out
  replace u := u.trn t' n_u_z.out
  replace HD := Lib.hid (HD.out.trn HL_z.out t')
  clear t' z
  have z := r'
  clear r'
  clear C3
  go_wp2_with (first | ((with_reducible refine load33 m rfl ?_ ?_ ?_); rfl; rfl) | ((with_reducible refine loadCore m rfl ?_ ?_ ?_); rfl; rfl) | ((with_reducible refine loadCsr m rfl ?_ ?_ ?_); rfl; rfl) | ((with_reducible refine loadTrap t ?_ ?_ ?_); rfl; rfl) | ((with_reducible refine loadTrap u ?_ ?_ ?_); rfl; rfl) | ((with_reducible refine loadTrap z ?_ ?_ ?_); rfl; rfl) | (go_at_call 17; (with_reducible refine (C4.out _ om.out).mono ?_); rintro e w' ⟨m', rfl, on, hu, d'⟩; replace m := m.dn d'; replace t := t.dn d'; replace u := u.dn d'; replace z := z.dn d'; replace om := Lib.hid (om.out.dn d'); replace oz := Lib.hid (oz.out.dn d'); replace HD := Lib.hid (HD.out.trans d'); clear d') | ((with_reducible refine alloc33 (b := w'.heap.size) rfl ?_ ?_); rfl; refine Hid.out ?_))
  refine Lib.hid ?_
  have hn := on.out.len
  obtain ⟨x', b_n, hw, hb, n, d', nn⟩ := new_blk w' 30 (mach Mc.zero)
  have n_m_n := Lib.hid (nn _ m.lt)
  have n_t_n := Lib.hid (nn _ t.lt)
  have n_u_n := Lib.hid (nn _ u.lt)
  have n_z_n := Lib.hid (nn _ z.lt)
  have HL_n : Hid (W.heap.size ≤ b_n) := Lib.hid (by have := HD.out.size; omega)
  rw [← hw, ← hb]
  clear hw hb nn
  replace m := m.dn d'
  replace t := t.dn d'
  replace u := u.dn d'
  replace z := z.dn d'
  replace om := Lib.hid (om.out.dn d')
  replace on := Lib.hid (on.out.dn d')
  replace oz := Lib.hid (oz.out.dn d')
  replace HD := Lib.hid (HD.out.trans d')
  clear d'
  go_wp2_with (first | ((with_reducible refine load33 m rfl ?_ ?_ ?_); rfl; rfl) | ((with_reducible refine loadCore m rfl ?_ ?_ ?_); rfl; rfl) | ((with_reducible refine loadCsr m rfl ?_ ?_ ?_); rfl; rfl) | ((with_reducible refine loadTrap t ?_ ?_ ?_); rfl; rfl) | ((with_reducible refine loadTrap u ?_ ?_ ?_); rfl; rfl) | ((with_reducible refine loadTrap z ?_ ?_ ?_); rfl; rfl) | ((with_reducible refine load33 n zlen ?_ ?_ ?_); rfl; rfl) | ((with_reducible refine loadCore n zlen ?_ ?_ ?_); rfl; rfl) | ((with_reducible refine loadCsr n zlen ?_ ?_ ?_); rfl; rfl) | ((with_reducible refine allocTrap (b := x'.heap.size) rfl ?_ ?_); rfl; refine Hid.out ?_))
  refine Lib.hid ?_
  obtain ⟨x', b_x, hw, hb, x, d', nn⟩ := new_blk x' 35 #[.int .i64 0, .int .u32 0]
  have n_m_x := Lib.hid (nn _ m.lt)
  have n_t_x := Lib.hid (nn _ t.lt)
  have n_u_x := Lib.hid (nn _ u.lt)
  have n_z_x := Lib.hid (nn _ z.lt)
  have n_n_x := Lib.hid (nn _ n.lt)
  have HL_x : Hid (W.heap.size ≤ b_x) := Lib.hid (by have := HD.out.size; omega)
  rw [← hw, ← hb]
  clear hw hb nn
  replace m := m.dn d'
  replace t := t.dn d'
  replace u := u.dn d'
  replace z := z.dn d'
  replace n := n.dn d'
  replace om := Lib.hid (om.out.dn d')
  replace on := Lib.hid (on.out.dn d')
  replace oz := Lib.hid (oz.out.dn d')
  replace HD := Lib.hid (HD.out.trans d')
  clear d'
  go_wp2_with (first | ((with_reducible refine load33 m rfl ?_ ?_ ?_); rfl; rfl) | ((with_reducible refine loadCore m rfl ?_ ?_ ?_); rfl; rfl) | ((with_reducible refine loadCsr m rfl ?_ ?_ ?_); rfl; rfl) | ((with_reducible refine loadTrap t ?_ ?_ ?_); rfl; rfl) | ((with_reducible refine loadTrap u ?_ ?_ ?_); rfl; rfl) | ((with_reducible refine loadTrap z ?_ ?_ ?_); rfl; rfl) | ((with_reducible refine load33 n zlen ?_ ?_ ?_); rfl; rfl) | ((with_reducible refine loadCore n zlen ?_ ?_ ?_); rfl; rfl) | ((with_reducible refine loadCsr n zlen ?_ ?_ ?_); rfl; rfl) | ((with_reducible refine loadTrap x ?_ ?_ ?_); rfl; rfl) | ((with_reducible refine store33 m' hn n zlen ?_ ?_ ?_ ?_); rfl; rfl; rfl; intro w' r' t'; refine Hid.out ?_))
  refine Lib.hid ?_
  replace om := Lib.hid (om.out.trn n (NoU8.mach _) t')
  replace on := Lib.hid (on.out.trn n (NoU8.mach _) t')
  replace oz := Lib.hid (oz.out.trn n (NoU8.mach _) t')
  replace m := m.trn t' n_m_n.out
  replace t := t.trn t' n_t_n.out
  replace u := u.trn t' n_u_n.out
  replace z := z.trn t' n_z_n.out
  replace x := x.trn t' n_n_x.out.symm
  replace HD := Lib.hid (HD.out.trn HL_n.out t')
  clear t' n
  have n := r'
  clear r'
  go_wp2_with (first | ((with_reducible refine load33 m rfl ?_ ?_ ?_); rfl; rfl) | ((with_reducible refine loadCore m rfl ?_ ?_ ?_); rfl; rfl) | ((with_reducible refine loadCsr m rfl ?_ ?_ ?_); rfl; rfl) | ((with_reducible refine loadTrap t ?_ ?_ ?_); rfl; rfl) | ((with_reducible refine loadTrap u ?_ ?_ ?_); rfl; rfl) | ((with_reducible refine loadTrap z ?_ ?_ ?_); rfl; rfl) | ((with_reducible refine load33 n hn ?_ ?_ ?_); rfl; rfl) | ((with_reducible refine loadCore n hn ?_ ?_ ?_); rfl; rfl) | ((with_reducible refine loadCsr n hn ?_ ?_ ?_); rfl; rfl) | ((with_reducible refine loadTrap x ?_ ?_ ?_); rfl; rfl) | ((with_reducible refine storeTrap (k := 0) (v := 0) x ?_ ?_ ?_ ?_); rfl; rfl; rfl; intro w' r' t'; refine Hid.out ?_))
  refine Lib.hid ?_
  replace om := Lib.hid (om.out.trn x (NoU8.trap _ _) t')
  replace on := Lib.hid (on.out.trn x (NoU8.trap _ _) t')
  replace oz := Lib.hid (oz.out.trn x (NoU8.trap _ _) t')
  replace m := m.trn t' n_m_x.out
  replace t := t.trn t' n_t_x.out
  replace u := u.trn t' n_u_x.out
  replace z := z.trn t' n_z_x.out
  replace n := n.trn t' n_n_x.out
  replace HD := Lib.hid (HD.out.trn HL_x.out t')
  clear t' x
  have x := r'
  clear r'
  clear C4
  go_wp2_with (first | ((with_reducible refine load33 m rfl ?_ ?_ ?_); rfl; rfl) | ((with_reducible refine loadCore m rfl ?_ ?_ ?_); rfl; rfl) | ((with_reducible refine loadCsr m rfl ?_ ?_ ?_); rfl; rfl) | ((with_reducible refine loadTrap t ?_ ?_ ?_); rfl; rfl) | ((with_reducible refine loadTrap u ?_ ?_ ?_); rfl; rfl) | ((with_reducible refine loadTrap z ?_ ?_ ?_); rfl; rfl) | ((with_reducible refine load33 n hn ?_ ?_ ?_); rfl; rfl) | ((with_reducible refine loadCore n hn ?_ ?_ ?_); rfl; rfl) | ((with_reducible refine loadCsr n hn ?_ ?_ ?_); rfl; rfl) | ((with_reducible refine loadTrap x ?_ ?_ ?_); rfl; rfl) | ((with_reducible refine storeWord (i := 17) (u := 2) m rfl ?_ ?_ ?_ rfl ?_); rfl; rfl; rfl; intro w' r' t'; refine Hid.out ?_))
  refine Lib.hid ?_
  replace om := Lib.hid (om.out.trn m (NoU8.mach _) t')
  replace on := Lib.hid (on.out.trn m (NoU8.mach _) t')
  replace oz := Lib.hid (oz.out.trn m (NoU8.mach _) t')
  replace t := t.trn t' n_m_t.out.symm
  replace u := u.trn t' n_m_u.out.symm
  replace z := z.trn t' n_m_z.out.symm
  replace n := n.trn t' n_m_n.out.symm
  replace x := x.trn t' n_m_x.out.symm
  replace HD := Lib.hid (HD.out.trn HL_m.out t')
  clear t' m
  have m := r'
  clear r'
  replace m : Blk w' b_m 30 (mach (awM g (aw1.set 17 2) 0)) := m
  go_wp2_with (first | ((with_reducible refine load33 m rfl ?_ ?_ ?_); rfl; rfl) | ((with_reducible refine loadCore m rfl ?_ ?_ ?_); rfl; rfl) | ((with_reducible refine loadCsr m rfl ?_ ?_ ?_); rfl; rfl) | ((with_reducible refine loadTrap t ?_ ?_ ?_); rfl; rfl) | ((with_reducible refine loadTrap u ?_ ?_ ?_); rfl; rfl) | ((with_reducible refine loadTrap z ?_ ?_ ?_); rfl; rfl) | ((with_reducible refine load33 n hn ?_ ?_ ?_); rfl; rfl) | ((with_reducible refine loadCore n hn ?_ ?_ ?_); rfl; rfl) | ((with_reducible refine loadCsr n hn ?_ ?_ ?_); rfl; rfl) | ((with_reducible refine loadTrap x ?_ ?_ ?_); rfl; rfl) | ((with_reducible refine storeWord (i := 22) (u := 4) m rfl ?_ ?_ ?_ rfl ?_); rfl; rfl; rfl; intro w' r' t'; refine Hid.out ?_))
  refine Lib.hid ?_
  replace om := Lib.hid (om.out.trn m (NoU8.mach _) t')
  replace on := Lib.hid (on.out.trn m (NoU8.mach _) t')
  replace oz := Lib.hid (oz.out.trn m (NoU8.mach _) t')
  replace t := t.trn t' n_m_t.out.symm
  replace u := u.trn t' n_m_u.out.symm
  replace z := z.trn t' n_m_z.out.symm
  replace n := n.trn t' n_m_n.out.symm
  replace x := x.trn t' n_m_x.out.symm
  replace HD := Lib.hid (HD.out.trn HL_m.out t')
  clear t' m
  have m := r'
  clear r'
  replace m : Blk w' b_m 30 (mach (awM g ((aw1.set 17 2).set 22 4) 0)) := m
  go_wp2_with (first | ((with_reducible refine load33 m rfl ?_ ?_ ?_); rfl; rfl) | ((with_reducible refine loadCore m rfl ?_ ?_ ?_); rfl; rfl) | ((with_reducible refine loadCsr m rfl ?_ ?_ ?_); rfl; rfl) | ((with_reducible refine loadTrap t ?_ ?_ ?_); rfl; rfl) | ((with_reducible refine loadTrap u ?_ ?_ ?_); rfl; rfl) | ((with_reducible refine loadTrap z ?_ ?_ ?_); rfl; rfl) | ((with_reducible refine load33 n hn ?_ ?_ ?_); rfl; rfl) | ((with_reducible refine loadCore n hn ?_ ?_ ?_); rfl; rfl) | ((with_reducible refine loadCsr n hn ?_ ?_ ?_); rfl; rfl) | ((with_reducible refine loadTrap x ?_ ?_ ?_); rfl; rfl) | ((with_reducible refine storeWord (i := 23) (u := 4) m rfl ?_ ?_ ?_ rfl ?_); rfl; rfl; rfl; intro w' r' t'; refine Hid.out ?_))
  refine Lib.hid ?_
  replace om := Lib.hid (om.out.trn m (NoU8.mach _) t')
  replace on := Lib.hid (on.out.trn m (NoU8.mach _) t')
  replace oz := Lib.hid (oz.out.trn m (NoU8.mach _) t')
  replace t := t.trn t' n_m_t.out.symm
  replace u := u.trn t' n_m_u.out.symm
  replace z := z.trn t' n_m_z.out.symm
  replace n := n.trn t' n_m_n.out.symm
  replace x := x.trn t' n_m_x.out.symm
  replace HD := Lib.hid (HD.out.trn HL_m.out t')
  clear t' m
  have m := r'
  clear r'
  replace m : Blk w' b_m 30 (mach (awM g aw2 0)) := m
  replace om : Hid ((awM g aw2 0).Ok w') := Lib.hid (awM_ok oz.out (core_lit (by decide)) (by decide) (by decide))
  have C5 := Lib.hid fun w => fun (ow : (awM g aw2 0).Ok w) => ffetch (awM g aw2 0) w ow awM_len 134678021 0 0 (by kernel_rfl) (by kernel_rfl) (by kernel_rfl)
  go_wp2_with (first | ((with_reducible refine load33 m rfl ?_ ?_ ?_); rfl; rfl) | ((with_reducible refine loadCore m rfl ?_ ?_ ?_); rfl; rfl) | ((with_reducible refine loadCsr m rfl ?_ ?_ ?_); rfl; rfl) | ((with_reducible refine loadTrap t ?_ ?_ ?_); rfl; rfl) | ((with_reducible refine loadTrap u ?_ ?_ ?_); rfl; rfl) | ((with_reducible refine loadTrap z ?_ ?_ ?_); rfl; rfl) | ((with_reducible refine load33 n hn ?_ ?_ ?_); rfl; rfl) | ((with_reducible refine loadCore n hn ?_ ?_ ?_); rfl; rfl) | ((with_reducible refine loadCsr n hn ?_ ?_ ?_); rfl; rfl) | ((with_reducible refine loadTrap x ?_ ?_ ?_); rfl; rfl) | (go_at_call 16; (first | (with_reducible refine (C5.out _ om.out).mono ?_)); rintro e w' ⟨rfl, d'⟩; replace m := m.dn d'; replace t := t.dn d'; replace u := u.dn d'; replace z := z.dn d'; replace n := n.dn d'; replace x := x.dn d'; replace om := Lib.hid (om.out.dn d'); replace on := Lib.hid (on.out.dn d'); replace oz := Lib.hid (oz.out.dn d'); replace HD := Lib.hid (HD.out.trans d'); clear d') | ((with_reducible refine allocTrap (b := w'.heap.size) rfl ?_ ?_); rfl; refine Hid.out ?_))
  refine Lib.hid ?_
  obtain ⟨x', b_y, hw, hb, y, d', nn⟩ := new_blk w' 35 #[.int .i64 0, .int .u32 0]
  have n_m_y := Lib.hid (nn _ m.lt)
  have n_t_y := Lib.hid (nn _ t.lt)
  have n_u_y := Lib.hid (nn _ u.lt)
  have n_z_y := Lib.hid (nn _ z.lt)
  have n_n_y := Lib.hid (nn _ n.lt)
  have n_x_y := Lib.hid (nn _ x.lt)
  have HL_y : Hid (W.heap.size ≤ b_y) := Lib.hid (by have := HD.out.size; omega)
  rw [← hw, ← hb]
  clear hw hb nn
  replace m := m.dn d'
  replace t := t.dn d'
  replace u := u.dn d'
  replace z := z.dn d'
  replace n := n.dn d'
  replace x := x.dn d'
  replace om := Lib.hid (om.out.dn d')
  replace on := Lib.hid (on.out.dn d')
  replace oz := Lib.hid (oz.out.dn d')
  replace HD := Lib.hid (HD.out.trans d')
  clear d'
  go_wp2_with (first | ((with_reducible refine load33 m rfl ?_ ?_ ?_); rfl; rfl) | ((with_reducible refine loadCore m rfl ?_ ?_ ?_); rfl; rfl) | ((with_reducible refine loadCsr m rfl ?_ ?_ ?_); rfl; rfl) | ((with_reducible refine loadTrap t ?_ ?_ ?_); rfl; rfl) | ((with_reducible refine loadTrap u ?_ ?_ ?_); rfl; rfl) | ((with_reducible refine loadTrap z ?_ ?_ ?_); rfl; rfl) | ((with_reducible refine load33 n hn ?_ ?_ ?_); rfl; rfl) | ((with_reducible refine loadCore n hn ?_ ?_ ?_); rfl; rfl) | ((with_reducible refine loadCsr n hn ?_ ?_ ?_); rfl; rfl) | ((with_reducible refine loadTrap x ?_ ?_ ?_); rfl; rfl) | ((with_reducible refine loadTrap y ?_ ?_ ?_); rfl; rfl) | ((with_reducible refine storeTrap (k := 0) (v := 0) y ?_ ?_ ?_ ?_); rfl; rfl; rfl; intro w' r' t'; refine Hid.out ?_))
  refine Lib.hid ?_
  replace om := Lib.hid (om.out.trn y (NoU8.trap _ _) t')
  replace on := Lib.hid (on.out.trn y (NoU8.trap _ _) t')
  replace oz := Lib.hid (oz.out.trn y (NoU8.trap _ _) t')
  replace m := m.trn t' n_m_y.out
  replace t := t.trn t' n_t_y.out
  replace u := u.trn t' n_u_y.out
  replace z := z.trn t' n_z_y.out
  replace n := n.trn t' n_n_y.out
  replace x := x.trn t' n_x_y.out
  replace HD := Lib.hid (HD.out.trn HL_y.out t')
  clear t' y
  have y := r'
  clear r'
  clear C5
  go_wp2_with (first | ((with_reducible refine load33 m rfl ?_ ?_ ?_); rfl; rfl) | ((with_reducible refine loadCore m rfl ?_ ?_ ?_); rfl; rfl) | ((with_reducible refine loadCsr m rfl ?_ ?_ ?_); rfl; rfl) | ((with_reducible refine loadTrap t ?_ ?_ ?_); rfl; rfl) | ((with_reducible refine loadTrap u ?_ ?_ ?_); rfl; rfl) | ((with_reducible refine loadTrap z ?_ ?_ ?_); rfl; rfl) | ((with_reducible refine load33 n hn ?_ ?_ ?_); rfl; rfl) | ((with_reducible refine loadCore n hn ?_ ?_ ?_); rfl; rfl) | ((with_reducible refine loadCsr n hn ?_ ?_ ?_); rfl; rfl) | ((with_reducible refine loadTrap x ?_ ?_ ?_); rfl; rfl) | ((with_reducible refine loadTrap y ?_ ?_ ?_); rfl; rfl) | ((with_reducible refine storeWord (i := 26) (u := 5) m rfl ?_ ?_ ?_ rfl ?_); rfl; rfl; rfl; intro w' r' t'; refine Hid.out ?_))
  refine Lib.hid ?_
  replace om := Lib.hid (om.out.trn m (NoU8.mach _) t')
  replace on := Lib.hid (on.out.trn m (NoU8.mach _) t')
  replace oz := Lib.hid (oz.out.trn m (NoU8.mach _) t')
  replace t := t.trn t' n_m_t.out.symm
  replace u := u.trn t' n_m_u.out.symm
  replace z := z.trn t' n_m_z.out.symm
  replace n := n.trn t' n_m_n.out.symm
  replace x := x.trn t' n_m_x.out.symm
  replace y := y.trn t' n_m_y.out.symm
  replace HD := Lib.hid (HD.out.trn HL_m.out t')
  clear t' m
  have m := r'
  clear r'
  replace m : Blk w' b_m 30 (mach (awM g aw3 0)) := m
  replace om : Hid ((awM g aw3 0).Ok w') := Lib.hid (awM_ok oz.out (core_lit (by decide)) (by decide) (by decide))
  have C6 := Lib.hid fun w => fun (ow : (awM g aw3 0).Ok w) => fpend (awM g aw3 0) w ow
  rw [show M.due (awM g aw3 0).c (awM g aw3 0).t = false from by kernel_rfl] at C6
  go_wp2_with (first | ((with_reducible refine load33 m rfl ?_ ?_ ?_); rfl; rfl) | ((with_reducible refine loadCore m rfl ?_ ?_ ?_); rfl; rfl) | ((with_reducible refine loadCsr m rfl ?_ ?_ ?_); rfl; rfl) | ((with_reducible refine loadTrap t ?_ ?_ ?_); rfl; rfl) | ((with_reducible refine loadTrap u ?_ ?_ ?_); rfl; rfl) | ((with_reducible refine loadTrap z ?_ ?_ ?_); rfl; rfl) | ((with_reducible refine load33 n hn ?_ ?_ ?_); rfl; rfl) | ((with_reducible refine loadCore n hn ?_ ?_ ?_); rfl; rfl) | ((with_reducible refine loadCsr n hn ?_ ?_ ?_); rfl; rfl) | ((with_reducible refine loadTrap x ?_ ?_ ?_); rfl; rfl) | ((with_reducible refine loadTrap y ?_ ?_ ?_); rfl; rfl) | (go_at_call 20; (first | (with_reducible refine (C6.out _ om.out).mono ?_)); rintro e w' ⟨rfl, d'⟩; replace m := m.dn d'; replace t := t.dn d'; replace u := u.dn d'; replace z := z.dn d'; replace n := n.dn d'; replace x := x.dn d'; replace y := y.dn d'; replace om := Lib.hid (om.out.dn d'); replace on := Lib.hid (on.out.dn d'); replace oz := Lib.hid (oz.out.dn d'); replace HD := Lib.hid (HD.out.trans d'); clear d') | ((with_reducible refine storeTime (u := 5) m rfl ?_ ?_ ?_ ?_); rfl; rfl; rfl; intro w' r' t'; refine Hid.out ?_))
  refine Lib.hid ?_
  replace om := Lib.hid (om.out.trn m (NoU8.mach _) t')
  replace on := Lib.hid (on.out.trn m (NoU8.mach _) t')
  replace oz := Lib.hid (oz.out.trn m (NoU8.mach _) t')
  replace t := t.trn t' n_m_t.out.symm
  replace u := u.trn t' n_m_u.out.symm
  replace z := z.trn t' n_m_z.out.symm
  replace n := n.trn t' n_m_n.out.symm
  replace x := x.trn t' n_m_x.out.symm
  replace y := y.trn t' n_m_y.out.symm
  replace HD := Lib.hid (HD.out.trn HL_m.out t')
  clear t' m
  have m := r'
  clear r'
  replace m : Blk w' b_m 30 (mach (awM g aw3 5)) := m
  replace om : Hid ((awM g aw3 5).Ok w') := Lib.hid (awM_ok oz.out (core_lit (by decide)) (by decide) (by decide))
  have C7 := Lib.hid fun w => fun (ow : (awM g aw3 5).Ok w) => fpend (awM g aw3 5) w ow
  rw [show M.due (awM g aw3 5).c (awM g aw3 5).t = true from by kernel_rfl] at C7
  obtain ⟨A', k', hm'⟩ := hu.out
  rw [hm'] at n on hn
  clear hu hm'
  obtain ⟨ad, ha, hab, hcs⟩ := on.out.mem.cells (show (0 : Nat) < 8 by decide)
  have c0 : w'.cell? ⟨b_n, 29, none⟩ = some (.slice (some ad) 8 k') := by rw [← ha]; exact n.mem hn
  have c1 : w'.cell? ⟨ad.block, ad.off + 7, none⟩ = some (.int .u8 9) := hcs 7 (show (7 : Nat) < 8 by decide)
  clear ha hab hcs on oz C6
  have q1 : ∀ w, (Op.equalIn 10000 35 (.agg #[.int .i64 0, .int .u32 0]) (.agg #[.int .i64 0, .int .u32 0])).run Try.prog w = .ok true w := fun w => eqTrap 0 0 0 0 w
  have q2 : ∀ w, (Op.equalIn 10000 35 (.agg #[.int .i64 4, .int .u32 2]) (.agg #[.int .i64 4, .int .u32 2])).run Try.prog w = .ok true w := fun w => eqTrap 4 2 4 2 w
  have q3 : ∀ w, (Op.equalIn 10000 35 (.agg #[.int .i64 3, .int .u32 8]) (.agg #[.int .i64 3, .int .u32 8])).run Try.prog w = .ok true w := fun w => eqTrap 3 8 3 8 w
  clear n
  go_wp2_with (first | ((with_reducible refine load33 m rfl ?_ ?_ ?_); rfl; rfl) | ((with_reducible refine loadCore m rfl ?_ ?_ ?_); rfl; rfl) | ((with_reducible refine loadCsr m rfl ?_ ?_ ?_); rfl; rfl) | ((with_reducible refine loadTrap t ?_ ?_ ?_); rfl; rfl) | ((with_reducible refine loadTrap u ?_ ?_ ?_); rfl; rfl) | ((with_reducible refine loadTrap z ?_ ?_ ?_); rfl; rfl) | ((with_reducible refine loadTrap x ?_ ?_ ?_); rfl; rfl) | ((with_reducible refine loadTrap y ?_ ?_ ?_); rfl; rfl) | (go_at_call 20; (first | (with_reducible refine (C7.out _ om.out).mono ?_)); rintro e w' ⟨rfl, d'⟩; replace m := m.dn d'; replace t := t.dn d'; replace u := u.dn d'; replace z := z.dn d'; replace x := x.dn d'; replace y := y.dn d'; replace om := Lib.hid (om.out.dn d'); replace HD := Lib.hid (HD.out.trans d'); clear d'))
  go_ret
  exact ⟨rfl, HD.out⟩
end Go.Proofs.Ytchekfipdhoejaa
