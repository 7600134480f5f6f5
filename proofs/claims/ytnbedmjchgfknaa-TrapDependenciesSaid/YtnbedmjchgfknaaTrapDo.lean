/-
  What trap.Enter and trap.Return return when called: contracts over the translated program. Conditions: those that stand in each theorem.
-/
import Derived.Test.YtnbedmjchgfknaaTrapCalls
namespace Go.Proofs.Ytnbedmjchgfknaa
open Go.ChangeShapes Go.WideShapes Go.ChangeAt Go.RowKit Go.Sort
set_option linter.unusedVariables false

/-- the cells of a trap -/
def trapV (k v : Int) : Array Value := #[.int .i64 k, .int .u32 v]
/-- the blocks of a call with a processor, something else and a result -/
theorem box_res2 (W : World) (c : List Int) (t t' : TypeId) (cs : Array Value) : ∃ w b0 b1 b2, w = ((W.alloc (.cells (ints .u32 c) t)).alloc (.cells cs t')).alloc (.cells (ints .u32 (zeros 29)) t) ∧ b0 = W.heap.size ∧ b1 = W.heap.size + 1 ∧ b2 = W.heap.size + 1 + 1 ∧
    Row w b0 t .u32 c ∧ Blk w b1 t' cs ∧ Row w b2 t .u32 (zeros 29) ∧ b0 ≠ b1 ∧ b0 ≠ b2 ∧ b1 ≠ b2 ∧ W.heap.size ≤ b0 ∧ W.heap.size ≤ b2 ∧ Dn W w := by
  have h1 := Blk.new (W.alloc (.cells (ints .u32 c) t)) t' cs
  have h2 := Row.new ((W.alloc (.cells (ints .u32 c) t)).alloc (.cells cs t')) t .u32 (zeros 29)
  simp only [size_alloc] at h1 h2
  exact ⟨_, _, _, _, rfl, rfl, rfl, rfl, ((Row.new W t .u32 c).old _).old _, h1.old _, h2, by omega, by omega, by omega, Nat.le_refl _, by omega, (((Dn.refl W).alloc _).alloc _).alloc _⟩
theorem size_alloc2 (w : World) (o p : Obj) : ((w.alloc o).alloc p).heap.size = w.heap.size + 1 + 1 := by simp

set_option maxHeartbeats 1000000 in
theorem trapReturn (c : List Int) (W : World) (hc : M.Core c) :
    Calls Try.prog 10 #[.agg (ints .u32 c)] W fun e W' => e = .returned (.agg (ints .u32 (M.leave c))) ∧ Dn W W' := by
  obtain ⟨w, b0, b1, hw, hb0, hb1, r0, r1, ne, l0, l1, D⟩ := box_res W c 26
  have s := hc.csr 1
  have C := Lib.hid fun w => trRtn c (M.csr c 1) w hc s.1 s.2
  have k0 : w.cell? ⟨b0, 18, none⟩ = some (.int .u32 (M.csr c 1)) := r0.cell 18 (by rw [hc.len]; decide)
  have hd : M.Core (M.goTo c (M.csr c 1) (M.rtn (M.csr c 0))) := hc.leave
  have HD := Lib.hid D
  have HL := Lib.hid (And.intro l0 l1)
  clear D l0 l1
  unfold M.leave
  generalize M.goTo c (M.csr c 1) (M.rtn (M.csr c 0)) = d at *
  go_enter Try.func10, Try.ntmps10
  go_wp2_with ((with_reducible refine alloc29 (b := W.heap.size + 1) (size_alloc _ _) ?_ ?_); rfl; refine Hid.out ?_)
  refine Lib.hid ?_
  rw [← hw, ← hb1, ← hb0]
  clear hw hb0 hb1
  go_wp2_with (first
    | ((with_reducible refine load29 r0 hc.len ?_ ?_ ?_); rfl; rfl)
    | (go_at_call 16; (with_reducible refine (C.out _).mono ?_); rintro e w1 ⟨rfl, d1⟩; replace r1 := r1.dn d1; replace HD := Lib.hid (HD.out.trans d1); clear d1 r0 k0)
    | ((with_reducible refine restore29 _ hd.len r1 core_zeros.len ?_ ?_ ?_ ?_); rfl; rfl; rfl; intro w4 r4 t4))
  exact ret29 rfl rfl r4 hd.len ⟨rfl, HD.out.trn HL.out.2 t4⟩ rfl

set_option maxHeartbeats 1000000 in
theorem trapEnter (c : List Int) (k v : Int) (W : World) (hc : M.Core c) (k0 : -9223372036854775808 ≤ k) (k1 : k < 9223372036854775808) (v0 : 0 ≤ v) (v1 : v < 4294967296) :
    Calls Try.prog 8 #[.agg (ints .u32 c), .agg #[.int .i64 k, .int .u32 v]] W fun e W' => e = .returned (.agg (ints .u32 (M.enter c k v))) ∧ Dn W W' := by
  obtain ⟨w, b0, b1, b2, hw, hb0, hb1, hb2, r0, g1, r2, n01, n02, n12, l0, l2, D⟩ := box_res2 W c 26 28 #[.int .i64 k, .int .u32 v]
  have j0 : w.cell? ⟨b1, 0, none⟩ = some (.int .i64 k) := g1.cell rfl
  have j1 : w.cell? ⟨b1, 1, none⟩ = some (.int .u32 v) := g1.cell rfl
  have HG := Lib.hid g1
  have HD := Lib.hid D
  have HL := Lib.hid (And.intro l0 l2)
  clear D l0 l2 g1
  by_cases hk : k = 0
  · have hd : M.enter c k v = c := by unfold M.enter; rw [if_pos hk]
    rw [hd]
    clear hd
    have hkb : (k == 0) = true := by simpa using hk
    subst hk
    go_enter Try.func8, Try.ntmps8
    go_wp2_with ((with_reducible refine alloc29 (b := W.heap.size + 1 + 1) (size_alloc2 _ _ _) ?_ ?_); rfl; refine Hid.out ?_)
    refine Lib.hid ?_
    rw [← hw, ← hb2, ← hb1, ← hb0]
    clear hw hb0 hb1 hb2
    go_wp2_with (first
      | ((with_reducible refine load29 r0 hc.len ?_ ?_ ?_); rfl; rfl)
      | ((with_reducible refine restore29 _ hc.len r2 core_zeros.len ?_ ?_ ?_ ?_); rfl; rfl; rfl; intro w4 r4 t4))
    exact ret29 rfl rfl r4 hc.len ⟨rfl, HD.out.trn HL.out.2 t4⟩ rfl
  · have hd : M.enter c k v = M.goTo (((c.set 18 (M.pc c)).set 19 (k % 4294967296)).set 20 v) (M.csr c 4) (M.ent (M.csr c 0)) := by unfold M.enter; rw [if_neg hk]
    have hdc : M.Core (M.enter c k v) := hc.enter v0 v1
    have hkb : (k == 0) = false := by simpa using hk
    have h1 := hc.set 18 _ hc.pc.1 hc.pc.2
    have h2 := h1.set 19 (k % 4294967296) (by omega) (by omega)
    have h3 := h2.set 20 v v0 v1
    have e0 : M.csr (((c.set 18 (M.pc c)).set 19 (k % 4294967296)).set 20 v) 0 = M.csr c 0 := by
      rw [M.csr_set h2 3 0 _ (by decide), if_neg (by decide), M.csr_set h1 2 0 _ (by decide), if_neg (by decide), M.csr_set hc 1 0 _ (by decide), if_neg (by decide)]
    have e4 : M.csr (((c.set 18 (M.pc c)).set 19 (k % 4294967296)).set 20 v) 4 = M.csr c 4 := by
      rw [M.csr_set h2 3 4 _ (by decide), if_neg (by decide), M.csr_set h1 2 4 _ (by decide), if_neg (by decide), M.csr_set hc 1 4 _ (by decide), if_neg (by decide)]
    have C := Lib.hid fun w => trEnt (((c.set 18 (M.pc c)).set 19 (k % 4294967296)).set 20 v) (M.csr c 4) w h3 (hc.csr 4).1 (hc.csr 4).2
    rw [e0, ← hd] at C
    have p0 : w.cell? ⟨b0, 16, none⟩ = some (.int .u32 (M.pc c)) := r0.cell 16 (by rw [hc.len]; decide)
    have HE := Lib.hid e4
    clear hd hk e0 e4
    generalize M.enter c k v = d at *
    generalize M.pc c = p at *
    go_enter Try.func8, Try.ntmps8
    go_wp2_with ((with_reducible refine alloc29 (b := W.heap.size + 1 + 1) (size_alloc2 _ _ _) ?_ ?_); rfl; refine Hid.out ?_)
    refine Lib.hid ?_
    rw [← hw, ← hb2, ← hb1, ← hb0]
    clear hw hb0 hb1 hb2
    go_wp2_with ((with_reducible refine store1 (i := 18) (u := p) r0 hc ?_ ?_ ?_ ?_ ?_); rfl; rfl; rfl; rfl; intro w2 r0' t2; refine Hid.out ?_)
    refine Lib.hid ?_
    replace r2 := r2.trn t2 n02.symm
    replace HG := Lib.hid (HG.out.trn t2 n01.symm)
    replace HD := Lib.hid (HD.out.trn HL.out.1 t2)
    replace j0 : w2.cell? ⟨b1, 0, none⟩ = some (.int .i64 k) := HG.out.cell rfl
    clear t2 r0 p0 j1
    go_wp2_with ((with_reducible refine store1 (i := 19) (u := k % 4294967296) r0' h1 ?_ ?_ ?_ ?_ ?_); rfl; rfl; rfl; rfl; intro w3 r0 t2; refine Hid.out ?_)
    refine Lib.hid ?_
    replace r2 := r2.trn t2 n02.symm
    replace HG := Lib.hid (HG.out.trn t2 n01.symm)
    replace HD := Lib.hid (HD.out.trn HL.out.1 t2)
    have j1 : w3.cell? ⟨b1, 1, none⟩ = some (.int .u32 v) := HG.out.cell rfl
    clear t2 r0' j0
    go_wp2_with ((with_reducible refine store1 (i := 20) (u := v) r0 h2 ?_ ?_ ?_ ?_ ?_); rfl; rfl; rfl; rfl; intro w4 r0' t2; refine Hid.out ?_)
    refine Lib.hid ?_
    replace r2 := r2.trn t2 n02.symm
    replace HD := Lib.hid (HD.out.trn HL.out.1 t2)
    have j4 : w4.cell? ⟨b0, 21, none⟩ = some (.int .u32 (M.csr c 4)) := by
      have h := r0'.cell 21 (by rw [h3.len]; decide)
      rw [← HE.out]
      exact h
    clear t2 r0 j1 HG HE
    go_wp2_with (first
      | ((with_reducible refine load29 r0' h3.len ?_ ?_ ?_); rfl; rfl)
      | (go_at_call 16; (with_reducible refine (C.out _).mono ?_); rintro e w5 ⟨rfl, d1⟩; replace r2 := r2.dn d1; replace HD := Lib.hid (HD.out.trans d1); clear d1 r0' j4)
      | ((with_reducible refine restore29 _ hdc.len r2 core_zeros.len ?_ ?_ ?_ ?_); rfl; rfl; rfl; intro w6 r6 t6))
    exact ret29 rfl rfl r6 hdc.len ⟨rfl, HD.out.trn HL.out.2 t6⟩ rfl
end Go.Proofs.Ytnbedmjchgfknaa
