/-
  The law PrivConsoleCollectsBytes of the law package returns true at every input, and each argument reads as it did; conditions: the listed package variables hold what the program's text lays there (the card ties them to it).
-/
import Derived.Test.YthkhahfhbhgfhaaDoorCards
import Derived.Test.YthkhahfhbhgfhaaDoorTie
import Derived.Test.YthkhahfhbhgfhaaDoorPkW
import Derived.Test.YthkhahfhbhgfhaaDoorPkG
namespace Go.Proofs.YthkhahfhbhgfhaaDoor
open Go.ChangeShapes Go.WideShapes Go.ChangeAt Go.RowKit Go.Sort
set_option linter.unusedVariables false

/-- an own row of bytes -/
def Own (w : World) (base : Nat) (v : Value) (n : Nat) (xs : List Int) : Prop := w.ownsRow base 5 1 v n (xs.map (Value.int .u8))
theorem Own.dn {w w' : World} {base n : Nat} {v : Value} {xs : List Int} (h : Own w base v n xs) (d : Dn w w') : Own w' base v n xs := by
  rcases h.2 with h0 | ⟨g, cap, cur, e, hb, hg, r⟩
  · exact ⟨h.1, .inl h0⟩
  · exact ⟨h.1, .inr ⟨g, cap, cur, e, hb, (d.block g (Array.getElem?_eq_some_iff.1 hg).1).trans hg, r⟩⟩
theorem Own.trn {w w' : World} {base n b : Nat} {v : Value} {xs : List Int} {cs : Array Value} (h : Own w base v n xs) (r : Blk w b 30 cs) (nu : NoU8 cs) (t : Trn b w w') : Own w' base v n xs := by
  rcases h.2 with h0 | ⟨g, cap, cur, e, hb, hg, q⟩
  · exact ⟨h.1, .inl h0⟩
  · have hne : g ≠ b := fun e => by
      subst e
      have r' : w.heap[g]? = some (.cells cs 30) := r
      rw [hg] at r'
      injection r' with r'
      injection r' with _ r' _
      exact absurd r' (by decide)
    exact ⟨h.1, .inr ⟨g, cap, cur, e, hb, (t.block g hne).trans hg, q⟩⟩
theorem Own.lt {w : World} {base n : Nat} {v : Value} {xs : List Int} (h : Own w base v n xs) : ∀ q, v.ownBlock = some q → base ≤ q ∧ q < w.heap.size := World.ownsRow.lt h
theorem Own.alloc {w : World} {base n : Nat} {v : Value} {xs : List Int} (h : Own w base v n xs) (o : Obj) : Own (w.alloc o) base v n xs := World.ownsRow.alloc h o
theorem Blk.grow {w w' : World} {b : Nat} {t : TypeId} {cs : Array Value} {row : Option Nat} (h : Blk w b t cs) (g : w.grownBy w' row) (hn : row ≠ some b) : Blk w' b t cs := (g.block b h.lt (fun e => hn e.symm)).trans h
theorem Bs.grow {w w' : World} {A : Option Addr} {c : Nat} {xs : List Int} {row : Option Nat} (h : Bs w A c xs) (g : w.grownBy w' row) (hn : xs ≠ [] → ∀ ad, A = some ad → row ≠ some ad.block) : Bs w' A c xs :=
  ⟨h.1, h.2.1, fun hx => by
    obtain ⟨ad, e, hb, hc⟩ := h.2.2 hx
    refine ⟨ad, e, Nat.lt_of_lt_of_le hb g.size, fun j x hj => ?_⟩
    rw [World.cell?_of_block (g.block (ad.add j).block (by rw [block_add]; exact hb) (by rw [block_add]; exact fun e2 => hn hx ad e e2.symm))]
    exact hc j x hj⟩
/-- the memory has that many blocks -/
def Sz (base : Nat) (w : World) : Prop := base ≤ w.heap.size
theorem Sz.dn {base : Nat} {w w' : World} (h : Sz base w) (d : Dn w w') : Sz base w' := Nat.le_trans h d.size
theorem Sz.trn {base b : Nat} {w w' : World} {t : TypeId} {cs : Array Value} (h : Sz base w) (r : Blk w b t cs) (nu : NoU8 cs) (t : Trn b w w') : Sz base w' := by unfold Sz; rw [t.size]; exact h
theorem Sz.alloc {base : Nat} {w : World} (h : Sz base w) (o : Obj) : base ≤ (w.alloc o).heap.size := Nat.le_trans h (by simp)
/-- the bytes that the registers give -/
def M.outs (c ls : List Int) (j : Nat) : List Int := (ls.take j).map fun x => M.reg c (x % 16) % 256
theorem M.outs_succ {c ls : List Int} {j : Nat} (h : j < ls.length) : M.outs c ls (j + 1) = M.outs c ls j ++ [M.reg c (ls.getD j 0 % 16) % 256] := by
  unfold M.outs
  rw [List.take_succ_eq_append_getElem h, List.map_append]
  simp [List.getD, h]
theorem M.outs_len {c ls : List Int} {j : Nat} (h : j ≤ ls.length) : (M.outs c ls j).length = j := by
  unfold M.outs
  rw [List.length_map, List.length_take]; omega
theorem M.outs_by (c ls : List Int) (j : Nat) : M.By (M.outs c ls j) := fun x hx => by
  unfold M.outs at hx
  obtain ⟨y, _, rfl⟩ := List.mem_map.1 hx
  omega
theorem M.adv_adv {c : List Int} (h : c.length = 29) (x y : Int) : M.adv (M.adv c x) y = M.adv c (x + y) := by
  have hp : M.pc (M.adv c x) = (M.pc c + x) % 4294967296 := M.pc_adv h x
  show (M.adv c x).set 16 ((M.pc (M.adv c x) + y) % 4294967296) = _
  rw [hp]
  unfold M.adv
  rw [List.set_set]
  congr 1
  omega
theorem M.take_adv (c : List Int) (d : Int) : (M.adv c d).take 16 = c.take 16 := by
  unfold M.adv
  rw [List.take_set_of_le (by decide)]
set_option maxRecDepth 100000 in
set_option maxHeartbeats 2000000 in
theorem pvEx25n (m : Mc) (rd ra rb imm : Int) (W : World) (hm : m.Ok W) (hy : m.ys.length ≤ 100000) (x : Int) (hx : M.reg m.c ra = x) (c2 : List Int) (h2 : M.adv m.c 4 = c2) :
    Calls Tryd.prog 19 #[.agg (mach m), .agg (ins 25 rd ra rb imm)] W fun e W' => ∃ m1 g, e = .returned (.agg (mach m1)) ∧ Hid (m1.Ok W') ∧ Hid (Pd m ⟨c2, m.ys ++ [x % 256], m.h⟩ W.heap.size m1) ∧ Hid (m1.B = some ⟨g, 0, none⟩) ∧ Hid (W.heap.size ≤ g) ∧ Dn W W' := by
  have hl := hm.len
  have hc := hm.core
  have k2 : M.Core c2 := by rw [← h2]; exact hc.adv 4
  have C1 := Lib.hid fun w => fun (ow : m.Ok w) => pvp25 m rd ra rb imm w ow hy x hx c2 h2
  have C2 := Lib.hid fun (w : World) (ow : m.Ok w) (g cap : Nat) (m1 : Mc) (h1 : m1 = { m with c := c2, B := some ⟨g, 0, none⟩, q := cap, ys := m.ys ++ [x % 256] }) (hB : Bs w (some ⟨g, 0, none⟩) cap (m.ys ++ [x % 256])) => (pvClosed m1 w (by rw [h1]; exact ⟨k2, ow.mem, hB, ow.t0, ow.t1⟩) _ rfl).mono fun e W' h => (⟨_, h.1, Lib.hid rfl, h.2⟩ : ∃ m2, e = .returned (.agg (mach m2)) ∧ Hid (m2 = { m1 with k := m1.xs.length, q := m1.ys.length }) ∧ Dn w W')
  clear hx h2
  have HD := Lib.hid (Dn.refl W)
  go_enter Tryd.func19, Tryd.ntmps19
  go_wp2_with (first | ((with_reducible refine wpList_box (vs := (mach m)) ?_ ?_ ?_); rfl; rfl; intro b_v2 w' nn; refine Hid.out ?_))
  refine Lib.hid ?_
  have HL_v2 : Hid (W.heap.size ≤ b_v2) := Lib.hid (Blk.hi nn HD.out.size)
  have d' := nn.dn
  replace HD := Lib.hid (HD.out.trans d')
  have v2 := nn.blk
  clear d' nn
  go_wp2_with (first | ((with_reducible refine wpList_box (vs := (ins 25 rd ra rb imm)) ?_ ?_ ?_); rfl; rfl; intro b_v3 w' nn; refine Hid.out ?_))
  refine Lib.hid ?_
  have n_v2_v3 := Lib.hid (nn.ne _ v2.lt)
  have HL_v3 : Hid (W.heap.size ≤ b_v3) := Lib.hid (Blk.hi nn HD.out.size)
  have d' := nn.dn
  replace v2 := v2.dn d'
  replace HD := Lib.hid (HD.out.trans d')
  have v3 := nn.blk
  clear d' nn
  go_wp2_with (first | ((with_reducible refine wpList_alloc zeroMach ?_ ?_); rfl; intro b_v4 w' nn; refine Hid.out ?_))
  refine Lib.hid ?_
  have n_v2_v4 := Lib.hid (nn.ne _ v2.lt)
  have n_v3_v4 := Lib.hid (nn.ne _ v3.lt)
  have HL_v4 : Hid (W.heap.size ≤ b_v4) := Lib.hid (Blk.hi nn HD.out.size)
  have d' := nn.dn
  replace v2 := v2.dn d'
  replace v3 := v3.dn d'
  replace HD := Lib.hid (HD.out.trans d')
  have v4 := nn.blk
  clear d' nn
  have HD0 := HD
  go_wp2_with (first | ((with_reducible refine load33 v2 hl ?_ ?_ ?_); rfl; rfl) | ((with_reducible refine loadI v3 ?_ ?_ ?_); rfl; rfl) | (go_at_call 31; (with_reducible refine (C1.out _ (hm.dn HD.out)).mono ?_); rintro e w' ⟨g_, cap, m1, rfl, hm1, hN, hlo, d'⟩; refine Hid.out ?_))
  refine Lib.hid ?_
  replace v2 := v2.dn d'
  replace v3 := v3.dn d'
  replace v4 := v4.dn d'
  replace HD := Lib.hid (HD.out.trans d')
  clear d'
  have l1 : m1.c.length = 29 := by rw [hm1.out]; exact k2.len
  replace hlo := Nat.le_trans HD0.out.size hlo
  have HN := Lib.hid hN.out
  go_wp2_with (first | (go_at_call 30; (with_reducible refine (C2.out _ (hm.dn HD.out) g_ cap m1 hm1.out HN.out).mono ?_); rintro e w' ⟨m2, rfl, hm2, d'⟩; refine Hid.out ?_))
  refine Lib.hid ?_
  replace v2 := v2.dn d'
  replace v3 := v3.dn d'
  replace v4 := v4.dn d'
  replace HN := Lib.hid (HN.out.dn d')
  replace HD := Lib.hid (HD.out.trans d')
  clear d'
  have l2 : m2.c.length = 29 := by rw [hm2.out]; exact l1
  go_wp2_with (first | ((with_reducible refine store33 m2 l2 v4 zlen ?_ ?_ ?_ ?_); rfl; rfl; rfl; intro w' r' t'; refine Hid.out ?_))
  refine Lib.hid ?_
  replace HN := Lib.hid (HN.out.trn v4 (NoU8.mach _) t')
  replace v2 := v2.trn t' n_v2_v4.out
  replace v3 := v3.trn t' n_v3_v4.out
  replace HD := Lib.hid (HD.out.trn HL_v4.out t')
  clear t' v4
  have v4 := r'
  clear r'
  go_wp2_with fail
  have o1 := hm.dn HD.out
  exact retM rfl rfl v4 l2 ⟨m2, g_, rfl, Lib.hid (by rw [hm2.out, hm1.out]; exact ⟨k2, o1.mem.full, HN.out.full, o1.t0, o1.t1⟩), Lib.hid (by rw [hm2.out, hm1.out]; exact ⟨rfl, rfl, rfl, rfl, rfl, rfl, .inr ⟨g_, rfl, hlo⟩⟩), Lib.hid (by rw [hm2.out, hm1.out]), Lib.hid hlo, HD.out⟩ rfl
end Go.Proofs.YthkhahfhbhgfhaaDoor
namespace Go.Proofs.YthkhahfhbhgfhaaDoor
open Go.ChangeShapes Go.WideShapes Go.ChangeAt Go.RowKit Go.Sort
set_option linter.unusedVariables false

/-- the loop's relation: j bytes are out -/
def CcRel (base b2 b5 : Nat) (m : Mc) (W : World) (ls : List Int) (v k : Value) (w : World) : Prop :=
  ∃ (j : Nat) (a : Mc), j ≤ ls.length ∧ k = .int .i64 j ∧ Dn W w ∧ Blk w b2 30 (mach m) ∧ Blk w b5 30 (mach a) ∧ a.Ok w ∧ a.A = m.A ∧ a.xs = m.xs ∧ a.c = M.adv m.c (4 * (j : Int)) ∧ a.ys = m.ys ++ M.outs m.c ls j ∧ Own w base v (m.ys.length + j) (m.ys ++ M.outs m.c ls j) ∧ Sz base w
set_option maxRecDepth 100000 in
set_option maxHeartbeats 2000000 in
theorem cc_few (m : Mc) (Al : Option Addr) (cl : Nat) (ls : List Int) (W : World) (hm : m.Ok W) (T : Cs.CsrTabs W) (hls : Bs W Al cl ls) (hx : m.xs.length ≤ 9223372036854775807) (hy : m.ys.length ≤ 9223372036854775807) (hll : ls.length ≤ 9223372036854775807) (hf : decide (m.xs.length ≤ 600 ∧ m.ys.length ≤ 600) = false) :
    Calls Tryd.prog 8 #[.agg (mach m), .slice Al ls.length cl] W fun e W' => e = .returned (.bool true) ∧ Dn W W' := by
  have C0 := Lib.hid fun w => fun (t : Cs.CsrTabs w) => awakeP w t
  have CF := Lib.hid fun w => fun (ow : m.Ok w) => rfew m false w ow hx hy hf
  clear hf
  have HD := Lib.hid (Dn.refl W)
  go_enter Tryd.func8, Tryd.ntmps8
  go_wp2_with (first | ((with_reducible refine wpList_box (vs := (mach m)) ?_ ?_ ?_); rfl; rfl; intro b_v2 w' nn; refine Hid.out ?_))
  refine Lib.hid ?_
  have HL_v2 : Hid (W.heap.size ≤ b_v2) := Lib.hid (Blk.hi nn HD.out.size)
  have d' := nn.dn
  replace HD := Lib.hid (HD.out.trans d')
  have v2 := nn.blk
  clear d' nn
  go_wp2_with (first | (go_at_call 15; (with_reducible refine (C0.out _ (T.dn HD.out)).mono ?_); rintro e w' ⟨rfl, d'⟩; refine Hid.out ?_))
  refine Lib.hid ?_
  replace v2 := v2.dn d'
  replace HD := Lib.hid (HD.out.trans d')
  clear d'
  go_wp2_with (first | ((with_reducible refine load33 v2 hm.len ?_ ?_ ?_); rfl; rfl) | (go_at_call 10; (with_reducible refine (CF.out _ (hm.dn HD.out)).mono ?_); rintro e w' ⟨rfl, d'⟩; refine Hid.out ?_))
  refine Lib.hid ?_
  replace v2 := v2.dn d'
  replace HD := Lib.hid (HD.out.trans d')
  clear d'
  go_wp2_with (first | (go_at_call 15; (with_reducible refine (C0.out _ (T.dn HD.out)).mono ?_); rintro e w' ⟨rfl, d'⟩; refine Hid.out ?_))
  refine Lib.hid ?_
  replace v2 := v2.dn d'
  replace HD := Lib.hid (HD.out.trans d')
  clear d'
  go_wp2_with fail
  go_ret
  exact ⟨rfl, HD.out⟩
set_option maxRecDepth 100000 in
set_option maxHeartbeats 2000000 in
theorem cc_long (m : Mc) (Al : Option Addr) (cl : Nat) (ls : List Int) (W : World) (hm : m.Ok W) (T : Cs.CsrTabs W) (hls : Bs W Al cl ls) (hx : m.xs.length ≤ 9223372036854775807) (hy : m.ys.length ≤ 9223372036854775807) (hll : ls.length ≤ 9223372036854775807) (hf : decide (m.xs.length ≤ 600 ∧ m.ys.length ≤ 600) = true) (h40 : 40 < ls.length) :
    Calls Tryd.prog 8 #[.agg (mach m), .slice Al ls.length cl] W fun e W' => e = .returned (.bool true) ∧ Dn W W' := by
  have C0 := Lib.hid fun w => fun (t : Cs.CsrTabs w) => awakeP w t
  have CF := Lib.hid fun w => fun (ow : m.Ok w) => rfew m true w ow hx hy hf
  clear hf
  have hq : (40 : Int) < ls.length := by omega
  have hq2 : decide ((40 : Int) < ls.length) = true := by simp; omega
  have HD := Lib.hid (Dn.refl W)
  go_enter Tryd.func8, Tryd.ntmps8
  go_wp2_with (first | ((with_reducible refine wpList_box (vs := (mach m)) ?_ ?_ ?_); rfl; rfl; intro b_v2 w' nn; refine Hid.out ?_))
  refine Lib.hid ?_
  have HL_v2 : Hid (W.heap.size ≤ b_v2) := Lib.hid (Blk.hi nn HD.out.size)
  have d' := nn.dn
  replace HD := Lib.hid (HD.out.trans d')
  have v2 := nn.blk
  clear d' nn
  go_wp2_with (first | (go_at_call 15; (with_reducible refine (C0.out _ (T.dn HD.out)).mono ?_); rintro e w' ⟨rfl, d'⟩; refine Hid.out ?_))
  refine Lib.hid ?_
  replace v2 := v2.dn d'
  replace HD := Lib.hid (HD.out.trans d')
  clear d'
  go_wp2_with (first | ((with_reducible refine load33 v2 hm.len ?_ ?_ ?_); rfl; rfl) | (go_at_call 10; (with_reducible refine (CF.out _ (hm.dn HD.out)).mono ?_); rintro e w' ⟨rfl, d'⟩; refine Hid.out ?_))
  refine Lib.hid ?_
  replace v2 := v2.dn d'
  replace HD := Lib.hid (HD.out.trans d')
  clear d'
  go_wp2_with (first | (go_at_call 15; (with_reducible refine (C0.out _ (T.dn HD.out)).mono ?_); rintro e w' ⟨rfl, d'⟩; refine Hid.out ?_))
  refine Lib.hid ?_
  replace v2 := v2.dn d'
  replace HD := Lib.hid (HD.out.trans d')
  clear d'
  go_wp2_with fail
  go_ret
  exact ⟨rfl, HD.out⟩
set_option maxRecDepth 100000 in
set_option maxHeartbeats 2000000 in
theorem cc_main (m : Mc) (Al : Option Addr) (cl : Nat) (ls : List Int) (W : World) (hm : m.Ok W) (T : Cs.CsrTabs W) (hls : Bs W Al cl ls) (hx : m.xs.length ≤ 9223372036854775807) (hy : m.ys.length ≤ 9223372036854775807) (hll : ls.length ≤ 9223372036854775807) (hf : decide (m.xs.length ≤ 600 ∧ m.ys.length ≤ 600) = true) (h40 : ls.length ≤ 40) :
    Calls Tryd.prog 8 #[.agg (mach m), .slice Al ls.length cl] W fun e W' => e = .returned (.bool true) ∧ Dn W W' := by
  have hl := hm.len
  have hc := hm.core
  have hs : m.xs.length ≤ 600 := by simp only [decide_eq_true_eq] at hf; omega
  have hn : m.ys.length ≤ 600 := by simp only [decide_eq_true_eq] at hf; omega
  have C0 := Lib.hid fun w => fun (t : Cs.CsrTabs w) => awakeP w t
  have CF := Lib.hid fun w => fun (ow : m.Ok w) => rfew m true w ow hx hy hf
  clear hf
  have h41 : ¬ (40 : Int) < ls.length := by omega
  have h42 : decide ((40 : Int) < ls.length) = false := by simp; omega
  have HO := Lib.hid hm.out
  have HLS := Lib.hid hls
  clear hls
  have p0 := (M.core_pc hc).1
  have p1 := (M.core_pc hc).2
  obtain ⟨p, hpc⟩ : ∃ p, m.c.getD 16 0 = p := ⟨_, rfl⟩
  rw [show M.pc m.c = p from hpc] at p0 p1
  have C1 := Lib.hid fun (w : World) (a : Mc) (ra : Int) (ow : a.Ok w) (hn : a.ys.length ≤ 100000) => (by exact pvEx25n a 0 ra 0 0 w ow hn _ rfl _ rfl : Calls Tryd.prog 19 #[.agg (mach a), .agg #[.int .i64 25, .int .i64 0, .int .i64 ra, .int .i64 0, .int .i32 0]] w fun e W' => ∃ m1 g, e = .returned (.agg (mach m1)) ∧ Hid (m1.Ok W') ∧ Hid (Pd a ⟨M.adv a.c 4, a.ys ++ [M.reg a.c ra % 256], a.h⟩ w.heap.size m1) ∧ Hid (m1.B = some ⟨g, 0, none⟩) ∧ Hid (w.heap.size ≤ g) ∧ Dn w W')
  have HD := Lib.hid (Dn.refl W)
  go_enter Tryd.func8, Tryd.ntmps8
  go_wp2_with (first | ((with_reducible refine wpList_box (vs := (mach m)) ?_ ?_ ?_); rfl; rfl; intro b_v2 w' nn; refine Hid.out ?_))
  refine Lib.hid ?_
  have HL_v2 : Hid (W.heap.size ≤ b_v2) := Lib.hid (Blk.hi nn HD.out.size)
  have d' := nn.dn
  replace HD := Lib.hid (HD.out.trans d')
  have v2 := nn.blk
  clear d' nn
  go_wp2_with (first | (go_at_call 15; (with_reducible refine (C0.out _ (T.dn HD.out)).mono ?_); rintro e w' ⟨rfl, d'⟩; refine Hid.out ?_))
  refine Lib.hid ?_
  replace v2 := v2.dn d'
  replace HD := Lib.hid (HD.out.trans d')
  clear d'
  go_wp2_with (first | ((with_reducible refine load33 v2 hl ?_ ?_ ?_); rfl; rfl) | (go_at_call 10; (with_reducible refine (CF.out _ (hm.dn HD.out)).mono ?_); rintro e w' ⟨rfl, d'⟩; refine Hid.out ?_))
  refine Lib.hid ?_
  replace v2 := v2.dn d'
  replace HD := Lib.hid (HD.out.trans d')
  clear d'
  go_wp2_with (first | ((with_reducible refine load33 v2 hl ?_ ?_ ?_); rfl; rfl) | ((with_reducible refine wpList_alloc zeroMach ?_ ?_); rfl; intro b_v5 w' nn; refine Hid.out ?_))
  refine Lib.hid ?_
  have n_v2_v5 := Lib.hid (nn.ne _ v2.lt)
  have HL_v5 : Hid (W.heap.size ≤ b_v5) := Lib.hid (Blk.hi nn HD.out.size)
  have d' := nn.dn
  replace v2 := v2.dn d'
  replace HD := Lib.hid (HD.out.trans d')
  have v5 := nn.blk
  clear d' nn
  go_wp2_with (first | ((with_reducible refine store33 m hl v5 zlen ?_ ?_ ?_ ?_); rfl; rfl; rfl; intro w' r' t'; refine Hid.out ?_))
  refine Lib.hid ?_
  replace v2 := v2.trn t' n_v2_v5.out
  replace HD := Lib.hid (HD.out.trn HL_v5.out t')
  clear t' v5
  have v5 := r'
  clear r'
  have kk := v2.out hl
  have vlt := v2.lt
  have hb2 := v2.lt
  have hb5 := v5.lt
  have hbW := HD.out.size
  have OWN := Lib.hid (own_zero w')
  have D0 : Hid (Dn w' (w'.alloc (Obj.cells #[] 5))) := Lib.hid ((Dn.refl w').alloc _)
  have HB := Lib.hid ((HO.out.dn HD.out).dn D0.out)
  go_wp2_with (at_builtin; (refine wpList_append8 rfl _ _ rfl w'.heap.size (.slice (some ⟨w'.heap.size, 0, none⟩) 0 0) 0 [] rfl OWN.out m.B m.q m.ys rfl HB.out (by omega) D0.out.size ?_); intro r w2 own1 gr1; refine Hid.out ?_)
  refine Lib.hid ?_
  have HW0 : Hid (Own w2 w'.heap.size r m.ys.length m.ys) := Lib.hid (by unfold Own; simpa using own1)
  have d' : Dn w' w2 := below_keep D0.out gr1 D0.out.size (fun q e => (OWN.out.lt q e).1)
  clear own1 gr1 OWN HB kk vlt D0
  replace v2 := v2.dn d'
  replace v5 := v5.dn d'
  replace HD := Lib.hid (HD.out.trans d')
  have HSZ : Hid (Sz w'.heap.size w2) := Lib.hid d'.size
  obtain ⟨base, hbase⟩ : ∃ base, w'.heap.size = base := ⟨_, rfl⟩
  rw [hbase] at HW0 hb2 hb5 hbW HSZ
  replace hb2 := Lib.hid hb2
  replace hb5 := Lib.hid hb5
  replace hbW := Lib.hid hbW
  clear d' hbase
  go_wp2_with fail
  go_loopw [6, 7] (fun v k w => CcRel base b_v2 b_v5 m W ls v k w) (fun _ k _ => ls.length - (intOf k).toNat)
  case atStart => exact ⟨0, m, Nat.zero_le _, rfl, HD.out, v2, v5, hm.dn HD.out, rfl, rfl, by rw [show 4 * ((0 : Nat) : Int) = 0 from rfl, M.adv_zero hc], by rw [show M.outs m.c ls 0 = [] from rfl, List.append_nil], by rw [show M.outs m.c ls 0 = [] from rfl, List.append_nil, Nat.add_zero]; exact HW0.out, HSZ.out⟩
  case round =>
    clear v2 v5 HW0 HD HSZ
    obtain ⟨j, a, hj, rfl, hd, v2, v5, oa, hA, hX, hac, hay, hw, hsz⟩ := hrel
    have HD := Lib.hid hd
    replace oa := Lib.hid oa
    have la := oa.out.len
    have HW0 := Lib.hid hw
    have HSZ := Lib.hid hsz
    have hol := M.outs_len (c := m.c) hj
    have hayl : a.ys.length = m.ys.length + j := by rw [hay, List.length_append, hol]
    have HA := Lib.hid hA
    have HX := Lib.hid hX
    have HAC := Lib.hid hac
    have HAY := Lib.hid hay
    have hj40 : j ≤ 40 := by omega
    have HYL := Lib.hid hayl
    clear hd hA hX hac hay hw hayl hol hsz
    by_cases hlt : j < ls.length
    · have hlt2 : (j : Int) < ls.length := by omega
      have hj0 : (0 : Int) ≤ (j : Int) := by omega
      obtain ⟨bd, rfl, hbb, hcs⟩ := (HLS.out.dn HD.out).cells (by omega)
      have hcl := hcs j hlt
      have hx0 := (HLS.out.2.1.getD j).1
      have hx1 := (HLS.out.2.1.getD j).2
      have HOS := Lib.hid (M.outs_succ (c := m.c) hlt)
      clear hcs hbb
      generalize ls.getD j 0 = x at hcl hx0 hx1 HOS
      have HW9 := HW0
      have hz := M.reg_rng hc (x % 16)
      have CG := Lib.hid fun w => (by have h := refGet (m.c.take 16) (x % 16) w (take16 hl); rw [M.reg_take m.c hl] at h; exact h : Calls Tryd.prog 22 #[.agg (ints .u32 (m.c.take 16)), .int .i64 (x % 16)] w fun e W' => e = .returned (.int .u32 (M.reg m.c (x % 16))) ∧ Dn w W')
      generalize hzz : M.reg m.c (x % 16) = z at CG hz HOS
      have hry : M.reg a.c (x % 16) = z := by rw [HAC.out, M.reg_adv]; exact hzz
      replace hry := Lib.hid hry
      clear hzz
      go_wp2_with (first | ((with_reducible refine load33 v5 la ?_ ?_ ?_); rfl; rfl) | (go_at_call 19; (with_reducible refine (C1.out _ a (x % 16) oa.out (by have := HYL.out; omega)).mono ?_); rintro e w' ⟨m1, gB, rfl, o1', u1, hB, hgB, d'⟩; refine Hid.out ?_))
      refine Lib.hid ?_
      replace v2 := v2.dn d'
      replace v5 := v5.dn d'
      replace oa := Lib.hid (oa.out.dn d')
      replace HW0 := Lib.hid (HW0.out.dn d')
      replace HSZ := Lib.hid (HSZ.out.dn d')
      replace HD := Lib.hid (HD.out.trans d')
      clear d'
      have l1 := o1'.out.len
      have hsep : Hid (∀ q, u6.ownBlock = some q → q ≠ gB) := Lib.hid (fun q e => by have h1 := (HW9.out.lt q e).2; have h2 := hgB.out; omega)
      clear HW9 hcl
      have o1 := Lib.hid o1'.out
      go_wp2_with (first | ((with_reducible refine store33 m1 l1 v5 la ?_ ?_ ?_ ?_); rfl; rfl; rfl; intro w' r' t'; refine Hid.out ?_))
      refine Lib.hid ?_
      replace oa := Lib.hid (oa.out.trn v5 (NoU8.mach _) t')
      replace HW0 := Lib.hid (HW0.out.trn v5 (NoU8.mach _) t')
      replace HSZ := Lib.hid (HSZ.out.trn v5 (NoU8.mach _) t')
      replace o1 := Lib.hid (o1.out.trn v5 (NoU8.mach _) t')
      replace v2 := v2.trn t' n_v2_v5.out
      replace HD := Lib.hid (HD.out.trn HL_v5.out t')
      clear t' v5
      have v5 := r'
      clear r'
      go_wp2_with (first | ((with_reducible refine loadRegs v2 hl ?_ ?_ ?_); rfl; rfl) | (go_at_call 22; (with_reducible refine (CG.out _).mono ?_); rintro e w' ⟨rfl, d'⟩; refine Hid.out ?_))
      refine Lib.hid ?_
      replace v2 := v2.dn d'
      replace v5 := v5.dn d'
      replace oa := Lib.hid (oa.out.dn d')
      replace HW0 := Lib.hid (HW0.out.dn d')
      replace HSZ := Lib.hid (HSZ.out.dn d')
      replace o1 := Lib.hid (o1.out.dn d')
      replace HD := Lib.hid (HD.out.trans d')
      clear d'
      have HW1 : Hid (Own (w'.alloc (.cells #[.int .u8 (z % 256)] 5)) base u6 (m.ys.length + j) (m.ys ++ M.outs m.c ls j)) := Lib.hid (HW0.out.alloc _)
      have H1 := Lib.hid (byte_bs w' (z % 256) (by omega) (by omega))
      go_wp2_with (at_builtin; (refine wpList_append8 rfl _ _ rfl base u6 (m.ys.length + j) _ rfl HW1.out _ 1 [z % 256] rfl H1.out (by simp; omega) (HSZ.out.alloc _) ?_); intro r2 w3 own2 gr2; refine Hid.out ?_)
      refine Lib.hid ?_
      have hbq : ∀ q, u6.ownBlock = some q → base ≤ q := fun q e => (HW1.out.lt q e).1
      have n2 : u6.ownBlock ≠ some b_v2 := fun e => by have := hbq _ e; have := hb2.out; omega
      have n5 : u6.ownBlock ≠ some b_v5 := fun e => by have := hbq _ e; have := hb5.out; omega
      have HD3 : Dn W w3 := below_keep (HD.out.alloc _) gr2 (Nat.le_trans HD.out.size (by simp)) (fun q e => by have := hbq _ e; have := hbW.out; omega)
      have sz3 : Sz base w3 := Nat.le_trans (HSZ.out.alloc _) gr2.size
      have w2_ := (v2.old _).grow gr2 n2
      have w5_ := (v5.old _).grow gr2 n5
      have e1 : m1.xs = m.xs := (u1.out.xs.trans HX.out)
      have e2 : m1.A = m.A := (u1.out.A.trans HA.out)
      have om3 := hm.dn HD3
      have o3 : m1.Ok w3 := ⟨o1.out.core, ⟨o1.out.mem.1, o1.out.mem.2.1, by rw [e1, e2]; exact om3.mem.2.2⟩, (o1.out.out.dn ((Dn.refl w').alloc _)).grow gr2 (fun _ ad ea er => hsep.out _ er (by rw [hB.out] at ea; cases ea; rfl)), o1.out.t0, o1.out.t1⟩
      have hya : m1.ys = m.ys ++ M.outs m.c ls (j + 1) := by rw [u1.out.ys, HAY.out, hry.out, HOS.out, List.append_assoc]
      have hca : m1.c = M.adv m.c (4 * ((j + 1 : Nat) : Int)) := by rw [u1.out.c]; show M.adv a.c 4 = _; rw [HAC.out, M.adv_adv hl, show (4 : Int) * ((j + 1 : Nat) : Int) = 4 * (j : Int) + 4 by omega]
      have own3 : Own w3 base r2 (m.ys.length + (j + 1)) (m.ys ++ M.outs m.c ls (j + 1)) := by unfold Own; rw [HOS.out, ← List.append_assoc, List.map_append]; exact own2
      clear own2 gr2 H1 HW1 hbq n2 n5 om3
      replace HD3 := Lib.hid HD3
      replace own3 := Lib.hid own3
      replace o3 := Lib.hid o3
      replace hya := Lib.hid hya
      replace hca := Lib.hid hca
      replace e1 := Lib.hid e1
      replace e2 := Lib.hid e2
      replace sz3 := Lib.hid sz3
      clear v2 v5 HD HW0 o1 HSZ
      go_wp2_with fail
      exact ⟨⟨j + 1, m1, by omega, by go_num, HD3.out, w2_, w5_, o3.out, e2.out, e1.out, hca.out, hya.out, own3.out, sz3.out⟩, by simp [intOf]; omega⟩
    · have hlt2 : ¬ (j : Int) < ls.length := by omega
      obtain rfl : j = ls.length := by omega
      obtain ⟨A', c', rfl, hb⟩ := Bs.of_own (n := m.ys.length + ls.length) (xs := m.ys ++ M.outs m.c ls ls.length) (by rw [List.length_append, M.outs_len (Nat.le_refl _)]) (fun x hx => (List.mem_append.1 hx).elim (HO.out.2.1 x) (M.outs_by _ _ _ x)) HW0.out
      have hwl : (m.ys ++ M.outs m.c ls ls.length).length = m.ys.length + ls.length := by rw [List.length_append, M.outs_len (Nat.le_refl _)]
      replace hb := Lib.hid hb
      rw [hwl]
      obtain ⟨L, hL⟩ : ∃ L, m.ys.length + ls.length = L := ⟨_, rfl⟩
      rw [hL]
      rw [hL] at hwl
      have HWL := Lib.hid hwl
      have hyl2 : a.ys.length = L := by rw [HYL.out]; exact hL
      have hyl3 := Lib.hid hyl2
      have CS := Lib.hid fun (w : World) (ow : a.Ok w) (hw : Bs w A' c' (m.ys ++ M.outs m.c ls ls.length)) => same_yes a.B A' a.q c' L L a.ys (m.ys ++ M.outs m.c ls ls.length) w ow.out hw hyl2.symm HWL.out.symm HAY.out (by rw [HYL.out]; omega)
      have na : a.c.getD 16 0 = (p + 4 * (ls.length : Int)) % 4294967296 := by rw [HAC.out]; exact (M.pc_adv hl _).trans (by rw [show M.pc m.c = p from hpc])
      have q16 : ∀ w, (Op.equalIn 10000 23 (.agg (ints .u32 (a.c.take 16))) (.agg (ints .u32 (m.c.take 16)))).run Tryd.prog w = .ok true w := fun w => by rw [eq16 (take16 la) (take16 hl), HAC.out, M.take_adv, beq_self_eq_true]
      clear hL hwl HW0 HSZ
      have ck0 := v5.out la
      rw [hyl2] at ck0
      go_wp2_with (first | (go_at_call 14; (with_reducible refine (CS.out _ oa.out hb.out).mono ?_); rintro e w' ⟨rfl, d'⟩; refine Hid.out ?_))
      refine Lib.hid ?_
      clear ck0
      replace v2 := v2.dn d'
      replace v5 := v5.dn d'
      replace oa := Lib.hid (oa.out.dn d')
      replace hb := Lib.hid (hb.out.dn d')
      replace HD := Lib.hid (HD.out.trans d')
      clear d'
      have ck0 := v5.word la 16 rfl
      rw [na] at ck0
      have ck1 := v2.word hl 16 rfl
      rw [hpc] at ck1
      go_wp2_with (first | ((with_reducible refine loadRegs v5 la ?_ ?_ ?_); rfl; rfl) | ((with_reducible refine loadRegs v2 hl ?_ ?_ ?_); rfl; rfl) | fail)
      go_ret
      exact ⟨rfl, HD.out⟩
theorem ccWalk (m : Mc) (Al : Option Addr) (cl : Nat) (ls : List Int) (W : World) (hm : m.Ok W) (T : Cs.CsrTabs W) (hls : Bs W Al cl ls) (hx : m.xs.length ≤ 9223372036854775807) (hy : m.ys.length ≤ 9223372036854775807) (hll : ls.length ≤ 9223372036854775807) : Calls Tryd.prog 8 #[.agg (mach m), .slice Al ls.length cl] W fun e W' => e = .returned (.bool true) ∧ Dn W W' := by
  cases hf : decide (m.xs.length ≤ 600 ∧ m.ys.length ≤ 600)
  · exact cc_few m Al cl ls W hm T hls hx hy hll hf
  · by_cases h40 : 40 < ls.length
    · exact cc_long m Al cl ls W hm T hls hx hy hll hf h40
    · exact cc_main m Al cl ls W hm T hls hx hy hll hf (by omega)
end Go.Proofs.YthkhahfhbhgfhaaDoor
namespace Go.Proofs.YthkhahfhbhgfhaaDoor.privConsoleCollectsBytes
open Go.ChangeShapes Go.WideShapes Go.ChangeAt Go.RowKit
set_option linter.unusedVariables false

set_option maxRecDepth 100000 in
/-- a slice of bytes among the arguments -/
theorem open_bytes {H : Type} {enc : TypeId × Value → H} {w : World} {base : Nat} {held : Bool} {b0 : Nat} {v : Value} {d : DataW H} {p : List MemPlace} (hv : Value.okWide Tryd.prog w .any b0 27 v) (h : DataW.Trod enc Tryd.prog w base (fun _ => true) held 27 v d p) :
    ∃ (A : Option Addr) (k : Nat) (xs : List Int), v = .slice A xs.length k ∧ Bs w A k xs ∧ xs.length ≤ 9223372036854775807 := by
  obtain ⟨a, len, cap, rfl⟩ := okWide_slice Tryd.underlying27 hv
  obtain ⟨fuel, hf⟩ := h
  obtain ⟨A, k, xs, hc, hb, hl⟩ := bytes_cell hf
  have e : Value.slice a len cap = .slice A xs.length k := by simpa [Value.cells] using hc
  exact ⟨A, k, xs, e, hb, hl⟩

theorem readable : ∀ t ∈ Tryd.f8.params.toList, Tryd.prog.readableRec t = true ∧ t < Tryd.prog.types.size := by
  rw [Tryd.params8]
  intro t ht
  have hall : ([30, 27].all fun t => Tryd.prog.readableRec t && decide (t < Tryd.prog.types.size)) = true := by kernel_rfl
  have h := List.all_eq_true.1 hall t ht
  simp only [Bool.and_eq_true, decide_eq_true_eq] at h
  exact h

theorem said (H : Type) (ds : List (DataW H)) (hl : ds.length = Tryd.f8.params.size) : (Rows.privConsoleCollectsBytesSpec.fn H ds).results = [.lit (.bool true)] ∧ (Rows.privConsoleCollectsBytesSpec.fn H ds).args = ds ∧ (Rows.privConsoleCollectsBytesSpec.fn H ds).vars = [] := by
  rw [Tryd.params8] at hl
  match ds, hl with
  | [d0, d1], _ => exact ⟨rfl, rfl, rfl⟩

set_option maxRecDepth 100000 in
theorem walk {H : Type} {enc : TypeId × Value → H} (W : World) (base : Nat) (args : Array Value) (ds : List (DataW H)) (ps : List MemPlace) (E : Env W)
    (hval : ∀ (j : Nat) t v, Tryd.f8.params[j]? = some t → args[j]? = some v → Value.okWide Tryd.prog W .any base t v)
    (hA : DataW.TrodAll enc Tryd.prog W 0 (fun _ => true) true Tryd.f8.params.toList args.toList ds ps) :
    Calls Tryd.prog 8 args W fun e W' => e = .returned (.bool true) ∧ Dn W W' := by
  rw [Tryd.params8] at hA hval
  obtain ⟨v0, vs0, d0, ds0, p0, q0, hargs, rfl, rfl, h0, r0⟩ := trodAll_cons hA
  obtain ⟨v1, vs1, d1, ds1, p1, q1, rfl, rfl, rfl, h1, r1⟩ := trodAll_cons r0
  obtain ⟨rfl, rfl, rfl⟩ := trodAll_nil r1
  obtain rfl : args = #[v0, v1] := by cases args; simp_all
  obtain ⟨m0, rfl, o0, l0, y0⟩ := open33 (hval 0 30 v0 rfl rfl) h0
  obtain ⟨A1, c1, ls1, rfl, hb1, hl1⟩ := open_bytes (hval 1 27 v1 rfl rfl) h1
  exact ccWalk m0 A1 c1 ls1 W o0 E hb1 l0 y0  hl1

set_option maxRecDepth 100000 in
theorem lifted (os : Os) (started : os.Started) (H : Type) (enc : TypeId × Value → H) :
    ReturnsInHanded {} Tryd.checked os 8 .any (fun w args => (Rows.privConsoleCollectsBytesSpec.pre enc Tryd.prog Tryd.f8 [] false w args ∧ laidMetH Tryd.prog laidL w) ∧ sizedMet enc Tryd.prog Tryd.f8 (OpenSpec.ofChange Rows.privConsoleCollectsBytesSpec) false w args)
      (Rows.privConsoleCollectsBytesSpec.post enc Tryd.prog Tryd.f8 false true false false) :=
  returns_of_walk (C := Tryd.checked) rfl own started (by kernel_rfl) Tryd.func8 rfl readable (by kernel_rfl) said
    (ChangeSpec.witness_shaped (enc := enc) (C := Tryd.checked) (os := os) (X := fun w _ => laidMetH Tryd.prog laidL w) false (World.laidAll Tryd.prog os laidL) #[.agg #[.int .u32 0, .int .u32 0, .int .u32 0, .int .u32 0, .int .u32 0, .int .u32 0, .int .u32 0, .int .u32 0, .int .u32 0, .int .u32 0, .int .u32 0, .int .u32 0, .int .u32 0, .int .u32 0, .int .u32 0, .int .u32 0, .int .u32 0, .int .u32 0, .int .u32 0, .int .u32 0, .int .u32 0, .int .u32 0, .int .u32 0, .int .u32 0, .int .u32 0, .int .u32 0, .int .u32 0, .int .u32 0, .int .u32 0, .slice none 0 0, .int .u64 0, .slice none 0 0, .bool false], .slice none 0 0] 8 (World.laidAll_os _ _ _)
      (start_shaped os _) (by kernel_rfl) (by kernel_rfl) (by kernel_rfl) (start_met os _)) walk

theorem over : Rows.PrivConsoleCollectsBytesSaid :=
  OpenClaim.holds_of_wide 8 Tryd.f8 rfl rfl rfl rfl rfl rfl rfl ⟨rfl, rfl, rfl, rfl, rfl⟩ rfl rfl rfl rfl rfl (by kernel_rfl) Tryd.func8 (by kernel_rfl)
    (of_decide_eq_true (by kernel_rfl)) (by unfold Func.isWrapper; first | (rw [if_pos (by decide +kernel)]; kernel_rfl) | (rw [if_neg (by decide +kernel)]; exact ⟨rfl, rfl⟩))
    (fun os started H enc _ => lifted os started H enc)

/-- THE STATEMENT -/
theorem proved : Rows.PrivConsoleCollectsBytesCardSaid :=
  Claim7.holds_tied_plain_at .later [] [.data] true (true, "d78811fdd0f342fbb2ba603c83f6eebd8ca321176a55a836c8fad2cf606a22cc") false
    over (fun _ h => by cases h) (by kernel_rfl) (fun _ h => by cases h) privConsoleCollectsBytes_row_tie rfl ⟨rfl, rfl⟩ (by kernel_rfl) rfl
    (fun f fn hf hfn => by
      obtain rfl : f = 8 := Option.some.inj ((show Tryd.prog.funcNamed "gaoler/gaolerlaw12.PrivConsoleCollectsBytes" = some 8 by kernel_rfl).symm.trans hf) |>.symm
      obtain rfl : fn = Tryd.f8 := (Option.some.inj (Tryd.func8.symm.trans hfn)).symm
      exact ⟨by kernel_rfl, fun j t ht => by
        rw [Tryd.params8] at ht
        have hm : t ∈ [30, 27] := by simpa using Array.mem_of_getElem? ht
        have hall : ([30, 27].all fun u => !Tryd.prog.wantsStandIn u) = true := by kernel_rfl
        exact (show Tryd.prog.wantsStandIn t = false by simpa using List.all_eq_true.1 hall t hm)⟩)
    (by kernel_rfl)
#print axioms proved
end Go.Proofs.YthkhahfhbhgfhaaDoor.privConsoleCollectsBytes
