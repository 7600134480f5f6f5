/-
  What readInstr of package asm returns when called: contracts over the translated program. Conditions: those that stand in each theorem.
-/
import Derived.Test.YtokhipjpppfkgaaGreatDoorAsmSplit
import Derived.Deep.RegionHeld3
namespace Go.Proofs.YtokhipjpppfkgaaGreatDoor
open Go.ChangeShapes Go.WideShapes Go.ChangeAt Go.RowKit Go.Sort
set_option linter.unusedVariables false

def ReadRet (W : World) (op rd ra rb imm : Int) (e : Ending) (W' : World) : Prop :=
  e = .returned (.agg #[.int .i64 op, .int .i64 rd, .int .i64 ra, .int .i64 rb, .int .i32 imm]) ∧ Dn W W'

def ReadAny (W : World) (s : List UInt8) (e : Ending) (W' : World) : Prop :=
  ∃ f r op, M.fields s = f :: r ∧ M.OpOf f op ∧ ReadRet W op (M.rRd op r) (M.rRa op r) (M.rRb op r) (M.rImm op r) e W'

theorem ReadRet.any {W : World} {s f : List UInt8} {r : List (List UInt8)} {op rd ra rb imm : Int} {e : Ending} {W' : World} (hP : M.fields s = f :: r) (ho : M.OpOf f op)
    (h1 : rd = M.rRd op r) (h2 : ra = M.rRa op r) (h3 : rb = M.rRb op r) (h4 : imm = M.rImm op r) (h : ReadRet W op rd ra rb imm e W') : ReadAny W s e W' := by
  subst h1 h2 h3 h4
  exact ⟨f, r, op, hP, ho, h⟩

attribute [local go_sem] run_store_func

theorem cell_new1 (w : World) (x : Value) (t : TypeId) : (w.alloc (.cells #[x] t)).cell? ⟨w.heap.size, 0, none⟩ = some x := by rw [World.cell?_alloc_new]; rfl
theorem froz_new (w : World) (cs : Array Value) (t : TypeId) (j : Nat) : (w.alloc (.cells cs t)).frozen? ⟨w.heap.size, j, none⟩ = false := by simp [go_sem]

theorem RS.start {W w1 : World} {f : List UInt8} {r : List (List UInt8)} {c : Nat} {A : Option Addr} (op : Int)
    (dn1 : Dn (W.alloc (.cells #[.int .i64 0, .int .i64 0, .int .i64 0, .int .i64 0, .int .i32 0] 23)) w1) (hz : w1.heap.size = W.heap.size + 1 + 1)
    (hcs : ∀ (j : Nat) t, (f :: r)[j]? = some t → w1.cell? ⟨W.heap.size + 1, j, none⟩ = some (.string ⟨t.toArray⟩)) (hc : r.length ≤ c) (hA : r ≠ [] → A = some ⟨W.heap.size + 1, 1, none⟩) :
    RS W (((w1.alloc (.cells #[.int .i64 op, .int .i64 0, .int .i64 0, .int .i64 0, .int .i32 0] 23)).alloc (.cells #[.slice A r.length c] 49)).alloc
      (.cells #[.func (.func 68) #[] #[.pointer (some ⟨W.heap.size + 1 + 1 + 1, 0, none⟩)]] 85)) (W.heap.size + 1 + 1) (W.heap.size + 1 + 1 + 1) (W.heap.size + 1 + 1 + 1 + 1) op r := by
  have b0 := Box.new W (.int .i64 0) (.int .i64 0) (.int .i64 0) (.int .i64 0) (.int .i32 0) 23
  have b1 := Box.new w1 (.int .i64 op) (.int .i64 0) (.int .i64 0) (.int .i64 0) (.int .i32 0) 23
  have s1 : (w1.alloc (.cells #[.int .i64 op, .int .i64 0, .int .i64 0, .int .i64 0, .int .i32 0] 23)).heap.size = W.heap.size + 1 + 1 + 1 := by rw [World.size_alloc, hz]
  have d1 := (Dn.refl w1).alloc (.cells #[.int .i64 op, .int .i64 0, .int .i64 0, .int .i64 0, .int .i32 0] 23)
  rw [hz] at b1
  generalize w1.alloc (.cells #[.int .i64 op, .int .i64 0, .int .i64 0, .int .i64 0, .int .i32 0] 23) = w2 at *
  have c2 := cell_new1 w2 (.slice A r.length c) 49
  have f2 := froz_new w2 #[.slice A r.length c] 49 0
  have d2 := (Dn.refl w2).alloc (.cells #[.slice A r.length c] 49)
  have s2 : (w2.alloc (.cells #[.slice A r.length c] 49)).heap.size = W.heap.size + 1 + 1 + 1 + 1 := by rw [World.size_alloc, s1]
  rw [s1] at c2 f2
  generalize w2.alloc (.cells #[.slice A r.length c] 49) = w3 at *
  have c3 := cell_new1 w3 (.func (.func 68) #[] #[.pointer (some ⟨W.heap.size + 1 + 1 + 1, 0, none⟩)]) 85
  have d3 := (Dn.refl w3).alloc (.cells #[.func (.func 68) #[] #[.pointer (some ⟨W.heap.size + 1 + 1 + 1, 0, none⟩)]] 85)
  rw [s2] at c3
  have hlt : W.heap.size + 1 + 1 + 1 < w3.heap.size := by omega
  refine ⟨((((Dn.refl W).alloc _).trans dn1).trans d1).trans (d2.trans d3), by omega, by omega, by omega, ⟨A, c, ⟨?_, ?_, d3.keep c2, hc, fun hr => ⟨W.heap.size + 1, 1, hA hr, by omega, fun j t ht => ?_⟩⟩⟩, (b1.dn d2).dn d3, ((b0.dn dn1).dn d1).dn (d2.trans d3), c3⟩
  · exact Nat.lt_of_lt_of_le hlt d3.size
  · rw [Below.frozen d3 (p := ⟨W.heap.size + 1 + 1 + 1, 0, none⟩) hlt]; exact f2
  · have := hcs (j + 1) t (by simpa using ht)
    rw [show 1 + j = j + 1 by omega]
    exact (d2.trans d3).keep (d1.keep this)

theorem cell_far {w : World} {b j : Nat} {u v : Value} {p : Addr} (h : w.cell? p = some v) (hp : p.block ≠ b) : (w.setCell ⟨b, j, none⟩ u).cell? p = some v :=
  (World.cell?_setCell_other w ⟨b, j, none⟩ p u (fun e => hp (congrArg Addr.block e).symm)).trans h

theorem RS.env {W w : World} {I B N : Nat} {op : Int} {l : List (List UInt8)} (h : RS W w I B N op l) (E : Env W) : Env w := E.dn h.dn

set_option maxRecDepth 100000 in
set_option maxHeartbeats 2000000 in
theorem readInstr_e (s f : List UInt8) (r : List (List UInt8)) (op : Int) (W : World) (E : Env W) (hs : s.length ≤ 100000) (hP : M.fields s = f :: r) (hop : M.OpOf f op) (hf : M.form op = 0) (hse : s.length = 0) :
    Calls Tryz.prog 27 #[.string ⟨s.toArray⟩] W (ReadAny W s) := by
  have hW := E.sz
  have hl := fields_len s
  have hmem := fields_mem s
  rw [hP] at hl hmem
  have HL : Hid (∀ x ∈ r, x.length ≤ 100000) := Lib.hid fun x hx => Nat.le_trans (hmem x (List.mem_cons_of_mem _ hx)) hs
  have HP := Lib.hid hP
  have HOP := Lib.hid hop
  clear hP hmem hop
  have HSE := Lib.hid hse
  clear hse
  simp only [List.length_cons] at hl
  go_enter Tryz.func27, Tryz.ntmps27
  go_wp2_with fail
  refine (splitN s f r _ hs (E.dn ((Dn.refl _).alloc _)) HP.out).mono ?_
  rintro e w1 ⟨c, rfl, hc, hcm, hcs, dn1, hz1⟩
  have HC1 : Hid (c = 1) := Lib.hid (by have := HSE.out; omega)
  clear hcm
  have c0 := hcs 0 f rfl
  simp only [World.size_alloc] at c0 hz1 hcs
  have E1 := (E.dn ((Dn.refl _).alloc _)).dn dn1
  have HCS := Lib.hid hcs
  clear hcs
  go_wp2_with fail
  refine (opcodeOf f _ E1).mono ?_
  rintro e w2 ⟨op', rfl, hop', rfl⟩
  obtain rfl := M.OpOf_uniq HOP.out hop'
  clear hop'
  have hc1 := HC1.out
  subst hc1
  have hr0 : r = [] := List.eq_nil_of_length_eq_zero (by omega)
  subst hr0
  go_wp2_with fail
  refine (operandReader _ _ _ _).mono ?_
  rintro e w3 ⟨rfl, hw⟩
  subst hw
  go_wp2_with fail
  have rs := RS.start (A := some ⟨W.heap.size + 1, 0, none⟩) (c := 0) op dn1 hz1 HCS.out (Nat.le_refl _) (fun h => absurd rfl h)
  simp only [List.length_nil] at rs
  clear hz1 dn1 c0 HCS E1
  generalize ((w1.alloc (.cells #[.int .i64 op, .int .i64 0, .int .i64 0, .int .i64 0, .int .i32 0] 23)).alloc (.cells #[.slice (some ⟨W.heap.size + 1, 0, none⟩) 0 0] 49)).alloc (.cells #[.func (.func 68) #[] #[.pointer (some ⟨W.heap.size + 1 + 1 + 1, 0, none⟩)]] 85) = w5 at *
  generalize W.heap.size + 1 + 1 + 1 + 1 = N at *
  generalize W.heap.size + 1 + 1 + 1 = B at *
  generalize W.heap.size + 1 + 1 = I at *
  have b0 := rs.hI
  have b1 := rs.hB
  have b2 := rs.hN
  refine (formatOf _ _ (rs.env E).tabs).mono ?_
  rintro e w6 ⟨rfl, rfl⟩
  obtain ⟨c0, c1, c2, c3, c4, c5⟩ := rs.bi.open
  have ff := rs.bi.fr
  obtain ⟨d0, d1, d2, d3, d4, d5⟩ := rs.br.open
  have gg := rs.br.fr
  go_wp2
  refine bodyPost_ret (by simp [results, Tryz.results27, go_sem, d0, d1, d2, d3, d4]; try rfl) rfl ?_
  exact ReadRet.any HP.out HOP.out (by simp [M.rRd, hf]) (by simp [M.rRa, hf]) (by simp [M.rRb, hf]) (by simp [M.rImm, hf]) ⟨rfl, (((((rs.dn.setCell (Nat.le_refl _) _).setCell (Nat.le_refl _) _).setCell (Nat.le_refl _) _).setCell (Nat.le_refl _) _).setCell (Nat.le_refl _) _)⟩

set_option maxRecDepth 100000 in
set_option maxHeartbeats 2000000 in
theorem readInstr0 (s f : List UInt8) (r : List (List UInt8)) (op : Int) (W : World) (E : Env W) (hs : s.length ≤ 100000) (hP : M.fields s = f :: r) (hop : M.OpOf f op) (hf : M.form op = 0) (hse : 0 < s.length) :
    Calls Tryz.prog 27 #[.string ⟨s.toArray⟩] W (ReadAny W s) := by
  have hW := E.sz
  have hl := fields_len s
  have hmem := fields_mem s
  rw [hP] at hl hmem
  have HL : Hid (∀ x ∈ r, x.length ≤ 100000) := Lib.hid fun x hx => Nat.le_trans (hmem x (List.mem_cons_of_mem _ hx)) hs
  have HP := Lib.hid hP
  have HOP := Lib.hid hop
  clear hP hmem hop
  simp only [List.length_cons] at hl
  go_enter Tryz.func27, Tryz.ntmps27
  go_wp2_with fail
  refine (splitN s f r _ hs (E.dn ((Dn.refl _).alloc _)) HP.out).mono ?_
  rintro e w1 ⟨c, rfl, hc, hcm, hcs, dn1, hz1⟩
  have hc2 : 1 < c := by omega
  clear hcm
  have c0 := hcs 0 f rfl
  simp only [World.size_alloc] at c0 hz1 hcs
  have E1 := (E.dn ((Dn.refl _).alloc _)).dn dn1
  have HCS := Lib.hid hcs
  clear hcs
  go_wp2_with fail
  refine (opcodeOf f _ E1).mono ?_
  rintro e w2 ⟨op', rfl, hop', rfl⟩
  obtain rfl := M.OpOf_uniq HOP.out hop'
  clear hop'
  go_wp2_with fail
  refine (operandReader _ _ _ _).mono ?_
  rintro e w3 ⟨rfl, hw⟩
  subst hw
  go_wp2_with fail
  have rs := RS.start (A := some ⟨W.heap.size + 1, 1, none⟩) (c := c - 1) op dn1 hz1 HCS.out (by omega) (fun _ => rfl)
  clear hz1 dn1 c0 HCS E1
  generalize ((w1.alloc (.cells #[.int .i64 op, .int .i64 0, .int .i64 0, .int .i64 0, .int .i32 0] 23)).alloc (.cells #[.slice (some ⟨W.heap.size + 1, 1, none⟩) r.length (c - 1)] 49)).alloc (.cells #[.func (.func 68) #[] #[.pointer (some ⟨W.heap.size + 1 + 1 + 1, 0, none⟩)]] 85) = w5 at *
  generalize W.heap.size + 1 + 1 + 1 + 1 = N at *
  generalize W.heap.size + 1 + 1 + 1 = B at *
  generalize W.heap.size + 1 + 1 = I at *
  have b0 := rs.hI
  have b1 := rs.hB
  have b2 := rs.hN
  refine (formatOf _ _ (rs.env E).tabs).mono ?_
  rintro e w6 ⟨rfl, rfl⟩
  obtain ⟨c0, c1, c2, c3, c4, c5⟩ := rs.bi.open
  have ff := rs.bi.fr
  obtain ⟨d0, d1, d2, d3, d4, d5⟩ := rs.br.open
  have gg := rs.br.fr
  go_wp2
  refine bodyPost_ret (by simp [results, Tryz.results27, go_sem, d0, d1, d2, d3, d4]; try rfl) rfl ?_
  exact ReadRet.any HP.out HOP.out (by simp [M.rRd, hf]) (by simp [M.rRa, hf]) (by simp [M.rRb, hf]) (by simp [M.rImm, hf]) ⟨rfl, (((((rs.dn.setCell (Nat.le_refl _) _).setCell (Nat.le_refl _) _).setCell (Nat.le_refl _) _).setCell (Nat.le_refl _) _).setCell (Nat.le_refl _) _)⟩

set_option maxRecDepth 100000 in
set_option maxHeartbeats 2000000 in
theorem readInstr1 (s f : List UInt8) (r : List (List UInt8)) (op : Int) (W : World) (E : Env W) (hs : s.length ≤ 100000) (hP : M.fields s = f :: r) (hop : M.OpOf f op) (hf : M.form op = 1) (hse : 0 < s.length) :
    Calls Tryz.prog 27 #[.string ⟨s.toArray⟩] W (ReadAny W s) := by
  have hW := E.sz
  have hl := fields_len s
  have hmem := fields_mem s
  rw [hP] at hl hmem
  have HL : Hid (∀ x ∈ r, x.length ≤ 100000) := Lib.hid fun x hx => Nat.le_trans (hmem x (List.mem_cons_of_mem _ hx)) hs
  have HP := Lib.hid hP
  have HOP := Lib.hid hop
  clear hP hmem hop
  simp only [List.length_cons] at hl
  go_enter Tryz.func27, Tryz.ntmps27
  go_wp2_with fail
  refine (splitN s f r _ hs (E.dn ((Dn.refl _).alloc _)) HP.out).mono ?_
  rintro e w1 ⟨c, rfl, hc, hcm, hcs, dn1, hz1⟩
  have hc2 : 1 < c := by omega
  clear hcm
  have c0 := hcs 0 f rfl
  simp only [World.size_alloc] at c0 hz1 hcs
  have E1 := (E.dn ((Dn.refl _).alloc _)).dn dn1
  have HCS := Lib.hid hcs
  clear hcs
  go_wp2_with fail
  refine (opcodeOf f _ E1).mono ?_
  rintro e w2 ⟨op', rfl, hop', rfl⟩
  obtain rfl := M.OpOf_uniq HOP.out hop'
  clear hop'
  go_wp2_with fail
  refine (operandReader _ _ _ _).mono ?_
  rintro e w3 ⟨rfl, hw⟩
  subst hw
  go_wp2_with fail
  have rs := RS.start (A := some ⟨W.heap.size + 1, 1, none⟩) (c := c - 1) op dn1 hz1 HCS.out (by omega) (fun _ => rfl)
  clear hz1 dn1 c0 HCS E1
  generalize ((w1.alloc (.cells #[.int .i64 op, .int .i64 0, .int .i64 0, .int .i64 0, .int .i32 0] 23)).alloc (.cells #[.slice (some ⟨W.heap.size + 1, 1, none⟩) r.length (c - 1)] 49)).alloc (.cells #[.func (.func 68) #[] #[.pointer (some ⟨W.heap.size + 1 + 1 + 1, 0, none⟩)]] 85) = w5 at *
  generalize W.heap.size + 1 + 1 + 1 + 1 = N at *
  generalize W.heap.size + 1 + 1 + 1 = B at *
  generalize W.heap.size + 1 + 1 = I at *
  have b0 := rs.hI
  have b1 := rs.hB
  have b2 := rs.hN
  refine (formatOf _ _ (rs.env E).tabs).mono ?_
  rintro e w6 ⟨rfl, rfl⟩
  go_wp2_with fail
  refine (register r B N _ (rs.env E) (by omega) HL.out (by omega) rs.fr rs.nx).mono ?_
  rintro e wrs1 ⟨rfl, fr, gr⟩
  have rs1 := rs.step fr gr
  try simp only [List.drop_drop, Nat.reduceAdd] at rs1
  clear fr gr
  go_wp2_with fail
  refine (register (r.drop 1) B N _ (rs1.env E) (by omega) (fun x hx => HL.out x (List.mem_of_mem_drop hx)) (by simp; omega) rs1.fr rs1.nx).mono ?_
  rintro e wrs2 ⟨rfl, fr, gr⟩
  have rs2 := rs1.step fr gr
  try simp only [List.drop_drop, Nat.reduceAdd] at rs2
  clear fr gr
  go_wp2_with fail
  refine (register (r.drop 2) B N _ (rs2.env E) (by omega) (fun x hx => HL.out x (List.mem_of_mem_drop hx)) (by simp; omega) rs2.fr rs2.nx).mono ?_
  rintro e wrs3 ⟨rfl, fr, gr⟩
  have rs3 := rs2.step fr gr
  try simp only [List.drop_drop, Nat.reduceAdd] at rs3
  clear fr gr
  obtain ⟨c0, c1, c2, c3, c4, c5⟩ := rs3.bi.open
  have ff := rs3.bi.fr
  obtain ⟨d0, d1, d2, d3, d4, d5⟩ := rs3.br.open
  have gg := rs3.br.fr
  go_wp2
  refine bodyPost_ret (by simp [results, Tryz.results27, go_sem, d0, d1, d2, d3, d4]; try rfl) rfl ?_
  exact ReadRet.any HP.out HOP.out (by simp [M.rRd, hf]) (by simp [M.rRa, hf]) (by simp [M.rRb, hf]) (by simp [M.rImm, hf]) ⟨rfl, ((((((((rs3.dn.setCell (Nat.le_of_lt b0) _).setCell (Nat.le_of_lt b0) _).setCell (Nat.le_of_lt b0) _).setCell (Nat.le_refl _) _).setCell (Nat.le_refl _) _).setCell (Nat.le_refl _) _).setCell (Nat.le_refl _) _).setCell (Nat.le_refl _) _)⟩

set_option maxRecDepth 100000 in
set_option maxHeartbeats 2000000 in
theorem readInstr2 (s f : List UInt8) (r : List (List UInt8)) (op : Int) (W : World) (E : Env W) (hs : s.length ≤ 100000) (hP : M.fields s = f :: r) (hop : M.OpOf f op) (hf : M.form op = 2) (hse : 0 < s.length) :
    Calls Tryz.prog 27 #[.string ⟨s.toArray⟩] W (ReadAny W s) := by
  have hW := E.sz
  have hl := fields_len s
  have hmem := fields_mem s
  rw [hP] at hl hmem
  have HL : Hid (∀ x ∈ r, x.length ≤ 100000) := Lib.hid fun x hx => Nat.le_trans (hmem x (List.mem_cons_of_mem _ hx)) hs
  have HP := Lib.hid hP
  have HOP := Lib.hid hop
  clear hP hmem hop
  simp only [List.length_cons] at hl
  go_enter Tryz.func27, Tryz.ntmps27
  go_wp2_with fail
  refine (splitN s f r _ hs (E.dn ((Dn.refl _).alloc _)) HP.out).mono ?_
  rintro e w1 ⟨c, rfl, hc, hcm, hcs, dn1, hz1⟩
  have hc2 : 1 < c := by omega
  clear hcm
  have c0 := hcs 0 f rfl
  simp only [World.size_alloc] at c0 hz1 hcs
  have E1 := (E.dn ((Dn.refl _).alloc _)).dn dn1
  have HCS := Lib.hid hcs
  clear hcs
  go_wp2_with fail
  refine (opcodeOf f _ E1).mono ?_
  rintro e w2 ⟨op', rfl, hop', rfl⟩
  obtain rfl := M.OpOf_uniq HOP.out hop'
  clear hop'
  go_wp2_with fail
  refine (operandReader _ _ _ _).mono ?_
  rintro e w3 ⟨rfl, hw⟩
  subst hw
  go_wp2_with fail
  have rs := RS.start (A := some ⟨W.heap.size + 1, 1, none⟩) (c := c - 1) op dn1 hz1 HCS.out (by omega) (fun _ => rfl)
  clear hz1 dn1 c0 HCS E1
  generalize ((w1.alloc (.cells #[.int .i64 op, .int .i64 0, .int .i64 0, .int .i64 0, .int .i32 0] 23)).alloc (.cells #[.slice (some ⟨W.heap.size + 1, 1, none⟩) r.length (c - 1)] 49)).alloc (.cells #[.func (.func 68) #[] #[.pointer (some ⟨W.heap.size + 1 + 1 + 1, 0, none⟩)]] 85) = w5 at *
  generalize W.heap.size + 1 + 1 + 1 + 1 = N at *
  generalize W.heap.size + 1 + 1 + 1 = B at *
  generalize W.heap.size + 1 + 1 = I at *
  have b0 := rs.hI
  have b1 := rs.hB
  have b2 := rs.hN
  refine (formatOf _ _ (rs.env E).tabs).mono ?_
  rintro e w6 ⟨rfl, rfl⟩
  go_wp2_with fail
  have rs0 := rs.drew
  have nx0 := rs.nx
  have hNI : N ≠ I := by omega
  go_region_held3 (fun w' => w'.cell? ⟨N, 0, none⟩ = some (.func (.func 68) #[] #[.pointer (some ⟨B, 0, none⟩)]))
    (first | exact nx0 | exact rs0.nx | exact rs1.nx | exact rs2.nx | exact rs3.nx | exact (cell_far rs3.nx hNI) | exact (cell_far (cell_far rs3.nx hNI) hNI) | exact (cell_far (cell_far (cell_far rs3.nx hNI) hNI) hNI))
    (first
    | (go_at_call 51; (with_reducible refine (register r B N _ (rs0.env E) (by omega) HL.out (by omega) rs0.fr rs0.nx).mono ?_); rintro e wrs1 ⟨rfl, fr, gr⟩; have rs1 := rs0.step fr gr; (try simp only [List.drop_drop, Nat.reduceAdd] at rs1); clear fr gr)
    | (go_at_call 51; (with_reducible refine (register (r.drop 1) B N _ (rs1.env E) (by omega) (fun x hx => HL.out x (List.mem_of_mem_drop hx)) (by simp; omega) rs1.fr rs1.nx).mono ?_); rintro e wrs2 ⟨rfl, fr, gr⟩; have rs2 := rs1.step fr gr; (try simp only [List.drop_drop, Nat.reduceAdd] at rs2); clear fr gr)
    | (go_at_call 68; (with_reducible refine (next [] (r.drop 2) B _ (rs2.env E) (by omega) (fun x hx => HL.out x (List.mem_of_mem_drop hx)) (by simp; omega) rs2.fr).mono ?_); rintro e wrs3 ⟨rfl, fr, gr⟩; have rs3 := rs2.step fr gr; (try simp only [List.drop_drop, Nat.reduceAdd] at rs3); clear fr gr; obtain ⟨x0, x1, x2, x3, x4, x5⟩ := rs3.bi.open; have xx := rs3.bi.fr)
)
  obtain ⟨c0, c1, c2, c3, c4, c5⟩ := rs3.bi.open
  have ff := rs3.bi.fr
  obtain ⟨d0, d1, d2, d3, d4, d5⟩ := rs3.br.open
  have gg := rs3.br.fr
  go_wp2
  refine bodyPost_ret (by simp [results, Tryz.results27, go_sem, d0, d1, d2, d3, d4]; try rfl) rfl ?_
  exact ReadRet.any HP.out HOP.out (by simp [M.rRd, hf]) (by simp [M.rRa, hf]) (by simp [M.rRb, hf]) (by simp [M.rImm, hf]) ⟨rfl, ((((((((rs3.dn.setCell (Nat.le_of_lt b0) _).setCell (Nat.le_of_lt b0) _).setCell (Nat.le_of_lt b0) _).setCell (Nat.le_refl _) _).setCell (Nat.le_refl _) _).setCell (Nat.le_refl _) _).setCell (Nat.le_refl _) _).setCell (Nat.le_refl _) _)⟩

set_option maxRecDepth 100000 in
set_option maxHeartbeats 2000000 in
theorem readInstr3 (s f : List UInt8) (r : List (List UInt8)) (op : Int) (W : World) (E : Env W) (hs : s.length ≤ 100000) (hP : M.fields s = f :: r) (hop : M.OpOf f op) (hf : M.form op = 3) (hse : 0 < s.length) :
    Calls Tryz.prog 27 #[.string ⟨s.toArray⟩] W (ReadAny W s) := by
  have hW := E.sz
  have hl := fields_len s
  have hmem := fields_mem s
  rw [hP] at hl hmem
  have HL : Hid (∀ x ∈ r, x.length ≤ 100000) := Lib.hid fun x hx => Nat.le_trans (hmem x (List.mem_cons_of_mem _ hx)) hs
  have HP := Lib.hid hP
  have HOP := Lib.hid hop
  clear hP hmem hop
  simp only [List.length_cons] at hl
  go_enter Tryz.func27, Tryz.ntmps27
  go_wp2_with fail
  refine (splitN s f r _ hs (E.dn ((Dn.refl _).alloc _)) HP.out).mono ?_
  rintro e w1 ⟨c, rfl, hc, hcm, hcs, dn1, hz1⟩
  have hc2 : 1 < c := by omega
  clear hcm
  have c0 := hcs 0 f rfl
  simp only [World.size_alloc] at c0 hz1 hcs
  have E1 := (E.dn ((Dn.refl _).alloc _)).dn dn1
  have HCS := Lib.hid hcs
  clear hcs
  go_wp2_with fail
  refine (opcodeOf f _ E1).mono ?_
  rintro e w2 ⟨op', rfl, hop', rfl⟩
  obtain rfl := M.OpOf_uniq HOP.out hop'
  clear hop'
  go_wp2_with fail
  refine (operandReader _ _ _ _).mono ?_
  rintro e w3 ⟨rfl, hw⟩
  subst hw
  go_wp2_with fail
  have rs := RS.start (A := some ⟨W.heap.size + 1, 1, none⟩) (c := c - 1) op dn1 hz1 HCS.out (by omega) (fun _ => rfl)
  clear hz1 dn1 c0 HCS E1
  generalize ((w1.alloc (.cells #[.int .i64 op, .int .i64 0, .int .i64 0, .int .i64 0, .int .i32 0] 23)).alloc (.cells #[.slice (some ⟨W.heap.size + 1, 1, none⟩) r.length (c - 1)] 49)).alloc (.cells #[.func (.func 68) #[] #[.pointer (some ⟨W.heap.size + 1 + 1 + 1, 0, none⟩)]] 85) = w5 at *
  generalize W.heap.size + 1 + 1 + 1 + 1 = N at *
  generalize W.heap.size + 1 + 1 + 1 = B at *
  generalize W.heap.size + 1 + 1 = I at *
  have b0 := rs.hI
  have b1 := rs.hB
  have b2 := rs.hN
  refine (formatOf _ _ (rs.env E).tabs).mono ?_
  rintro e w6 ⟨rfl, rfl⟩
  go_wp2_with fail
  have rs0 := rs.drew
  have nx0 := rs.nx
  have hNI : N ≠ I := by omega
  go_region_held3 (fun w' => w'.cell? ⟨N, 0, none⟩ = some (.func (.func 68) #[] #[.pointer (some ⟨B, 0, none⟩)]))
    (first | exact nx0 | exact rs0.nx | exact rs1.nx | exact rs2.nx | exact (cell_far rs2.nx hNI) | exact (cell_far (cell_far rs2.nx hNI) hNI) | exact (cell_far (cell_far (cell_far rs2.nx hNI) hNI) hNI))
    (first
    | (go_at_call 51; (with_reducible refine (register r B N _ (rs0.env E) (by omega) HL.out (by omega) rs0.fr rs0.nx).mono ?_); rintro e wrs1 ⟨rfl, fr, gr⟩; have rs1 := rs0.step fr gr; (try simp only [List.drop_drop, Nat.reduceAdd] at rs1); clear fr gr)
    | (go_at_call 68; (with_reducible refine (next [] (r.drop 1) B _ (rs1.env E) (by omega) (fun x hx => HL.out x (List.mem_of_mem_drop hx)) (by simp; omega) rs1.fr).mono ?_); rintro e wrs2 ⟨rfl, fr, gr⟩; have rs2 := rs1.step fr gr; (try simp only [List.drop_drop, Nat.reduceAdd] at rs2); clear fr gr; obtain ⟨x0, x1, x2, x3, x4, x5⟩ := rs2.bi.open; have xx := rs2.bi.fr)
)
  obtain ⟨c0, c1, c2, c3, c4, c5⟩ := rs2.bi.open
  have ff := rs2.bi.fr
  obtain ⟨d0, d1, d2, d3, d4, d5⟩ := rs2.br.open
  have gg := rs2.br.fr
  go_wp2
  refine bodyPost_ret (by simp [results, Tryz.results27, go_sem, d0, d1, d2, d3, d4]; try rfl) rfl ?_
  exact ReadRet.any HP.out HOP.out (by simp [M.rRd, hf]) (by simp [M.rRa, hf]) (by simp [M.rRb, hf]) (by simp [M.rImm, hf]) ⟨rfl, (((((((rs2.dn.setCell (Nat.le_of_lt b0) _).setCell (Nat.le_of_lt b0) _).setCell (Nat.le_refl _) _).setCell (Nat.le_refl _) _).setCell (Nat.le_refl _) _).setCell (Nat.le_refl _) _).setCell (Nat.le_refl _) _)⟩

set_option maxRecDepth 100000 in
set_option maxHeartbeats 2000000 in
theorem readInstr4 (s f : List UInt8) (r : List (List UInt8)) (op : Int) (W : World) (E : Env W) (hs : s.length ≤ 100000) (hP : M.fields s = f :: r) (hop : M.OpOf f op) (hf : M.form op = 4) (hse : 0 < s.length) :
    Calls Tryz.prog 27 #[.string ⟨s.toArray⟩] W (ReadAny W s) := by
  have hW := E.sz
  have hl := fields_len s
  have hmem := fields_mem s
  rw [hP] at hl hmem
  have HL : Hid (∀ x ∈ r, x.length ≤ 100000) := Lib.hid fun x hx => Nat.le_trans (hmem x (List.mem_cons_of_mem _ hx)) hs
  have HP := Lib.hid hP
  have HOP := Lib.hid hop
  clear hP hmem hop
  simp only [List.length_cons] at hl
  go_enter Tryz.func27, Tryz.ntmps27
  go_wp2_with fail
  refine (splitN s f r _ hs (E.dn ((Dn.refl _).alloc _)) HP.out).mono ?_
  rintro e w1 ⟨c, rfl, hc, hcm, hcs, dn1, hz1⟩
  have hc2 : 1 < c := by omega
  clear hcm
  have c0 := hcs 0 f rfl
  simp only [World.size_alloc] at c0 hz1 hcs
  have E1 := (E.dn ((Dn.refl _).alloc _)).dn dn1
  have HCS := Lib.hid hcs
  clear hcs
  go_wp2_with fail
  refine (opcodeOf f _ E1).mono ?_
  rintro e w2 ⟨op', rfl, hop', rfl⟩
  obtain rfl := M.OpOf_uniq HOP.out hop'
  clear hop'
  go_wp2_with fail
  refine (operandReader _ _ _ _).mono ?_
  rintro e w3 ⟨rfl, hw⟩
  subst hw
  go_wp2_with fail
  have rs := RS.start (A := some ⟨W.heap.size + 1, 1, none⟩) (c := c - 1) op dn1 hz1 HCS.out (by omega) (fun _ => rfl)
  clear hz1 dn1 c0 HCS E1
  generalize ((w1.alloc (.cells #[.int .i64 op, .int .i64 0, .int .i64 0, .int .i64 0, .int .i32 0] 23)).alloc (.cells #[.slice (some ⟨W.heap.size + 1, 1, none⟩) r.length (c - 1)] 49)).alloc (.cells #[.func (.func 68) #[] #[.pointer (some ⟨W.heap.size + 1 + 1 + 1, 0, none⟩)]] 85) = w5 at *
  generalize W.heap.size + 1 + 1 + 1 + 1 = N at *
  generalize W.heap.size + 1 + 1 + 1 = B at *
  generalize W.heap.size + 1 + 1 = I at *
  have b0 := rs.hI
  have b1 := rs.hB
  have b2 := rs.hN
  refine (formatOf _ _ (rs.env E).tabs).mono ?_
  rintro e w6 ⟨rfl, rfl⟩
  obtain ⟨c0, c1, c2, c3, c4, c5⟩ := rs.bi.open
  have ff := rs.bi.fr
  obtain ⟨d0, d1, d2, d3, d4, d5⟩ := rs.br.open
  have gg := rs.br.fr
  go_wp2
  refine bodyPost_ret (by simp [results, Tryz.results27, go_sem, d0, d1, d2, d3, d4]; try rfl) rfl ?_
  exact ReadRet.any HP.out HOP.out (by simp [M.rRd, hf]) (by simp [M.rRa, hf]) (by simp [M.rRb, hf]) (by simp [M.rImm, hf]) ⟨rfl, (((((rs.dn.setCell (Nat.le_refl _) _).setCell (Nat.le_refl _) _).setCell (Nat.le_refl _) _).setCell (Nat.le_refl _) _).setCell (Nat.le_refl _) _)⟩

set_option maxRecDepth 100000 in
set_option maxHeartbeats 2000000 in
theorem readInstr5 (s f : List UInt8) (r : List (List UInt8)) (op : Int) (W : World) (E : Env W) (hs : s.length ≤ 100000) (hP : M.fields s = f :: r) (hop : M.OpOf f op) (hf : M.form op = 5) (hse : 0 < s.length) :
    Calls Tryz.prog 27 #[.string ⟨s.toArray⟩] W (ReadAny W s) := by
  have hW := E.sz
  have hl := fields_len s
  have hmem := fields_mem s
  rw [hP] at hl hmem
  have HL : Hid (∀ x ∈ r, x.length ≤ 100000) := Lib.hid fun x hx => Nat.le_trans (hmem x (List.mem_cons_of_mem _ hx)) hs
  have HP := Lib.hid hP
  have HOP := Lib.hid hop
  clear hP hmem hop
  simp only [List.length_cons] at hl
  go_enter Tryz.func27, Tryz.ntmps27
  go_wp2_with fail
  refine (splitN s f r _ hs (E.dn ((Dn.refl _).alloc _)) HP.out).mono ?_
  rintro e w1 ⟨c, rfl, hc, hcm, hcs, dn1, hz1⟩
  have hc2 : 1 < c := by omega
  clear hcm
  have c0 := hcs 0 f rfl
  simp only [World.size_alloc] at c0 hz1 hcs
  have E1 := (E.dn ((Dn.refl _).alloc _)).dn dn1
  have HCS := Lib.hid hcs
  clear hcs
  go_wp2_with fail
  refine (opcodeOf f _ E1).mono ?_
  rintro e w2 ⟨op', rfl, hop', rfl⟩
  obtain rfl := M.OpOf_uniq HOP.out hop'
  clear hop'
  go_wp2_with fail
  refine (operandReader _ _ _ _).mono ?_
  rintro e w3 ⟨rfl, hw⟩
  subst hw
  go_wp2_with fail
  have rs := RS.start (A := some ⟨W.heap.size + 1, 1, none⟩) (c := c - 1) op dn1 hz1 HCS.out (by omega) (fun _ => rfl)
  clear hz1 dn1 c0 HCS E1
  generalize ((w1.alloc (.cells #[.int .i64 op, .int .i64 0, .int .i64 0, .int .i64 0, .int .i32 0] 23)).alloc (.cells #[.slice (some ⟨W.heap.size + 1, 1, none⟩) r.length (c - 1)] 49)).alloc (.cells #[.func (.func 68) #[] #[.pointer (some ⟨W.heap.size + 1 + 1 + 1, 0, none⟩)]] 85) = w5 at *
  generalize W.heap.size + 1 + 1 + 1 + 1 = N at *
  generalize W.heap.size + 1 + 1 + 1 = B at *
  generalize W.heap.size + 1 + 1 = I at *
  have b0 := rs.hI
  have b1 := rs.hB
  have b2 := rs.hN
  refine (formatOf _ _ (rs.env E).tabs).mono ?_
  rintro e w6 ⟨rfl, rfl⟩
  go_wp2_with fail
  have rs0 := rs.drew
  have nx0 := rs.nx
  have hNI : N ≠ I := by omega
  go_region_held3 (fun w' => w'.cell? ⟨N, 0, none⟩ = some (.func (.func 68) #[] #[.pointer (some ⟨B, 0, none⟩)]))
    (first | exact nx0 | exact rs0.nx | exact rs1.nx | exact rs2.nx | exact (cell_far rs2.nx hNI) | exact (cell_far (cell_far rs2.nx hNI) hNI) | exact (cell_far (cell_far (cell_far rs2.nx hNI) hNI) hNI))
    (first
    | (go_at_call 51; (with_reducible refine (register r B N _ (rs0.env E) (by omega) HL.out (by omega) rs0.fr rs0.nx).mono ?_); rintro e wrs1 ⟨rfl, fr, gr⟩; have rs1 := rs0.step fr gr; (try simp only [List.drop_drop, Nat.reduceAdd] at rs1); clear fr gr)
    | (go_at_call 68; (with_reducible refine (next [99] (r.drop 1) B _ (rs1.env E) (by omega) (fun x hx => HL.out x (List.mem_of_mem_drop hx)) (by simp; omega) rs1.fr).mono ?_); rintro e wrs2 ⟨rfl, fr, gr⟩; have rs2 := rs1.step fr gr; (try simp only [List.drop_drop, Nat.reduceAdd] at rs2); clear fr gr; obtain ⟨x0, x1, x2, x3, x4, x5⟩ := rs2.bi.open; have xx := rs2.bi.fr)
)
  obtain ⟨c0, c1, c2, c3, c4, c5⟩ := rs2.bi.open
  have ff := rs2.bi.fr
  obtain ⟨d0, d1, d2, d3, d4, d5⟩ := rs2.br.open
  have gg := rs2.br.fr
  go_wp2
  refine bodyPost_ret (by simp [results, Tryz.results27, go_sem, d0, d1, d2, d3, d4]; try rfl) rfl ?_
  exact ReadRet.any HP.out HOP.out (by simp [M.rRd, hf]) (by simp [M.rRa, hf]) (by simp [M.rRb, hf]) (by simp [M.rImm, hf]) ⟨rfl, (((((((rs2.dn.setCell (Nat.le_of_lt b0) _).setCell (Nat.le_of_lt b0) _).setCell (Nat.le_refl _) _).setCell (Nat.le_refl _) _).setCell (Nat.le_refl _) _).setCell (Nat.le_refl _) _).setCell (Nat.le_refl _) _)⟩

set_option maxRecDepth 100000 in
set_option maxHeartbeats 2000000 in
theorem readInstr6 (s f : List UInt8) (r : List (List UInt8)) (op : Int) (W : World) (E : Env W) (hs : s.length ≤ 100000) (hP : M.fields s = f :: r) (hop : M.OpOf f op) (hf : M.form op = 6) (hse : 0 < s.length) :
    Calls Tryz.prog 27 #[.string ⟨s.toArray⟩] W (ReadAny W s) := by
  have hW := E.sz
  have hl := fields_len s
  have hmem := fields_mem s
  rw [hP] at hl hmem
  have HL : Hid (∀ x ∈ r, x.length ≤ 100000) := Lib.hid fun x hx => Nat.le_trans (hmem x (List.mem_cons_of_mem _ hx)) hs
  have HP := Lib.hid hP
  have HOP := Lib.hid hop
  clear hP hmem hop
  simp only [List.length_cons] at hl
  go_enter Tryz.func27, Tryz.ntmps27
  go_wp2_with fail
  refine (splitN s f r _ hs (E.dn ((Dn.refl _).alloc _)) HP.out).mono ?_
  rintro e w1 ⟨c, rfl, hc, hcm, hcs, dn1, hz1⟩
  have hc2 : 1 < c := by omega
  clear hcm
  have c0 := hcs 0 f rfl
  simp only [World.size_alloc] at c0 hz1 hcs
  have E1 := (E.dn ((Dn.refl _).alloc _)).dn dn1
  have HCS := Lib.hid hcs
  clear hcs
  go_wp2_with fail
  refine (opcodeOf f _ E1).mono ?_
  rintro e w2 ⟨op', rfl, hop', rfl⟩
  obtain rfl := M.OpOf_uniq HOP.out hop'
  clear hop'
  go_wp2_with fail
  refine (operandReader _ _ _ _).mono ?_
  rintro e w3 ⟨rfl, hw⟩
  subst hw
  go_wp2_with fail
  have rs := RS.start (A := some ⟨W.heap.size + 1, 1, none⟩) (c := c - 1) op dn1 hz1 HCS.out (by omega) (fun _ => rfl)
  clear hz1 dn1 c0 HCS E1
  generalize ((w1.alloc (.cells #[.int .i64 op, .int .i64 0, .int .i64 0, .int .i64 0, .int .i32 0] 23)).alloc (.cells #[.slice (some ⟨W.heap.size + 1, 1, none⟩) r.length (c - 1)] 49)).alloc (.cells #[.func (.func 68) #[] #[.pointer (some ⟨W.heap.size + 1 + 1 + 1, 0, none⟩)]] 85) = w5 at *
  generalize W.heap.size + 1 + 1 + 1 + 1 = N at *
  generalize W.heap.size + 1 + 1 + 1 = B at *
  generalize W.heap.size + 1 + 1 = I at *
  have b0 := rs.hI
  have b1 := rs.hB
  have b2 := rs.hN
  refine (formatOf _ _ (rs.env E).tabs).mono ?_
  rintro e w6 ⟨rfl, rfl⟩
  have nx0 := rs.nx
  go_wp2_with fail
  refine (next [99] r B _ (rs.env E) (by omega) HL.out (by omega) rs.fr).mono ?_
  rintro e wrs1 ⟨rfl, fr, gr⟩
  have rs1 := rs.step fr gr
  try simp only [List.drop_drop, Nat.reduceAdd] at rs1
  clear fr gr
  go_wp2_with fail
  refine (register (r.drop 1) B N _ (rs1.env E) (by omega) (fun x hx => HL.out x (List.mem_of_mem_drop hx)) (by simp; omega) rs1.fr rs1.nx).mono ?_
  rintro e wrs2 ⟨rfl, fr, gr⟩
  have rs2 := rs1.step fr gr
  try simp only [List.drop_drop, Nat.reduceAdd] at rs2
  clear fr gr
  obtain ⟨c0, c1, c2, c3, c4, c5⟩ := rs2.bi.open
  have ff := rs2.bi.fr
  obtain ⟨d0, d1, d2, d3, d4, d5⟩ := rs2.br.open
  have gg := rs2.br.fr
  go_wp2
  refine bodyPost_ret (by simp [results, Tryz.results27, go_sem, d0, d1, d2, d3, d4]; try rfl) rfl ?_
  exact ReadRet.any HP.out HOP.out (by simp [M.rRd, hf]) (by simp [M.rRa, hf]) (by simp [M.rRb, hf]) (by simp [M.rImm, hf]) ⟨rfl, (((((((rs2.dn.setCell (Nat.le_of_lt b0) _).setCell (Nat.le_of_lt b0) _).setCell (Nat.le_refl _) _).setCell (Nat.le_refl _) _).setCell (Nat.le_refl _) _).setCell (Nat.le_refl _) _).setCell (Nat.le_refl _) _)⟩

set_option maxRecDepth 100000 in
set_option maxHeartbeats 2000000 in
theorem readInstr7 (s f : List UInt8) (r : List (List UInt8)) (op : Int) (W : World) (E : Env W) (hs : s.length ≤ 100000) (hP : M.fields s = f :: r) (hop : M.OpOf f op) (hf : M.form op = 7) (hse : 0 < s.length) :
    Calls Tryz.prog 27 #[.string ⟨s.toArray⟩] W (ReadAny W s) := by
  have hW := E.sz
  have hl := fields_len s
  have hmem := fields_mem s
  rw [hP] at hl hmem
  have HL : Hid (∀ x ∈ r, x.length ≤ 100000) := Lib.hid fun x hx => Nat.le_trans (hmem x (List.mem_cons_of_mem _ hx)) hs
  have HP := Lib.hid hP
  have HOP := Lib.hid hop
  clear hP hmem hop
  simp only [List.length_cons] at hl
  go_enter Tryz.func27, Tryz.ntmps27
  go_wp2_with fail
  refine (splitN s f r _ hs (E.dn ((Dn.refl _).alloc _)) HP.out).mono ?_
  rintro e w1 ⟨c, rfl, hc, hcm, hcs, dn1, hz1⟩
  have hc2 : 1 < c := by omega
  clear hcm
  have c0 := hcs 0 f rfl
  simp only [World.size_alloc] at c0 hz1 hcs
  have E1 := (E.dn ((Dn.refl _).alloc _)).dn dn1
  have HCS := Lib.hid hcs
  clear hcs
  go_wp2_with fail
  refine (opcodeOf f _ E1).mono ?_
  rintro e w2 ⟨op', rfl, hop', rfl⟩
  obtain rfl := M.OpOf_uniq HOP.out hop'
  clear hop'
  go_wp2_with fail
  refine (operandReader _ _ _ _).mono ?_
  rintro e w3 ⟨rfl, hw⟩
  subst hw
  go_wp2_with fail
  have rs := RS.start (A := some ⟨W.heap.size + 1, 1, none⟩) (c := c - 1) op dn1 hz1 HCS.out (by omega) (fun _ => rfl)
  clear hz1 dn1 c0 HCS E1
  generalize ((w1.alloc (.cells #[.int .i64 op, .int .i64 0, .int .i64 0, .int .i64 0, .int .i32 0] 23)).alloc (.cells #[.slice (some ⟨W.heap.size + 1, 1, none⟩) r.length (c - 1)] 49)).alloc (.cells #[.func (.func 68) #[] #[.pointer (some ⟨W.heap.size + 1 + 1 + 1, 0, none⟩)]] 85) = w5 at *
  generalize W.heap.size + 1 + 1 + 1 + 1 = N at *
  generalize W.heap.size + 1 + 1 + 1 = B at *
  generalize W.heap.size + 1 + 1 = I at *
  have b0 := rs.hI
  have b1 := rs.hB
  have b2 := rs.hN
  refine (formatOf _ _ (rs.env E).tabs).mono ?_
  rintro e w6 ⟨rfl, rfl⟩
  go_wp2_with fail
  refine (register r B N _ (rs.env E) (by omega) HL.out (by omega) rs.fr rs.nx).mono ?_
  rintro e wrs1 ⟨rfl, fr, gr⟩
  have rs1 := rs.step fr gr
  try simp only [List.drop_drop, Nat.reduceAdd] at rs1
  clear fr gr
  obtain ⟨c0, c1, c2, c3, c4, c5⟩ := rs1.bi.open
  have ff := rs1.bi.fr
  obtain ⟨d0, d1, d2, d3, d4, d5⟩ := rs1.br.open
  have gg := rs1.br.fr
  go_wp2
  refine bodyPost_ret (by simp [results, Tryz.results27, go_sem, d0, d1, d2, d3, d4]; try rfl) rfl ?_
  exact ReadRet.any HP.out HOP.out (by simp [M.rRd, hf]) (by simp [M.rRa, hf]) (by simp [M.rRb, hf]) (by simp [M.rImm, hf]) ⟨rfl, ((((((rs1.dn.setCell (Nat.le_of_lt b0) _).setCell (Nat.le_refl _) _).setCell (Nat.le_refl _) _).setCell (Nat.le_refl _) _).setCell (Nat.le_refl _) _).setCell (Nat.le_refl _) _)⟩

theorem fields_e : M.fields [] = [[]] := by decide
theorem OpOf_e : M.OpOf [] 0 := .inl ⟨by decide, by decide, rfl⟩

theorem readInstr (s : List UInt8) (W : World) (E : Env W) (hs : s.length ≤ 100000) :
    Calls Tryz.prog 27 #[.string ⟨s.toArray⟩] W (ReadAny W s) := by
  rcases Nat.eq_zero_or_pos s.length with h0 | h0
  · have e := List.eq_nil_of_length_eq_zero h0
    subst e
    exact readInstr_e [] [] [] 0 W E hs fields_e OpOf_e rfl rfl
  · obtain ⟨f, r, hP⟩ := fields_ne s
    obtain ⟨op, ho, _, _⟩ := M.OpOf_ex f
    rcases forms _ (M.form_rng op) with hf | hf | hf | hf | hf | hf | hf | hf
    · exact readInstr0 s f r op W E hs hP ho hf h0
    · exact readInstr1 s f r op W E hs hP ho hf h0
    · exact readInstr2 s f r op W E hs hP ho hf h0
    · exact readInstr3 s f r op W E hs hP ho hf h0
    · exact readInstr4 s f r op W E hs hP ho hf h0
    · exact readInstr5 s f r op W E hs hP ho hf h0
    · exact readInstr6 s f r op W E hs hP ho hf h0
    · exact readInstr7 s f r op W E hs hP ho hf h0

end Go.Proofs.YtokhipjpppfkgaaGreatDoor
