/-
  What each function of package fetch returns when called: contracts over the translated program. Conditions: those that stand in each theorem.
-/
import Derived.Test.YtchekfipdhoejaaMach
import Derived.Test.YtchekfipdhoejaaFetchMath
import Derived.Test.YtchekfipdhoejaaRelCalls
import Derived.Test.YtchekfipdhoejaaTrapCalls
import Derived.Test.YtchekfipdhoejaaMemAwake
namespace Go.Proofs.Ytchekfipdhoejaa
open Go.ChangeShapes Go.WideShapes Go.ChangeAt Go.RowKit Go.Sort
set_option linter.unusedVariables false

theorem trap_fields : Try.prog.underlying 35 = some (.struct (Try.prog.fieldsOf 35)) := by
  unfold Program.fieldsOf
  rw [Try.underlying35]
set_option maxRecDepth 100000 in
/-- two traps are compared -/
theorem eqTrap (k v k' v' : Int) (w : World) : (Op.equalIn 10000 35 (.agg #[.int .i64 k, .int .u32 v]) (.agg #[.int .i64 k', .int .u32 v'])).run Try.prog w = .ok (k == k' && v == v') w := by
  rw [run_equalIn_struct w 9999 35 _ _ trap_fields (by kernel_rfl)]
  have q1 := fun (w : World) => run_equalIn_int (P := Try.prog) w 9998 3 .i64 .i64 k k' Try.underlying3
  have q2 := fun (w : World) => run_equalIn_int (P := Try.prog) w 9998 22 .u32 .u32 v v' Try.underlying22
  have hf : (Try.prog.fieldsOf 35).toList.map (fun f => (f.name == "_", f.type, f.offset)) = [(false, 3, 0), (false, 22, 1)] := by kernel_rfl
  have p1 : ∀ (k v : Int) (w : World), (part 3 #[.int .i64 k, .int .u32 v] 0).run Try.prog w = .ok (.int .i64 k) w := fun k v w => by simp [part, isAgg, run_underlying Try.underlying3]
  have p2 : ∀ (k v : Int) (w : World), (part 22 #[.int .i64 k, .int .u32 v] 1).run Try.prog w = .ok (.int .u32 v) w := fun k v w => by simp [part, isAgg, run_underlying Try.underlying22]
  generalize (Try.prog.fieldsOf 35).toList = fs at hf ⊢
  have hn : fs.length = 2 := by simpa using congrArg List.length hf
  match fs, hn, hf with
  | [f1, f2], _, hf =>
    simp only [List.map_cons, List.map_nil, List.cons.injEq, Prod.mk.injEq, and_true] at hf
    obtain ⟨⟨n1, t1, o1⟩, ⟨n2, t2, o2⟩⟩ := hf
    have n1 : f1.name ≠ "_" := by simpa using n1
    have n2 : f2.name ≠ "_" := by simpa using n2
    simp only [Op.eqFields, t1, t2, o1, o2, if_pos n1, if_pos n2, Sem.run_bind, p1, Result.andThen_ok, q1, Sem.run_ite]
    cases h1 : (k == k')
    · simp
    · simp only [Bool.not_true, Bool.false_eq_true, if_false, p2, Result.andThen_ok, q2, Bool.true_and]
      cases h2 : (v == v')
      · simp
      · simp

set_option maxRecDepth 100000 in
theorem misaligned_ (a n : Int) (b : Bool) (W : World) (a0 : 0 ≤ a) (a1 : a < 4294967296) (hb : decide (n = 4 ∧ a % 4 ≠ 0) = b) :
    Calls Try.prog 24 #[.int .u32 a, .int .i64 n] W fun e W' => e = .returned (.bool b) ∧ W = W' := by
  subst hb
  by_cases h : n = 4
  · subst h
    by_cases h2 : a % 4 = 0
    · rw [show decide ((4 : Int) = 4 ∧ a % 4 ≠ 0) = false from decide_eq_false (by omega)]
      go_enter Try.func24, Try.ntmps24
      go_wp2
      go_ret
      exact ⟨rfl, rfl⟩
    · rw [show decide ((4 : Int) = 4 ∧ a % 4 ≠ 0) = true from decide_eq_true (by omega)]
      have h3 : (a % 4 != 0) = true := by simpa using h2
      clear h2
      go_enter Try.func24, Try.ntmps24
      go_wp2
      go_ret
      exact ⟨rfl, rfl⟩
  · rw [show decide (n = 4 ∧ a % 4 ≠ 0) = false from decide_eq_false (by omega)]
    go_enter Try.func24, Try.ntmps24
    go_wp2
    go_ret
    exact ⟨rfl, rfl⟩
set_option maxRecDepth 100000 in
theorem trapped_ (k v : Int) (b : Bool) (W : World) (hb : (!(k == 0 && v == 0)) = b) :
    Calls Try.prog 27 #[.agg #[.int .i64 k, .int .u32 v]] W fun e W' => e = .returned (.bool b) ∧ Dn W W' := by
  subst hb
  have q := fun w => eqTrap k v 0 0 w
  generalize (k == 0 && v == 0) = b at *
  go_enter Try.func27, Try.ntmps27
  go_wp2
  go_ret
  exact ⟨rfl, (Dn.refl W).alloc _⟩
theorem csr_drop {c : List Int} (h : M.Core c) (i : Nat) : (c.drop 17).getD i 0 = M.csr c i := by
  unfold M.csr
  rw [List.getD_eq_getElem?_getD, List.getD_eq_getElem?_getD, List.getElem?_drop]
set_option maxRecDepth 100000 in
theorem timerCompare (c : List Int) (W : World) (hc : M.Core c) :
    Calls Try.prog 33 #[.agg (ints .u32 (c.drop 17))] W fun e W' => e = .returned (.int .u64 (M.tcmp c)) ∧ Dn W W' := by
  have hl : (c.drop 17).length = 12 := by rw [List.length_drop, hc.len]
  have k9 : (W.alloc (.cells (ints .u32 (c.drop 17)) 24)).cell? ⟨W.heap.size, 9, none⟩ = some (.int .u32 (M.csr c 9)) := by rw [← csr_drop hc]; exact (Row.new W 24 .u32 _).cell 9 (by omega)
  have k10 : (W.alloc (.cells (ints .u32 (c.drop 17)) 24)).cell? ⟨W.heap.size, 10, none⟩ = some (.int .u32 (M.csr c 10)) := by rw [← csr_drop hc]; exact (Row.new W 24 .u32 _).cell 10 (by omega)
  have r9 := hc.csr 9
  have r10 := hc.csr 10
  have HE := Lib.hid (M.tcmp_eq c hc)
  have D := Lib.hid ((Dn.refl W).alloc (.cells (ints .u32 (c.drop 17)) 24))
  generalize ints .u32 (c.drop 17) = cs at *
  clear hl
  go_enter Try.func33, Try.ntmps33
  go_wp2
  go_ret
  exact ⟨ret_int HE.out, D.out⟩

section
variable {ops : Array Oper} {rest : List Oper} {dst : Option Tmp} {x y : Operand} {ty : TypeId} {pos : String} {aft : Array Edge} {gd : Option (Nat × Bool)} {a : Act} {w : World} {Q : Exit → Act → World → Prop} {b : Nat} {c : List Int} {k v k' v' : Int}
/-- a trap is stored -/
theorem storeTrap (g : Blk w b 35 #[.int .i64 k', .int .u32 v']) (hw : Region.wanted ⟨none, .store 35 x y, ty, pos, aft, gd⟩ (yielded ops a.tmps) = true) (hx : a.eval x = .pointer (some ⟨b, 0, none⟩)) (hy : a.eval y = .agg #[.int .i64 k, .int .u32 v])
    (h : ∀ w', Blk w' b 35 #[.int .i64 k, .int .u32 v] → Trn b w w' → wpList Try.prog ops Q rest a w') : wpList Try.prog ops Q (⟨none, .store 35 x y, ty, pos, aft, gd⟩ :: rest) a w :=
  wpList_store_whole #[.int .i64 k, .int .u32 v] g infoTrap rfl (by simp [Value.oneCell']) hw hx hy h
/-- a new variable of a trap -/
theorem allocTrap (hb : w.heap.size = b) (hw : Region.wanted ⟨dst, .alloc 35, ty, pos, aft, gd⟩ (yielded ops a.tmps) = true)
    (h : wpList Try.prog ops Q rest (a.put dst (.pointer (some ⟨b, 0, none⟩))) (w.alloc (.cells #[.int .i64 0, .int .u32 0] 35))) :
    wpList Try.prog ops Q (⟨dst, .alloc 35, ty, pos, aft, gd⟩ :: rest) a w := by
  subst hb
  have hz : (Try.prog.info? 35).map (fun i => (i.zero, i.size)) = some (some (.agg #[.int .i64 0, .int .u32 0]), 2) := by kernel_rfl
  have hz1 := (zero_of_info hz).1
  unfold wpList
  rw [if_pos hw]
  refine .inl ?_
  unfold Oper.wp execOp
  simp only [Instr.alloc, Sem.run_bind, hz1, Result.andThen_ok]
  simp only [newVar, newRow, Value.cells, go_sem]
  exact h
end
/-- a word and a trap are handed back -/
theorem retWT {fn : Func} {i p : Tmp} {act : Act} {w : World} {b : Nat} {x : Value} {k v : Int} {Post : Ending → World → Prop} (h : fn.results = #[.tmp i, .cell p 35]) (hi : act.tmps.getD i undef = x) (hp : act.tmps.getD p undef = .pointer (some ⟨b, 0, none⟩)) (g : Blk w b 35 #[.int .i64 k, .int .u32 v])
    (K : Post (.returned (.tuple #[x, .agg #[.int .i64 k, .int .u32 v]])) w) (hd : act.defers = []) : bodyPost Try.prog fn Post .ret act w := by
  have hp' : act.tmps[p]?.getD undef = .pointer (some ⟨b, 0, none⟩) := by simpa using hp
  have hi' : act.tmps[i]?.getD undef = x := by simpa using hi
  have hl := run_loadVar_row (P := Try.prog) w b 35 35 _ (0, 0) _ g Try.underlying35 rfl infoTrap
  refine bodyPost_ret ?_ hd K
  simp [results, h, hp', hi', asAddr, hl]
/-- a machine and a trap are handed back -/
theorem retMT {fn : Func} {o p : Tmp} {act : Act} {w : World} {b b' : Nat} {m : Mc} {k v : Int} {Post : Ending → World → Prop} (h : fn.results = #[.cell o 30, .cell p 35]) (ho : act.tmps.getD o undef = .pointer (some ⟨b', 0, none⟩)) (hp : act.tmps.getD p undef = .pointer (some ⟨b, 0, none⟩))
    (r : Blk w b' 30 (mach m)) (hl : m.c.length = 29) (g : Blk w b 35 #[.int .i64 k, .int .u32 v])
    (K : Post (.returned (.tuple #[.agg (mach m), .agg #[.int .i64 k, .int .u32 v]])) w) (hd : act.defers = []) : bodyPost Try.prog fn Post .ret act w := by
  have hp' : act.tmps[p]?.getD undef = .pointer (some ⟨b, 0, none⟩) := by simpa using hp
  have ho' : act.tmps[o]?.getD undef = .pointer (some ⟨b', 0, none⟩) := by simpa using ho
  have hl1 := run_loadVar_row (P := Try.prog) w b 35 35 _ (0, 0) _ g Try.underlying35 rfl infoTrap
  have hl2 := run_loadVar_row (P := Try.prog) w b' 30 30 _ (0, 0) _ r Try.underlying30 rfl (info_mach hl)
  refine bodyPost_ret ?_ hd K
  simp [results, h, hp', ho', asAddr, hl1, hl2]

set_option maxRecDepth 100000 in
set_option maxHeartbeats 1000000 in
theorem resolve_mis (m : Mc) (a n : Int) (W : World) (hm : m.Ok W) (a0 : 0 ≤ a) (a1 : a < 4294967296) (h : n = 4 ∧ a % 4 ≠ 0) :
    Calls Try.prog 12 #[.agg (mach m), .int .u32 a, .int .i64 n] W fun e W' => e = .returned (.tuple #[.int .u32 0, .agg #[.int .i64 4, .int .u32 a]]) ∧ Dn W W' := by
  have C1 := Lib.hid fun w => misaligned_ a n true w a0 a1 (decide_eq_true h)
  have G := Lib.hid (Blk.new (W.alloc (.cells (mach m) 30)) 35 #[.int .i64 4, .int .u32 a])
  rw [size_alloc] at G
  clear h
  go_enter Try.func12, Try.ntmps12
  go_wp2_with (first
    | (go_at_call 24; (with_reducible refine (C1.out _).mono ?_); rintro e w1 ⟨rfl, rfl⟩))
  exact retWT rfl rfl rfl G.out ⟨rfl, ((Dn.refl W).alloc _).alloc _⟩ rfl
set_option maxRecDepth 100000 in
set_option maxHeartbeats 1000000 in
theorem resolve_no (m : Mc) (a n : Int) (W : World) (hm : m.Ok W) (hs : m.xs.length ≤ 100000) (a0 : 0 ≤ a) (a1 : a < 4294967296) (n0 : 1 ≤ n) (n1 : n ≤ 4) (h : ¬ (n = 4 ∧ a % 4 ≠ 0)) (h2 : M.hit (M.ub m.c) (M.un m.c m.xs.length) m.xs.length a n = false) :
    Calls Try.prog 12 #[.agg (mach m), .int .u32 a, .int .i64 n] W fun e W' => e = .returned (.tuple #[.int .u32 0, .agg #[.int .i64 3, .int .u32 a]]) ∧ Dn W W' := by
  have C1 := Lib.hid fun w => misaligned_ a n false w a0 a1 (decide_eq_false h)
  have C2 := Lib.hid fun w => translateCore m.c m.xs.length a n w hm.core (by omega) (by omega) a0 a1 n0 n1
  rw [h2, M.phys_miss h2] at C2
  obtain ⟨w, b1, hw, hb1, g, D1, ne⟩ := new_blk (W.alloc (.cells (mach m) 30)) 35 #[.int .i64 0, .int .u32 0]
  rw [size_alloc] at hb1
  obtain ⟨b0, hb0⟩ : ∃ b0, b0 = W.heap.size := ⟨_, rfl⟩
  have r : Blk w b0 30 (mach m) := by rw [hb0]; exact (Blk.new W _ _).dn D1
  have HD := Lib.hid (((Dn.refl W).alloc (.cells (mach m) 30)).trans D1)
  have HL : Hid (W.heap.size ≤ b1) := Lib.hid (by omega)
  have hl := hm.len
  have k0 := r.mem hl
  clear h h2 D1 ne
  go_enter Try.func12, Try.ntmps12
  go_wp2_with ((with_reducible refine allocTrap (b := W.heap.size + 1) (size_alloc _ _) ?_ ?_); rfl; refine Hid.out ?_)
  refine Lib.hid ?_
  rw [← hw, ← hb1, ← hb0]
  clear hw hb0 hb1
  go_wp2_with (first
    | (go_at_call 24; (with_reducible refine (C1.out _).mono ?_); rintro e w1 ⟨rfl, rfl⟩)
    | ((with_reducible refine loadCore r hl ?_ ?_ ?_); rfl; rfl)
    | (go_at_call 25; (with_reducible refine (C2.out _).mono ?_); rintro e w1 ⟨rfl, d1⟩; replace g := g.dn d1; replace HD := Lib.hid (HD.out.trans d1); clear d1 k0 r)
    | ((with_reducible refine storeTrap (k := 3) (v := a) g ?_ ?_ ?_ ?_); rfl; rfl; rfl; intro w2 g2 t2))
  exact retWT rfl rfl rfl g2 ⟨rfl, HD.out.trn HL.out t2⟩ rfl
set_option maxRecDepth 100000 in
set_option maxHeartbeats 1000000 in
theorem resolve_yes (m : Mc) (a n : Int) (W : World) (hm : m.Ok W) (hs : m.xs.length ≤ 100000) (a0 : 0 ≤ a) (a1 : a < 4294967296) (n0 : 1 ≤ n) (n1 : n ≤ 4) (h : ¬ (n = 4 ∧ a % 4 ≠ 0)) (h2 : M.hit (M.ub m.c) (M.un m.c m.xs.length) m.xs.length a n = true) :
    Calls Try.prog 12 #[.agg (mach m), .int .u32 a, .int .i64 n] W fun e W' => e = .returned (.tuple #[.int .u32 (M.ub m.c + a), .agg #[.int .i64 0, .int .u32 0]]) ∧ Dn W W' := by
  have C1 := Lib.hid fun w => misaligned_ a n false w a0 a1 (decide_eq_false h)
  have C2 := Lib.hid fun w => translateCore m.c m.xs.length a n w hm.core (by omega) (by omega) a0 a1 n0 n1
  rw [h2, M.phys_hit h2] at C2
  generalize M.ub m.c + a = p at *
  obtain ⟨w, b1, hw, hb1, g, D1, ne⟩ := new_blk (W.alloc (.cells (mach m) 30)) 35 #[.int .i64 0, .int .u32 0]
  rw [size_alloc] at hb1
  obtain ⟨b0, hb0⟩ : ∃ b0, b0 = W.heap.size := ⟨_, rfl⟩
  have r : Blk w b0 30 (mach m) := by rw [hb0]; exact (Blk.new W _ _).dn D1
  have HD := Lib.hid (((Dn.refl W).alloc (.cells (mach m) 30)).trans D1)
  have HL : Hid (W.heap.size ≤ b1) := Lib.hid (by omega)
  have hl := hm.len
  have k0 := r.mem hl
  clear h h2 D1 ne
  go_enter Try.func12, Try.ntmps12
  go_wp2_with ((with_reducible refine allocTrap (b := W.heap.size + 1) (size_alloc _ _) ?_ ?_); rfl; refine Hid.out ?_)
  refine Lib.hid ?_
  rw [← hw, ← hb1, ← hb0]
  clear hw hb0 hb1
  go_wp2_with (first
    | (go_at_call 24; (with_reducible refine (C1.out _).mono ?_); rintro e w1 ⟨rfl, rfl⟩)
    | ((with_reducible refine loadCore r hl ?_ ?_ ?_); rfl; rfl)
    | (go_at_call 25; (with_reducible refine (C2.out _).mono ?_); rintro e w1 ⟨rfl, d1⟩; replace g := g.dn d1; replace HD := Lib.hid (HD.out.trans d1); clear d1 k0 r)
    | ((with_reducible refine storeTrap (k := 0) (v := 0) g ?_ ?_ ?_ ?_); rfl; rfl; rfl; intro w2 g2 t2))
  exact retWT rfl rfl rfl g2 ⟨rfl, HD.out.trn HL.out t2⟩ rfl
theorem resolve (m : Mc) (a n p k v : Int) (W : World) (hm : m.Ok W) (hs : m.xs.length ≤ 100000) (a0 : 0 ≤ a) (a1 : a < 4294967296) (n0 : 1 ≤ n) (n1 : n ≤ 4) (ep : M.apa m.c m.xs.length a n = p) (ek : M.acz m.c m.xs.length a n = k) (ev : M.atv m.c m.xs.length a n = v) :
    Calls Try.prog 12 #[.agg (mach m), .int .u32 a, .int .i64 n] W fun e W' => e = .returned (.tuple #[.int .u32 p, .agg #[.int .i64 k, .int .u32 v]]) ∧ Dn W W' := by
  subst ep ek ev
  by_cases h : n = 4 ∧ a % 4 ≠ 0
  · have e := M.acz_mis (c := m.c) (s := m.xs.length) h.1 h.2
    rw [e, M.apa_no (by rw [e]; decide), M.atv_no (by rw [e]; decide)]
    exact resolve_mis m a n W hm a0 a1 h
  · cases h2 : M.hit (M.ub m.c) (M.un m.c m.xs.length) m.xs.length a n
    · have e := M.acz_no h h2
      rw [e, M.apa_no (by rw [e]; decide), M.atv_no (by rw [e]; decide)]
      exact resolve_no m a n W hm hs a0 a1 n0 n1 h h2
    · have e := M.acz_yes h h2
      rw [e, M.apa_yes e, M.atv_yes e]
      exact resolve_yes m a n W hm hs a0 a1 n0 n1 h h2
end Go.Proofs.Ytchekfipdhoejaa
