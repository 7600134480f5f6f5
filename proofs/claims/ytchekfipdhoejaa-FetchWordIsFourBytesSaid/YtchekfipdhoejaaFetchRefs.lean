/-
  What each function of package gaolerref10 returns when called: contracts over the translated program. Conditions: those that stand in each theorem.
-/
import Derived.Test.YtchekfipdhoejaaFetchDo
import Derived.Test.YtchekfipdhoejaaRelRefs
import Derived.Test.YtchekfipdhoejaaMemOpen
namespace Go.Proofs.Ytchekfipdhoejaa
open Go.ChangeShapes Go.WideShapes Go.ChangeAt Go.RowKit Go.Sort
set_option linter.unusedVariables false

set_option maxRecDepth 100000 in
theorem refEnabled (c : List Int) (W : World) (hc : M.Core c) :
    Calls Try.prog 34 #[.agg (ints .u32 c)] W fun e W' => e = .returned (.bool (M.ien c)) ∧ Dn W W' := by
  have k : (W.alloc (.cells (ints .u32 c) 26)).cell? ⟨W.heap.size, 17, none⟩ = some (.int .u32 (M.csr c 0)) := (Row.new W 26 .u32 c).cell 17 (by rw [hc.len]; decide)
  have r := hc.csr 0
  go_enter Try.func34, Try.ntmps34
  go_wp2
  go_ret
  refine ⟨ret_bool ?_, (Dn.refl W).alloc _⟩
  unfold M.ien M.bt
  generalize M.csr c 0 = x
  by_cases h : x / 2 % 2 = 1 <;> simp [h]
set_option maxRecDepth 100000 in
theorem refCompare (c : List Int) (W : World) (hc : M.Core c) :
    Calls Try.prog 35 #[.agg (ints .u32 (c.drop 17))] W fun e W' => e = .returned (.int .u64 (M.tcmp c)) ∧ Dn W W' := by
  have hl : (c.drop 17).length = 12 := by rw [List.length_drop, hc.len]
  have k9 : (W.alloc (.cells (ints .u32 (c.drop 17)) 24)).cell? ⟨W.heap.size, 9, none⟩ = some (.int .u32 (M.csr c 9)) := by rw [← csr_drop hc]; exact (Row.new W 24 .u32 _).cell 9 (by omega)
  have k10 : (W.alloc (.cells (ints .u32 (c.drop 17)) 24)).cell? ⟨W.heap.size, 10, none⟩ = some (.int .u32 (M.csr c 10)) := by rw [← csr_drop hc]; exact (Row.new W 24 .u32 _).cell 10 (by omega)
  have r9 := hc.csr 9
  have r10 := hc.csr 10
  have D := Lib.hid ((Dn.refl W).alloc (.cells (ints .u32 (c.drop 17)) 24))
  generalize ints .u32 (c.drop 17) = cs at *
  clear hl
  go_enter Try.func35, Try.ntmps35
  go_wp2
  go_ret
  exact ⟨rfl, D.out⟩
set_option maxRecDepth 100000 in
set_option maxHeartbeats 2000000 in
theorem cell_mis (m : Mc) (a n : Int) (W : World) (hm : m.Ok W) (hs : m.xs.length ≤ 100000) (a0 : 0 ≤ a) (a1 : a < 4294967296) (n0 : 1 ≤ n) (n1 : n ≤ 4) (h : n = 4 ∧ a % 4 ≠ 0) :
    Calls Try.prog 13 #[.agg (mach m), .int .u32 a, .int .i64 n] W fun e W' => e = .returned (.tuple #[.int .u32 0, .agg #[.int .i64 4, .int .u32 a]]) ∧ Dn W W' := by
  obtain ⟨rfl, h2⟩ := h
  have h3 : (a % 4 != 0) = true := by simpa using h2
  clear h2
  have hl := hm.len
  have HD := Lib.hid (Dn.refl W)
  obtain ⟨x0, b_r, hw0, hb0, r, d', nn⟩ := new_blk W 30 (mach m)
  have HL_r : Hid (W.heap.size ≤ b_r) := Lib.hid (by have := HD.out.size; omega)
  clear nn
  replace HD := Lib.hid (HD.out.trans d')
  clear d'
  obtain ⟨x1, b_g, hw1, hb1, g, d', nn⟩ := new_blk x0 35 #[.int .i64 0, .int .u32 0]
  have n_r_g := Lib.hid (nn _ r.lt)
  have HL_g : Hid (W.heap.size ≤ b_g) := Lib.hid (by have := HD.out.size; omega)
  clear nn
  replace r := r.dn d'
  replace HD := Lib.hid (HD.out.trans d')
  clear d'
  rw [hw0] at hw1 hb1
  simp only [size_alloc] at hb1
  go_enter Try.func13, Try.ntmps13
  go_wp2_with (first | ((with_reducible refine allocTrap (b := W.heap.size + 1) (size_alloc _ _) ?_ ?_); rfl; refine Hid.out ?_))
  refine Lib.hid ?_
  rw [← hw1, ← hb1, ← hb0]
  clear hw0 hb0 hw1 hb1
  go_wp2_with (first | ((with_reducible refine load33 r hl ?_ ?_ ?_); rfl; rfl) | ((with_reducible refine loadCore r hl ?_ ?_ ?_); rfl; rfl) | ((with_reducible refine loadCsr r hl ?_ ?_ ?_); rfl; rfl) | ((with_reducible refine loadTrap g ?_ ?_ ?_); rfl; rfl) | ((with_reducible refine storeTrap (k := 4) (v := a) g ?_ ?_ ?_ ?_); rfl; rfl; rfl; intro w' r' t'; refine Hid.out ?_))
  refine Lib.hid ?_
  replace r := r.trn t' n_r_g.out
  replace HD := Lib.hid (HD.out.trn HL_g.out t')
  clear t' g
  have g := r'
  clear r'
  go_wp2_with fail
  exact retWT rfl rfl rfl g ⟨rfl, HD.out⟩ rfl
set_option maxRecDepth 100000 in
set_option maxHeartbeats 2000000 in
theorem cell_4false (m : Mc) (a n : Int) (W : World) (hm : m.Ok W) (hs : m.xs.length ≤ 100000) (a0 : 0 ≤ a) (a1 : a < 4294967296) (n0 : 1 ≤ n) (n1 : n ≤ 4) (h4 : n = 4) (h : a % 4 = 0) (h2 : M.hit (M.ub m.c) (M.un m.c m.xs.length) m.xs.length a n = false) :
    Calls Try.prog 13 #[.agg (mach m), .int .u32 a, .int .i64 n] W fun e W' => e = .returned (.tuple #[.int .u32 0, .agg #[.int .i64 3, .int .u32 a]]) ∧ Dn W W' := by
  have h : (a % 4 != 0) = false := by simpa using h
  subst h4
  have C2 := Lib.hid fun w => at_ m.c m.xs.length a 4 w hm.core (by omega) (by omega) a0 a1 (by omega) (by omega)
  rw [h2, M.phys_miss h2] at C2
  clear h2
  have hl := hm.len
  have HD := Lib.hid (Dn.refl W)
  obtain ⟨x0, b_r, hw0, hb0, r, d', nn⟩ := new_blk W 30 (mach m)
  have HL_r : Hid (W.heap.size ≤ b_r) := Lib.hid (by have := HD.out.size; omega)
  clear nn
  replace HD := Lib.hid (HD.out.trans d')
  clear d'
  obtain ⟨x1, b_g, hw1, hb1, g, d', nn⟩ := new_blk x0 35 #[.int .i64 0, .int .u32 0]
  have n_r_g := Lib.hid (nn _ r.lt)
  have HL_g : Hid (W.heap.size ≤ b_g) := Lib.hid (by have := HD.out.size; omega)
  clear nn
  replace r := r.dn d'
  replace HD := Lib.hid (HD.out.trans d')
  clear d'
  rw [hw0] at hw1 hb1
  simp only [size_alloc] at hb1
  go_enter Try.func13, Try.ntmps13
  go_wp2_with (first | ((with_reducible refine allocTrap (b := W.heap.size + 1) (size_alloc _ _) ?_ ?_); rfl; refine Hid.out ?_))
  refine Lib.hid ?_
  rw [← hw1, ← hb1, ← hb0]
  clear hw0 hb0 hw1 hb1
  have c0 := r.mem hl
  go_wp2_with (first | ((with_reducible refine load33 r hl ?_ ?_ ?_); rfl; rfl) | ((with_reducible refine loadCore r hl ?_ ?_ ?_); rfl; rfl) | ((with_reducible refine loadCsr r hl ?_ ?_ ?_); rfl; rfl) | ((with_reducible refine loadTrap g ?_ ?_ ?_); rfl; rfl) | (go_at_call 26; (first | (with_reducible refine (C2.out _).mono ?_)); rintro e w' ⟨rfl, d'⟩; replace r := r.dn d'; replace g := g.dn d'; replace HD := Lib.hid (HD.out.trans d'); replace c0 := r.mem hl; clear d') | ((with_reducible refine storeTrap (k := 3) (v := a) g ?_ ?_ ?_ ?_); rfl; rfl; rfl; intro w' r' t'; refine Hid.out ?_))
  refine Lib.hid ?_
  replace r := r.trn t' n_r_g.out
  replace HD := Lib.hid (HD.out.trn HL_g.out t')
  clear t' g
  have g := r'
  clear r'
  replace c0 := r.mem hl
  go_wp2_with fail
  exact retWT rfl rfl rfl g ⟨rfl, HD.out⟩ rfl
set_option maxRecDepth 100000 in
set_option maxHeartbeats 2000000 in
theorem cell_4true (m : Mc) (a n : Int) (W : World) (hm : m.Ok W) (hs : m.xs.length ≤ 100000) (a0 : 0 ≤ a) (a1 : a < 4294967296) (n0 : 1 ≤ n) (n1 : n ≤ 4) (h4 : n = 4) (h : a % 4 = 0) (h2 : M.hit (M.ub m.c) (M.un m.c m.xs.length) m.xs.length a n = true) :
    Calls Try.prog 13 #[.agg (mach m), .int .u32 a, .int .i64 n] W fun e W' => e = .returned (.tuple #[.int .u32 (M.ub m.c + a), .agg #[.int .i64 0, .int .u32 0]]) ∧ Dn W W' := by
  have h : (a % 4 != 0) = false := by simpa using h
  subst h4
  have C2 := Lib.hid fun w => at_ m.c m.xs.length a 4 w hm.core (by omega) (by omega) a0 a1 (by omega) (by omega)
  rw [h2, M.phys_hit h2] at C2
  generalize M.ub m.c + a = p at *
  clear h2
  have hl := hm.len
  have HD := Lib.hid (Dn.refl W)
  obtain ⟨x0, b_r, hw0, hb0, r, d', nn⟩ := new_blk W 30 (mach m)
  have HL_r : Hid (W.heap.size ≤ b_r) := Lib.hid (by have := HD.out.size; omega)
  clear nn
  replace HD := Lib.hid (HD.out.trans d')
  clear d'
  obtain ⟨x1, b_g, hw1, hb1, g, d', nn⟩ := new_blk x0 35 #[.int .i64 0, .int .u32 0]
  have n_r_g := Lib.hid (nn _ r.lt)
  have HL_g : Hid (W.heap.size ≤ b_g) := Lib.hid (by have := HD.out.size; omega)
  clear nn
  replace r := r.dn d'
  replace HD := Lib.hid (HD.out.trans d')
  clear d'
  rw [hw0] at hw1 hb1
  simp only [size_alloc] at hb1
  go_enter Try.func13, Try.ntmps13
  go_wp2_with (first | ((with_reducible refine allocTrap (b := W.heap.size + 1) (size_alloc _ _) ?_ ?_); rfl; refine Hid.out ?_))
  refine Lib.hid ?_
  rw [← hw1, ← hb1, ← hb0]
  clear hw0 hb0 hw1 hb1
  have c0 := r.mem hl
  go_wp2_with (first | ((with_reducible refine load33 r hl ?_ ?_ ?_); rfl; rfl) | ((with_reducible refine loadCore r hl ?_ ?_ ?_); rfl; rfl) | ((with_reducible refine loadCsr r hl ?_ ?_ ?_); rfl; rfl) | ((with_reducible refine loadTrap g ?_ ?_ ?_); rfl; rfl) | (go_at_call 26; (first | (with_reducible refine (C2.out _).mono ?_)); rintro e w' ⟨rfl, d'⟩; replace r := r.dn d'; replace g := g.dn d'; replace HD := Lib.hid (HD.out.trans d'); replace c0 := r.mem hl; clear d') | ((with_reducible refine storeTrap (k := 0) (v := 0) g ?_ ?_ ?_ ?_); rfl; rfl; rfl; intro w' r' t'; refine Hid.out ?_))
  refine Lib.hid ?_
  replace r := r.trn t' n_r_g.out
  replace HD := Lib.hid (HD.out.trn HL_g.out t')
  clear t' g
  have g := r'
  clear r'
  replace c0 := r.mem hl
  go_wp2_with fail
  exact retWT rfl rfl rfl g ⟨rfl, HD.out⟩ rfl
set_option maxRecDepth 100000 in
set_option maxHeartbeats 2000000 in
theorem cell_1false (m : Mc) (a n : Int) (W : World) (hm : m.Ok W) (hs : m.xs.length ≤ 100000) (a0 : 0 ≤ a) (a1 : a < 4294967296) (n0 : 1 ≤ n) (n1 : n ≤ 4) (h : n ≠ 4) (h2 : M.hit (M.ub m.c) (M.un m.c m.xs.length) m.xs.length a n = false) :
    Calls Try.prog 13 #[.agg (mach m), .int .u32 a, .int .i64 n] W fun e W' => e = .returned (.tuple #[.int .u32 0, .agg #[.int .i64 3, .int .u32 a]]) ∧ Dn W W' := by
  have h4 : (n == 4) = false := by simpa using h
  clear h
  have C2 := Lib.hid fun w => at_ m.c m.xs.length a n w hm.core (by omega) (by omega) a0 a1 (by omega) (by omega)
  rw [h2, M.phys_miss h2] at C2
  clear h2
  have hl := hm.len
  have HD := Lib.hid (Dn.refl W)
  obtain ⟨x0, b_r, hw0, hb0, r, d', nn⟩ := new_blk W 30 (mach m)
  have HL_r : Hid (W.heap.size ≤ b_r) := Lib.hid (by have := HD.out.size; omega)
  clear nn
  replace HD := Lib.hid (HD.out.trans d')
  clear d'
  obtain ⟨x1, b_g, hw1, hb1, g, d', nn⟩ := new_blk x0 35 #[.int .i64 0, .int .u32 0]
  have n_r_g := Lib.hid (nn _ r.lt)
  have HL_g : Hid (W.heap.size ≤ b_g) := Lib.hid (by have := HD.out.size; omega)
  clear nn
  replace r := r.dn d'
  replace HD := Lib.hid (HD.out.trans d')
  clear d'
  rw [hw0] at hw1 hb1
  simp only [size_alloc] at hb1
  go_enter Try.func13, Try.ntmps13
  go_wp2_with (first | ((with_reducible refine allocTrap (b := W.heap.size + 1) (size_alloc _ _) ?_ ?_); rfl; refine Hid.out ?_))
  refine Lib.hid ?_
  rw [← hw1, ← hb1, ← hb0]
  clear hw0 hb0 hw1 hb1
  have c0 := r.mem hl
  go_wp2_with (first | ((with_reducible refine load33 r hl ?_ ?_ ?_); rfl; rfl) | ((with_reducible refine loadCore r hl ?_ ?_ ?_); rfl; rfl) | ((with_reducible refine loadCsr r hl ?_ ?_ ?_); rfl; rfl) | ((with_reducible refine loadTrap g ?_ ?_ ?_); rfl; rfl) | (go_at_call 26; (first | (with_reducible refine (C2.out _).mono ?_)); rintro e w' ⟨rfl, d'⟩; replace r := r.dn d'; replace g := g.dn d'; replace HD := Lib.hid (HD.out.trans d'); replace c0 := r.mem hl; clear d') | ((with_reducible refine storeTrap (k := 3) (v := a) g ?_ ?_ ?_ ?_); rfl; rfl; rfl; intro w' r' t'; refine Hid.out ?_))
  refine Lib.hid ?_
  replace r := r.trn t' n_r_g.out
  replace HD := Lib.hid (HD.out.trn HL_g.out t')
  clear t' g
  have g := r'
  clear r'
  replace c0 := r.mem hl
  go_wp2_with fail
  exact retWT rfl rfl rfl g ⟨rfl, HD.out⟩ rfl
set_option maxRecDepth 100000 in
set_option maxHeartbeats 2000000 in
theorem cell_1true (m : Mc) (a n : Int) (W : World) (hm : m.Ok W) (hs : m.xs.length ≤ 100000) (a0 : 0 ≤ a) (a1 : a < 4294967296) (n0 : 1 ≤ n) (n1 : n ≤ 4) (h : n ≠ 4) (h2 : M.hit (M.ub m.c) (M.un m.c m.xs.length) m.xs.length a n = true) :
    Calls Try.prog 13 #[.agg (mach m), .int .u32 a, .int .i64 n] W fun e W' => e = .returned (.tuple #[.int .u32 (M.ub m.c + a), .agg #[.int .i64 0, .int .u32 0]]) ∧ Dn W W' := by
  have h4 : (n == 4) = false := by simpa using h
  clear h
  have C2 := Lib.hid fun w => at_ m.c m.xs.length a n w hm.core (by omega) (by omega) a0 a1 (by omega) (by omega)
  rw [h2, M.phys_hit h2] at C2
  generalize M.ub m.c + a = p at *
  clear h2
  have hl := hm.len
  have HD := Lib.hid (Dn.refl W)
  obtain ⟨x0, b_r, hw0, hb0, r, d', nn⟩ := new_blk W 30 (mach m)
  have HL_r : Hid (W.heap.size ≤ b_r) := Lib.hid (by have := HD.out.size; omega)
  clear nn
  replace HD := Lib.hid (HD.out.trans d')
  clear d'
  obtain ⟨x1, b_g, hw1, hb1, g, d', nn⟩ := new_blk x0 35 #[.int .i64 0, .int .u32 0]
  have n_r_g := Lib.hid (nn _ r.lt)
  have HL_g : Hid (W.heap.size ≤ b_g) := Lib.hid (by have := HD.out.size; omega)
  clear nn
  replace r := r.dn d'
  replace HD := Lib.hid (HD.out.trans d')
  clear d'
  rw [hw0] at hw1 hb1
  simp only [size_alloc] at hb1
  go_enter Try.func13, Try.ntmps13
  go_wp2_with (first | ((with_reducible refine allocTrap (b := W.heap.size + 1) (size_alloc _ _) ?_ ?_); rfl; refine Hid.out ?_))
  refine Lib.hid ?_
  rw [← hw1, ← hb1, ← hb0]
  clear hw0 hb0 hw1 hb1
  have c0 := r.mem hl
  go_wp2_with (first | ((with_reducible refine load33 r hl ?_ ?_ ?_); rfl; rfl) | ((with_reducible refine loadCore r hl ?_ ?_ ?_); rfl; rfl) | ((with_reducible refine loadCsr r hl ?_ ?_ ?_); rfl; rfl) | ((with_reducible refine loadTrap g ?_ ?_ ?_); rfl; rfl) | (go_at_call 26; (first | (with_reducible refine (C2.out _).mono ?_)); rintro e w' ⟨rfl, d'⟩; replace r := r.dn d'; replace g := g.dn d'; replace HD := Lib.hid (HD.out.trans d'); replace c0 := r.mem hl; clear d') | ((with_reducible refine storeTrap (k := 0) (v := 0) g ?_ ?_ ?_ ?_); rfl; rfl; rfl; intro w' r' t'; refine Hid.out ?_))
  refine Lib.hid ?_
  replace r := r.trn t' n_r_g.out
  replace HD := Lib.hid (HD.out.trn HL_g.out t')
  clear t' g
  have g := r'
  clear r'
  replace c0 := r.mem hl
  go_wp2_with fail
  exact retWT rfl rfl rfl g ⟨rfl, HD.out⟩ rfl
theorem rcell (m : Mc) (a n p k v : Int) (W : World) (hm : m.Ok W) (hs : m.xs.length ≤ 100000) (a0 : 0 ≤ a) (a1 : a < 4294967296) (n0 : 1 ≤ n) (n1 : n ≤ 4) (ep : M.apa m.c m.xs.length a n = p) (ek : M.acz m.c m.xs.length a n = k) (ev : M.atv m.c m.xs.length a n = v) :
    Calls Try.prog 13 #[.agg (mach m), .int .u32 a, .int .i64 n] W fun e W' => e = .returned (.tuple #[.int .u32 p, .agg #[.int .i64 k, .int .u32 v]]) ∧ Dn W W' := by
  subst ep ek ev
  by_cases h : n = 4 ∧ a % 4 ≠ 0
  · have e := M.acz_mis (c := m.c) (s := m.xs.length) h.1 h.2
    rw [e, M.apa_no (by rw [e]; decide), M.atv_no (by rw [e]; decide)]
    exact cell_mis m a n W hm hs a0 a1 n0 n1 h
  · cases h2 : M.hit (M.ub m.c) (M.un m.c m.xs.length) m.xs.length a n
    · have e := M.acz_no h h2
      rw [e, M.apa_no (by rw [e]; decide), M.atv_no (by rw [e]; decide)]
      by_cases h4 : n = 4
      · exact cell_4false m a n W hm hs a0 a1 n0 n1 h4 (by omega) h2
      · exact cell_1false m a n W hm hs a0 a1 n0 n1 h4 h2
    · have e := M.acz_yes h h2
      rw [e, M.apa_yes e, M.atv_yes e]
      by_cases h4 : n = 4
      · exact cell_4true m a n W hm hs a0 a1 n0 n1 h4 (by omega) h2
      · exact cell_1true m a n W hm hs a0 a1 n0 n1 h4 h2
set_option maxRecDepth 100000 in
set_option maxHeartbeats 2000000 in
theorem rload_trap (m : Mc) (a n : Int) (W : World) (hm : m.Ok W) (hs : m.xs.length ≤ 100000) (a0 : 0 ≤ a) (a1 : a < 4294967296) (n0 : 1 ≤ n) (n1 : n ≤ 4) (k v : Int) (ek : M.acz m.c m.xs.length a n = k) (ev : M.atv m.c m.xs.length a n = v) (hk : k ≠ 0) :
    Calls Try.prog 15 #[.agg (mach m), .int .u32 a, .int .i64 n] W fun e W' => e = .returned (.tuple #[.int .u32 0, .agg #[.int .i64 k, .int .u32 v]]) ∧ Dn W W' := by
  obtain ⟨p, ep⟩ : ∃ p, M.apa m.c m.xs.length a n = p := ⟨_, rfl⟩
  have C1 := Lib.hid fun w => fun (ow : m.Ok w) => rcell m a n p k v w ow hs a0 a1 n0 n1 ep ek ev
  have hkb : (k == 0) = false := by simpa using hk
  clear ep ek ev hk
  have hl := hm.len
  have om := Lib.hid hm
  have HD := Lib.hid (Dn.refl W)
  obtain ⟨x0, b_r, hw0, hb0, r, d', nn⟩ := new_blk W 30 (mach m)
  have HL_r : Hid (W.heap.size ≤ b_r) := Lib.hid (by have := HD.out.size; omega)
  clear nn
  replace om := Lib.hid (om.out.dn d')
  replace HD := Lib.hid (HD.out.trans d')
  clear d'
  obtain ⟨x1, b_g, hw1, hb1, g, d', nn⟩ := new_blk x0 35 #[.int .i64 0, .int .u32 0]
  have n_r_g := Lib.hid (nn _ r.lt)
  have HL_g : Hid (W.heap.size ≤ b_g) := Lib.hid (by have := HD.out.size; omega)
  clear nn
  replace r := r.dn d'
  replace om := Lib.hid (om.out.dn d')
  replace HD := Lib.hid (HD.out.trans d')
  clear d'
  rw [hw0] at hw1 hb1
  simp only [size_alloc] at hb1
  go_enter Try.func15, Try.ntmps15
  go_wp2_with (first | ((with_reducible refine allocTrap (b := W.heap.size + 1) (size_alloc _ _) ?_ ?_); rfl; refine Hid.out ?_))
  refine Lib.hid ?_
  rw [← hw1, ← hb1, ← hb0]
  clear hw0 hb0 hw1 hb1
  go_wp2_with (first | ((with_reducible refine load33 r hl ?_ ?_ ?_); rfl; rfl) | ((with_reducible refine loadCore r hl ?_ ?_ ?_); rfl; rfl) | ((with_reducible refine loadCsr r hl ?_ ?_ ?_); rfl; rfl) | ((with_reducible refine loadTrap g ?_ ?_ ?_); rfl; rfl) | (go_at_call 13; (first | (with_reducible refine (C1.out _ om.out).mono ?_)); rintro e w' ⟨rfl, d'⟩; replace r := r.dn d'; replace g := g.dn d'; replace om := Lib.hid (om.out.dn d'); replace HD := Lib.hid (HD.out.trans d'); clear d') | ((with_reducible refine allocTrap (b := w'.heap.size) rfl ?_ ?_); rfl; refine Hid.out ?_))
  refine Lib.hid ?_
  obtain ⟨x', b_t, hw, hb, t, d', nn⟩ := new_blk w' 35 #[.int .i64 0, .int .u32 0]
  have n_r_t := Lib.hid (nn _ r.lt)
  have n_g_t := Lib.hid (nn _ g.lt)
  have HL_t : Hid (W.heap.size ≤ b_t) := Lib.hid (by have := HD.out.size; omega)
  rw [← hw, ← hb]
  clear hw hb nn
  replace r := r.dn d'
  replace g := g.dn d'
  replace om := Lib.hid (om.out.dn d')
  replace HD := Lib.hid (HD.out.trans d')
  clear d'
  go_wp2_with (first | ((with_reducible refine load33 r hl ?_ ?_ ?_); rfl; rfl) | ((with_reducible refine loadCore r hl ?_ ?_ ?_); rfl; rfl) | ((with_reducible refine loadCsr r hl ?_ ?_ ?_); rfl; rfl) | ((with_reducible refine loadTrap g ?_ ?_ ?_); rfl; rfl) | ((with_reducible refine loadTrap t ?_ ?_ ?_); rfl; rfl) | ((with_reducible refine storeTrap (k := k) (v := v) t ?_ ?_ ?_ ?_); rfl; rfl; rfl; intro w' r' t'; refine Hid.out ?_))
  refine Lib.hid ?_
  replace om := Lib.hid (om.out.trn t (NoU8.trap _ _) t')
  replace r := r.trn t' n_r_t.out
  replace g := g.trn t' n_g_t.out
  replace HD := Lib.hid (HD.out.trn HL_t.out t')
  clear t' t
  have t := r'
  clear r'
  have c0 := r.mem hl
  have c1 := t.cell (i := 0) rfl
  go_wp2_with (first | ((with_reducible refine load33 r hl ?_ ?_ ?_); rfl; rfl) | ((with_reducible refine loadCore r hl ?_ ?_ ?_); rfl; rfl) | ((with_reducible refine loadCsr r hl ?_ ?_ ?_); rfl; rfl) | ((with_reducible refine loadTrap g ?_ ?_ ?_); rfl; rfl) | ((with_reducible refine loadTrap t ?_ ?_ ?_); rfl; rfl))
  have d' : Dn w' { w' with drawn := w'.drawn + 1 } := (Dn.refl w').drew
  refine wp_region_still_tail 2 (by kernel_rfl) (by kernel_rfl) ?_
  simp only [List.take_succ_cons, List.take_zero, List.drop_succ_cons, List.drop_zero]
  replace r := r.dn d'
  replace g := g.dn d'
  replace t := t.dn d'
  replace om := Lib.hid (om.out.dn d')
  replace HD := Lib.hid (HD.out.trans d')
  replace c0 := r.mem hl
  replace c1 := t.cell (i := 0) rfl
  clear d'
  generalize ({ w' with drawn := w'.drawn + 1 } : World) = w' at r g t om HD c0 c1 ⊢
  repeat (first | ((with_reducible refine still33 r hl ?_ ?_ ?_); rfl; rfl; simp only [Act.put, List.setIfInBounds_toArray, List.set_cons_succ, List.set_cons_zero]) | ((with_reducible refine stillCore r hl ?_ ?_ ?_); rfl; rfl; simp only [Act.put, List.setIfInBounds_toArray, List.set_cons_succ, List.set_cons_zero]) | ((with_reducible refine stillCsr r hl ?_ ?_ ?_); rfl; rfl; simp only [Act.put, List.setIfInBounds_toArray, List.set_cons_succ, List.set_cons_zero]) | ((with_reducible refine stillTrap g ?_ ?_ ?_); rfl; rfl; simp only [Act.put, List.setIfInBounds_toArray, List.set_cons_succ, List.set_cons_zero]) | ((with_reducible refine stillTrap t ?_ ?_ ?_); rfl; rfl; simp only [Act.put, List.setIfInBounds_toArray, List.set_cons_succ, List.set_cons_zero]) | still_step)
  refine wpStill_nil ?_
  go_wp2_with (first | ((with_reducible refine load33 r hl ?_ ?_ ?_); rfl; rfl) | ((with_reducible refine loadCore r hl ?_ ?_ ?_); rfl; rfl) | ((with_reducible refine loadCsr r hl ?_ ?_ ?_); rfl; rfl) | ((with_reducible refine loadTrap g ?_ ?_ ?_); rfl; rfl) | ((with_reducible refine loadTrap t ?_ ?_ ?_); rfl; rfl) | ((with_reducible refine storeTrap (k := k) (v := v) g ?_ ?_ ?_ ?_); rfl; rfl; rfl; intro w' r' t'; refine Hid.out ?_))
  refine Lib.hid ?_
  replace om := Lib.hid (om.out.trn g (NoU8.trap _ _) t')
  replace r := r.trn t' n_r_g.out
  replace t := t.trn t' n_g_t.out.symm
  replace HD := Lib.hid (HD.out.trn HL_g.out t')
  clear t' g
  have g := r'
  clear r'
  replace c0 := r.mem hl
  replace c1 := t.cell (i := 0) rfl
  go_wp2_with fail
  exact retWT rfl rfl rfl g ⟨rfl, HD.out⟩ rfl
set_option maxRecDepth 100000 in
set_option maxHeartbeats 2000000 in
theorem rload_ok (m : Mc) (a n : Int) (W : World) (hm : m.Ok W) (hs : m.xs.length ≤ 100000) (a0 : 0 ≤ a) (a1 : a < 4294967296) (n0 : 1 ≤ n) (n1 : n ≤ 4) (x : Int) (ek : M.acz m.c m.xs.length a n = 0) (hx : M.alv m.c m.xs a n = x) :
    Calls Try.prog 15 #[.agg (mach m), .int .u32 a, .int .i64 n] W fun e W' => e = .returned (.tuple #[.int .u32 x, .agg #[.int .i64 0, .int .u32 0]]) ∧ Dn W W' := by
  have hk := M.acz_hit ek
  have hu := M.ub_rng hm.core
  obtain ⟨pn, hpn⟩ : ∃ pn : Nat, M.ub m.c + a = (pn : Int) := ⟨(M.ub m.c + a).toNat, by omega⟩
  obtain ⟨nn, hnn⟩ : ∃ nn : Nat, n = (nn : Int) := ⟨n.toNat, by omega⟩
  have C1 := Lib.hid fun w => fun (ow : m.Ok w) => rcell m a n (M.ub m.c + a) 0 0 w ow hs a0 a1 n0 n1 (M.apa_yes ek) ek (M.atv_yes ek)
  rw [hpn] at C1
  have el : M.ld m.xs pn nn = x := by rw [← hx]; unfold M.alv; rw [if_pos ek, hpn, hnn]; rfl
  have C3 := Lib.hid fun w => fun (ow : m.Ok w) => rload_at (W := w) pn nn (a' := (pn : Int)) (n' := n) (v := x) (b := true) ow.mem hs (by omega) (by omega) (by omega) rfl rfl hnn el (decide_eq_true (by omega))
  clear hk hu hpn hnn el ek hx
  have hl := hm.len
  have om := Lib.hid hm
  have HD := Lib.hid (Dn.refl W)
  obtain ⟨x0, b_r, hw0, hb0, r, d', nn⟩ := new_blk W 30 (mach m)
  have HL_r : Hid (W.heap.size ≤ b_r) := Lib.hid (by have := HD.out.size; omega)
  clear nn
  replace om := Lib.hid (om.out.dn d')
  replace HD := Lib.hid (HD.out.trans d')
  clear d'
  obtain ⟨x1, b_g, hw1, hb1, g, d', nn⟩ := new_blk x0 35 #[.int .i64 0, .int .u32 0]
  have n_r_g := Lib.hid (nn _ r.lt)
  have HL_g : Hid (W.heap.size ≤ b_g) := Lib.hid (by have := HD.out.size; omega)
  clear nn
  replace r := r.dn d'
  replace om := Lib.hid (om.out.dn d')
  replace HD := Lib.hid (HD.out.trans d')
  clear d'
  rw [hw0] at hw1 hb1
  simp only [size_alloc] at hb1
  go_enter Try.func15, Try.ntmps15
  go_wp2_with (first | ((with_reducible refine allocTrap (b := W.heap.size + 1) (size_alloc _ _) ?_ ?_); rfl; refine Hid.out ?_))
  refine Lib.hid ?_
  rw [← hw1, ← hb1, ← hb0]
  clear hw0 hb0 hw1 hb1
  go_wp2_with (first | ((with_reducible refine load33 r hl ?_ ?_ ?_); rfl; rfl) | ((with_reducible refine loadCore r hl ?_ ?_ ?_); rfl; rfl) | ((with_reducible refine loadCsr r hl ?_ ?_ ?_); rfl; rfl) | ((with_reducible refine loadTrap g ?_ ?_ ?_); rfl; rfl) | (go_at_call 13; (first | (with_reducible refine (C1.out _ om.out).mono ?_)); rintro e w' ⟨rfl, d'⟩; replace r := r.dn d'; replace g := g.dn d'; replace om := Lib.hid (om.out.dn d'); replace HD := Lib.hid (HD.out.trans d'); clear d') | ((with_reducible refine allocTrap (b := w'.heap.size) rfl ?_ ?_); rfl; refine Hid.out ?_))
  refine Lib.hid ?_
  obtain ⟨x', b_t, hw, hb, t, d', nn⟩ := new_blk w' 35 #[.int .i64 0, .int .u32 0]
  have n_r_t := Lib.hid (nn _ r.lt)
  have n_g_t := Lib.hid (nn _ g.lt)
  have HL_t : Hid (W.heap.size ≤ b_t) := Lib.hid (by have := HD.out.size; omega)
  rw [← hw, ← hb]
  clear hw hb nn
  replace r := r.dn d'
  replace g := g.dn d'
  replace om := Lib.hid (om.out.dn d')
  replace HD := Lib.hid (HD.out.trans d')
  clear d'
  go_wp2_with (first | ((with_reducible refine load33 r hl ?_ ?_ ?_); rfl; rfl) | ((with_reducible refine loadCore r hl ?_ ?_ ?_); rfl; rfl) | ((with_reducible refine loadCsr r hl ?_ ?_ ?_); rfl; rfl) | ((with_reducible refine loadTrap g ?_ ?_ ?_); rfl; rfl) | ((with_reducible refine loadTrap t ?_ ?_ ?_); rfl; rfl) | ((with_reducible refine storeTrap (k := 0) (v := 0) t ?_ ?_ ?_ ?_); rfl; rfl; rfl; intro w' r' t'; refine Hid.out ?_))
  refine Lib.hid ?_
  replace om := Lib.hid (om.out.trn t (NoU8.trap _ _) t')
  replace r := r.trn t' n_r_t.out
  replace g := g.trn t' n_g_t.out
  replace HD := Lib.hid (HD.out.trn HL_t.out t')
  clear t' t
  have t := r'
  clear r'
  have c0 := r.mem hl
  have c1 := t.cell (i := 0) rfl
  go_wp2_with (first | ((with_reducible refine load33 r hl ?_ ?_ ?_); rfl; rfl) | ((with_reducible refine loadCore r hl ?_ ?_ ?_); rfl; rfl) | ((with_reducible refine loadCsr r hl ?_ ?_ ?_); rfl; rfl) | ((with_reducible refine loadTrap g ?_ ?_ ?_); rfl; rfl) | ((with_reducible refine loadTrap t ?_ ?_ ?_); rfl; rfl) | (go_at_call 29; (with_reducible refine (C3.out _ om.out).mono ?_); rintro e w' ⟨rfl, rfl⟩))
  have d' : Dn w' { w' with drawn := w'.drawn + 1 } := (Dn.refl w').drew
  refine wp_region_still_tail 3 (by kernel_rfl) (by kernel_rfl) ?_
  simp only [List.take_succ_cons, List.take_zero, List.drop_succ_cons, List.drop_zero]
  replace r := r.dn d'
  replace g := g.dn d'
  replace t := t.dn d'
  replace om := Lib.hid (om.out.dn d')
  replace HD := Lib.hid (HD.out.trans d')
  replace c0 := r.mem hl
  replace c1 := t.cell (i := 0) rfl
  clear d'
  generalize ({ w' with drawn := w'.drawn + 1 } : World) = w' at r g t om HD c0 c1 ⊢
  repeat (first | ((with_reducible refine still33 r hl ?_ ?_ ?_); rfl; rfl; simp only [Act.put, List.setIfInBounds_toArray, List.set_cons_succ, List.set_cons_zero]) | ((with_reducible refine stillCore r hl ?_ ?_ ?_); rfl; rfl; simp only [Act.put, List.setIfInBounds_toArray, List.set_cons_succ, List.set_cons_zero]) | ((with_reducible refine stillCsr r hl ?_ ?_ ?_); rfl; rfl; simp only [Act.put, List.setIfInBounds_toArray, List.set_cons_succ, List.set_cons_zero]) | ((with_reducible refine stillTrap g ?_ ?_ ?_); rfl; rfl; simp only [Act.put, List.setIfInBounds_toArray, List.set_cons_succ, List.set_cons_zero]) | ((with_reducible refine stillTrap t ?_ ?_ ?_); rfl; rfl; simp only [Act.put, List.setIfInBounds_toArray, List.set_cons_succ, List.set_cons_zero]) | still_step)
  refine wpStill_nil ?_
  go_wp2_with (first | ((with_reducible refine load33 r hl ?_ ?_ ?_); rfl; rfl) | ((with_reducible refine loadCore r hl ?_ ?_ ?_); rfl; rfl) | ((with_reducible refine loadCsr r hl ?_ ?_ ?_); rfl; rfl) | ((with_reducible refine loadTrap g ?_ ?_ ?_); rfl; rfl) | ((with_reducible refine loadTrap t ?_ ?_ ?_); rfl; rfl) | ((with_reducible refine storeTrap (k := 0) (v := 0) g ?_ ?_ ?_ ?_); rfl; rfl; rfl; intro w' r' t'; refine Hid.out ?_))
  refine Lib.hid ?_
  replace om := Lib.hid (om.out.trn g (NoU8.trap _ _) t')
  replace r := r.trn t' n_r_g.out
  replace t := t.trn t' n_g_t.out.symm
  replace HD := Lib.hid (HD.out.trn HL_g.out t')
  clear t' g
  have g := r'
  clear r'
  replace c0 := r.mem hl
  replace c1 := t.cell (i := 0) rfl
  go_wp2_with fail
  exact retWT rfl rfl rfl g ⟨rfl, HD.out⟩ rfl
theorem rfload (m : Mc) (a n : Int) (W : World) (hm : m.Ok W) (hs : m.xs.length ≤ 100000) (a0 : 0 ≤ a) (a1 : a < 4294967296) (n0 : 1 ≤ n) (n1 : n ≤ 4) (x k v : Int) (ex : M.alv m.c m.xs a n = x) (ek : M.acz m.c m.xs.length a n = k) (ev : M.atv m.c m.xs.length a n = v) :
    Calls Try.prog 15 #[.agg (mach m), .int .u32 a, .int .i64 n] W fun e W' => e = .returned (.tuple #[.int .u32 x, .agg #[.int .i64 k, .int .u32 v]]) ∧ Dn W W' := by
  by_cases h : k = 0
  · subst h
    rw [M.atv_yes ek] at ev
    subst ev
    exact rload_ok m a n W hm hs a0 a1 n0 n1 x ek ex
  · have h2 := M.alv_no (xs := m.xs) (by rw [ek]; exact h)
    rw [ex] at h2
    subst h2
    exact rload_trap m a n W hm hs a0 a1 n0 n1 k v ek ev h
set_option maxRecDepth 100000 in
set_option maxHeartbeats 2000000 in
theorem rstore_trap (m : Mc) (a n : Int) (u : Int) (W : World) (hm : m.Ok W) (hs : m.xs.length ≤ 100000) (a0 : 0 ≤ a) (a1 : a < 4294967296) (n0 : 1 ≤ n) (n1 : n ≤ 4) (u0 : 0 ≤ u) (u1 : u < 4294967296) (k v : Int) (ek : M.acz m.c m.xs.length a n = k) (ev : M.atv m.c m.xs.length a n = v) (hk : k ≠ 0) :
    Calls Try.prog 18 #[.agg (mach m), .int .u32 a, .int .i64 n, .int .u32 u] W fun e W' => ∃ m', e = .returned (.tuple #[.agg (mach m'), .agg #[.int .i64 k, .int .u32 v]]) ∧ Hid (m'.Ok W') ∧ Hid (m.Up m.xs m') ∧ Dn W W' := by
  obtain ⟨p, ep⟩ : ∃ p, M.apa m.c m.xs.length a n = p := ⟨_, rfl⟩
  have C1 := Lib.hid fun w => fun (ow : m.Ok w) => rcell m a n p k v w ow hs a0 a1 n0 n1 ep ek ev
  have hkb : (k == 0) = false := by simpa using hk
  clear ep ek ev hk
  have hl := hm.len
  have om := Lib.hid hm
  have HD := Lib.hid (Dn.refl W)
  obtain ⟨x0, b_r, hw0, hb0, r, d', nn⟩ := new_blk W 30 (mach m)
  have HL_r : Hid (W.heap.size ≤ b_r) := Lib.hid (by have := HD.out.size; omega)
  clear nn
  replace om := Lib.hid (om.out.dn d')
  replace HD := Lib.hid (HD.out.trans d')
  clear d'
  obtain ⟨x1, b_q, hw1, hb1, q, d', nn⟩ := new_blk x0 30 (mach Mc.zero)
  have n_r_q := Lib.hid (nn _ r.lt)
  have HL_q : Hid (W.heap.size ≤ b_q) := Lib.hid (by have := HD.out.size; omega)
  clear nn
  replace r := r.dn d'
  replace om := Lib.hid (om.out.dn d')
  replace HD := Lib.hid (HD.out.trans d')
  clear d'
  rw [hw0] at hw1 hb1
  simp only [size_alloc] at hb1
  obtain ⟨x2, b_g, hw2, hb2, g, d', nn⟩ := new_blk x1 35 #[.int .i64 0, .int .u32 0]
  have n_r_g := Lib.hid (nn _ r.lt)
  have n_q_g := Lib.hid (nn _ q.lt)
  have HL_g : Hid (W.heap.size ≤ b_g) := Lib.hid (by have := HD.out.size; omega)
  clear nn
  replace r := r.dn d'
  replace q := q.dn d'
  replace om := Lib.hid (om.out.dn d')
  replace HD := Lib.hid (HD.out.trans d')
  clear d'
  rw [hw1] at hw2 hb2
  simp only [size_alloc] at hb2
  go_enter Try.func18, Try.ntmps18
  go_wp2_with (first | ((with_reducible refine alloc33 (b := W.heap.size + 1) (size_alloc _ _) ?_ ?_); rfl) | ((with_reducible refine allocTrap (b := W.heap.size + 1 + 1) (size2 _ _ _) ?_ ?_); rfl; refine Hid.out ?_))
  refine Lib.hid ?_
  rw [← hw2, ← hb2, ← hb1, ← hb0]
  clear hw0 hb0 hw1 hb1 hw2 hb2
  go_wp2_with (first | ((with_reducible refine load33 r hl ?_ ?_ ?_); rfl; rfl) | ((with_reducible refine loadCore r hl ?_ ?_ ?_); rfl; rfl) | ((with_reducible refine loadCsr r hl ?_ ?_ ?_); rfl; rfl) | ((with_reducible refine load33 q zlen ?_ ?_ ?_); rfl; rfl) | ((with_reducible refine loadCore q zlen ?_ ?_ ?_); rfl; rfl) | ((with_reducible refine loadCsr q zlen ?_ ?_ ?_); rfl; rfl) | ((with_reducible refine loadTrap g ?_ ?_ ?_); rfl; rfl) | (go_at_call 13; (first | (with_reducible refine (C1.out _ om.out).mono ?_)); rintro e w' ⟨rfl, d'⟩; replace r := r.dn d'; replace q := q.dn d'; replace g := g.dn d'; replace om := Lib.hid (om.out.dn d'); replace HD := Lib.hid (HD.out.trans d'); clear d') | ((with_reducible refine allocTrap (b := w'.heap.size) rfl ?_ ?_); rfl; refine Hid.out ?_))
  refine Lib.hid ?_
  obtain ⟨x', b_t, hw, hb, t, d', nn⟩ := new_blk w' 35 #[.int .i64 0, .int .u32 0]
  have n_r_t := Lib.hid (nn _ r.lt)
  have n_q_t := Lib.hid (nn _ q.lt)
  have n_g_t := Lib.hid (nn _ g.lt)
  have HL_t : Hid (W.heap.size ≤ b_t) := Lib.hid (by have := HD.out.size; omega)
  rw [← hw, ← hb]
  clear hw hb nn
  replace r := r.dn d'
  replace q := q.dn d'
  replace g := g.dn d'
  replace om := Lib.hid (om.out.dn d')
  replace HD := Lib.hid (HD.out.trans d')
  clear d'
  go_wp2_with (first | ((with_reducible refine load33 r hl ?_ ?_ ?_); rfl; rfl) | ((with_reducible refine loadCore r hl ?_ ?_ ?_); rfl; rfl) | ((with_reducible refine loadCsr r hl ?_ ?_ ?_); rfl; rfl) | ((with_reducible refine load33 q zlen ?_ ?_ ?_); rfl; rfl) | ((with_reducible refine loadCore q zlen ?_ ?_ ?_); rfl; rfl) | ((with_reducible refine loadCsr q zlen ?_ ?_ ?_); rfl; rfl) | ((with_reducible refine loadTrap g ?_ ?_ ?_); rfl; rfl) | ((with_reducible refine loadTrap t ?_ ?_ ?_); rfl; rfl) | ((with_reducible refine storeTrap (k := k) (v := v) t ?_ ?_ ?_ ?_); rfl; rfl; rfl; intro w' r' t'; refine Hid.out ?_))
  refine Lib.hid ?_
  replace om := Lib.hid (om.out.trn t (NoU8.trap _ _) t')
  replace r := r.trn t' n_r_t.out
  replace q := q.trn t' n_q_t.out
  replace g := g.trn t' n_g_t.out
  replace HD := Lib.hid (HD.out.trn HL_t.out t')
  clear t' t
  have t := r'
  clear r'
  have c0 := r.mem hl
  have c1 := t.cell (i := 0) rfl
  go_wp2_with (first | ((with_reducible refine load33 r hl ?_ ?_ ?_); rfl; rfl) | ((with_reducible refine loadCore r hl ?_ ?_ ?_); rfl; rfl) | ((with_reducible refine loadCsr r hl ?_ ?_ ?_); rfl; rfl) | ((with_reducible refine load33 q zlen ?_ ?_ ?_); rfl; rfl) | ((with_reducible refine loadCore q zlen ?_ ?_ ?_); rfl; rfl) | ((with_reducible refine loadCsr q zlen ?_ ?_ ?_); rfl; rfl) | ((with_reducible refine loadTrap g ?_ ?_ ?_); rfl; rfl) | ((with_reducible refine loadTrap t ?_ ?_ ?_); rfl; rfl))
  have d' : Dn w' { w' with drawn := w'.drawn + 1 } := (Dn.refl w').drew
  refine wp_region_ret2 (by kernel_rfl) (by kernel_rfl) r t q g n_q_t.out.symm n_q_g.out.symm Try.underlying30 rfl (info_mach hl) (by rw [mach_size zlen, mach_size hl]) (mach_one _) Try.underlying35 rfl infoTrap rfl (by simp [Value.oneCell']) rfl rfl rfl rfl rfl rfl rfl rfl rfl rfl rfl ?_
  simp only [Act.put, List.setIfInBounds_toArray, List.set_cons_succ, List.set_cons_zero]
  replace r := r.dn d'
  replace q := q.dn d'
  replace g := g.dn d'
  replace t := t.dn d'
  replace om := Lib.hid (om.out.dn d')
  replace HD := Lib.hid (HD.out.trans d')
  replace c0 := r.mem hl
  replace c1 := t.cell (i := 0) rfl
  clear d'
  generalize ({ w' with drawn := w'.drawn + 1 } : World) = w' at r q g t om HD c0 c1 ⊢
  intro w' v' r' t' r2' t2'
  replace om := Lib.hid (om.out.trn q (NoU8.mach _) t')
  replace r := r.trn t' n_r_q.out
  replace g := g.trn t' n_q_g.out.symm
  replace t := t.trn t' n_q_t.out.symm
  replace HD := Lib.hid (HD.out.trn HL_q.out t')
  clear t' q
  have q := r'
  clear r'
  replace c0 := r.mem hl
  replace c1 := t.cell (i := 0) rfl
  replace om := Lib.hid (om.out.trn g (NoU8.trap _ _) t2')
  replace r := r.trn t2' n_r_g.out
  replace q := q.trn t2' n_q_g.out
  replace t := t.trn t2' n_g_t.out.symm
  replace HD := Lib.hid (HD.out.trn HL_g.out t2')
  clear t2' g
  have g := r2'
  clear r2'
  replace c0 := r.mem hl
  replace c1 := t.cell (i := 0) rfl
  go_wp2_with fail
  exact retMT rfl rfl rfl q hl g ⟨m, rfl, om, Lib.hid ⟨m.A, m.k, rfl⟩, HD.out⟩ rfl
set_option maxRecDepth 100000 in
set_option maxHeartbeats 2000000 in
theorem rstore_fine (m : Mc) (a n : Int) (u : Int) (W : World) (hm : m.Ok W) (hs : m.xs.length ≤ 100000) (a0 : 0 ≤ a) (a1 : a < 4294967296) (n0 : 1 ≤ n) (n1 : n ≤ 4) (u0 : 0 ≤ u) (u1 : u < 4294967296) (zs : List Int) (ek : M.acz m.c m.xs.length a n = 0) (hz : M.asv m.c m.xs a n u = zs) :
    Calls Try.prog 18 #[.agg (mach m), .int .u32 a, .int .i64 n, .int .u32 u] W fun e W' => ∃ m', e = .returned (.tuple #[.agg (mach m'), .agg #[.int .i64 0, .int .u32 0]]) ∧ Hid (m'.Ok W') ∧ Hid (m.Up zs m') ∧ Dn W W' := by
  have hk := M.acz_hit ek
  have hu := M.ub_rng hm.core
  obtain ⟨pn, hpn⟩ : ∃ pn : Nat, M.ub m.c + a = (pn : Int) := ⟨(M.ub m.c + a).toNat, by omega⟩
  obtain ⟨nn, hnn⟩ : ∃ nn : Nat, n = (nn : Int) := ⟨n.toNat, by omega⟩
  have C1 := Lib.hid fun w => fun (ow : m.Ok w) => rcell m a n (M.ub m.c + a) 0 0 w ow hs a0 a1 n0 n1 (M.apa_yes ek) ek (M.atv_yes ek)
  rw [hpn] at C1
  have el : M.st m.xs pn nn u = zs := by rw [← hz]; unfold M.asv; rw [if_pos ek, hpn, hnn]; rfl
  have C3 := Lib.hid fun w => fun (ow : m.Ok w) => rstore_at (W := w) pn nn (a' := (pn : Int)) (n' := n) (v := u) (b := true) ow.mem hs (by omega) (by omega) (by omega) u0 u1 rfl rfl hnn el (decide_eq_true (by omega))
  have zl : Hid (m.xs.length = zs.length) := Lib.hid (by rw [← hz, M.asv_len])
  clear hk hu hpn hnn el ek hz
  have hl := hm.len
  have om := Lib.hid hm
  have HD := Lib.hid (Dn.refl W)
  obtain ⟨x0, b_r, hw0, hb0, r, d', nn⟩ := new_blk W 30 (mach m)
  have HL_r : Hid (W.heap.size ≤ b_r) := Lib.hid (by have := HD.out.size; omega)
  clear nn
  replace om := Lib.hid (om.out.dn d')
  replace HD := Lib.hid (HD.out.trans d')
  clear d'
  obtain ⟨x1, b_q, hw1, hb1, q, d', nn⟩ := new_blk x0 30 (mach Mc.zero)
  have n_r_q := Lib.hid (nn _ r.lt)
  have HL_q : Hid (W.heap.size ≤ b_q) := Lib.hid (by have := HD.out.size; omega)
  clear nn
  replace r := r.dn d'
  replace om := Lib.hid (om.out.dn d')
  replace HD := Lib.hid (HD.out.trans d')
  clear d'
  rw [hw0] at hw1 hb1
  simp only [size_alloc] at hb1
  obtain ⟨x2, b_g, hw2, hb2, g, d', nn⟩ := new_blk x1 35 #[.int .i64 0, .int .u32 0]
  have n_r_g := Lib.hid (nn _ r.lt)
  have n_q_g := Lib.hid (nn _ q.lt)
  have HL_g : Hid (W.heap.size ≤ b_g) := Lib.hid (by have := HD.out.size; omega)
  clear nn
  replace r := r.dn d'
  replace q := q.dn d'
  replace om := Lib.hid (om.out.dn d')
  replace HD := Lib.hid (HD.out.trans d')
  clear d'
  rw [hw1] at hw2 hb2
  simp only [size_alloc] at hb2
  go_enter Try.func18, Try.ntmps18
  go_wp2_with (first | ((with_reducible refine alloc33 (b := W.heap.size + 1) (size_alloc _ _) ?_ ?_); rfl) | ((with_reducible refine allocTrap (b := W.heap.size + 1 + 1) (size2 _ _ _) ?_ ?_); rfl; refine Hid.out ?_))
  refine Lib.hid ?_
  rw [← hw2, ← hb2, ← hb1, ← hb0]
  clear hw0 hb0 hw1 hb1 hw2 hb2
  go_wp2_with (first | ((with_reducible refine load33 r hl ?_ ?_ ?_); rfl; rfl) | ((with_reducible refine loadCore r hl ?_ ?_ ?_); rfl; rfl) | ((with_reducible refine loadCsr r hl ?_ ?_ ?_); rfl; rfl) | ((with_reducible refine load33 q zlen ?_ ?_ ?_); rfl; rfl) | ((with_reducible refine loadCore q zlen ?_ ?_ ?_); rfl; rfl) | ((with_reducible refine loadCsr q zlen ?_ ?_ ?_); rfl; rfl) | ((with_reducible refine loadTrap g ?_ ?_ ?_); rfl; rfl) | (go_at_call 13; (first | (with_reducible refine (C1.out _ om.out).mono ?_)); rintro e w' ⟨rfl, d'⟩; replace r := r.dn d'; replace q := q.dn d'; replace g := g.dn d'; replace om := Lib.hid (om.out.dn d'); replace HD := Lib.hid (HD.out.trans d'); clear d') | ((with_reducible refine allocTrap (b := w'.heap.size) rfl ?_ ?_); rfl; refine Hid.out ?_))
  refine Lib.hid ?_
  obtain ⟨x', b_t, hw, hb, t, d', nn⟩ := new_blk w' 35 #[.int .i64 0, .int .u32 0]
  have n_r_t := Lib.hid (nn _ r.lt)
  have n_q_t := Lib.hid (nn _ q.lt)
  have n_g_t := Lib.hid (nn _ g.lt)
  have HL_t : Hid (W.heap.size ≤ b_t) := Lib.hid (by have := HD.out.size; omega)
  rw [← hw, ← hb]
  clear hw hb nn
  replace r := r.dn d'
  replace q := q.dn d'
  replace g := g.dn d'
  replace om := Lib.hid (om.out.dn d')
  replace HD := Lib.hid (HD.out.trans d')
  clear d'
  go_wp2_with (first | ((with_reducible refine load33 r hl ?_ ?_ ?_); rfl; rfl) | ((with_reducible refine loadCore r hl ?_ ?_ ?_); rfl; rfl) | ((with_reducible refine loadCsr r hl ?_ ?_ ?_); rfl; rfl) | ((with_reducible refine load33 q zlen ?_ ?_ ?_); rfl; rfl) | ((with_reducible refine loadCore q zlen ?_ ?_ ?_); rfl; rfl) | ((with_reducible refine loadCsr q zlen ?_ ?_ ?_); rfl; rfl) | ((with_reducible refine loadTrap g ?_ ?_ ?_); rfl; rfl) | ((with_reducible refine loadTrap t ?_ ?_ ?_); rfl; rfl) | ((with_reducible refine storeTrap (k := 0) (v := 0) t ?_ ?_ ?_ ?_); rfl; rfl; rfl; intro w' r' t'; refine Hid.out ?_))
  refine Lib.hid ?_
  replace om := Lib.hid (om.out.trn t (NoU8.trap _ _) t')
  replace r := r.trn t' n_r_t.out
  replace q := q.trn t' n_q_t.out
  replace g := g.trn t' n_g_t.out
  replace HD := Lib.hid (HD.out.trn HL_t.out t')
  clear t' t
  have t := r'
  clear r'
  have c0 := r.mem hl
  have c1 := t.cell (i := 0) rfl
  go_wp2_with (first | ((with_reducible refine load33 r hl ?_ ?_ ?_); rfl; rfl) | ((with_reducible refine loadCore r hl ?_ ?_ ?_); rfl; rfl) | ((with_reducible refine loadCsr r hl ?_ ?_ ?_); rfl; rfl) | ((with_reducible refine load33 q zlen ?_ ?_ ?_); rfl; rfl) | ((with_reducible refine loadCore q zlen ?_ ?_ ?_); rfl; rfl) | ((with_reducible refine loadCsr q zlen ?_ ?_ ?_); rfl; rfl) | ((with_reducible refine loadTrap g ?_ ?_ ?_); rfl; rfl) | ((with_reducible refine loadTrap t ?_ ?_ ?_); rfl; rfl) | (go_at_call 31; (with_reducible refine (C3.out _ om.out).mono ?_); rintro e w' ⟨A', k', rfl, oz, d'⟩; replace d' := d'.out; replace r := r.dn d'; replace q := q.dn d'; replace g := g.dn d'; replace t := t.dn d'; replace om := Lib.hid (om.out.dn d'); replace HD := Lib.hid (HD.out.trans d'); replace c0 := r.mem hl; replace c1 := t.cell (i := 0) rfl; clear d'; refine Hid.out ?_))
  refine Lib.hid ?_
  go_wp2_with (first | ((with_reducible refine load33 r hl ?_ ?_ ?_); rfl; rfl) | ((with_reducible refine loadCore r hl ?_ ?_ ?_); rfl; rfl) | ((with_reducible refine loadCsr r hl ?_ ?_ ?_); rfl; rfl) | ((with_reducible refine load33 q zlen ?_ ?_ ?_); rfl; rfl) | ((with_reducible refine loadCore q zlen ?_ ?_ ?_); rfl; rfl) | ((with_reducible refine loadCsr q zlen ?_ ?_ ?_); rfl; rfl) | ((with_reducible refine loadTrap g ?_ ?_ ?_); rfl; rfl) | ((with_reducible refine loadTrap t ?_ ?_ ?_); rfl; rfl) | ((with_reducible refine storeMem (A' := A') (k' := k') (zs := zs) r hl zl.out ?_ ?_ ?_ ?_); rfl; rfl; rfl; intro w' r' t'; refine Hid.out ?_))
  refine Lib.hid ?_
  clear c0 c1
  replace om := Lib.hid (om.out.trn r (NoU8.mach _) t')
  replace oz := Lib.hid (oz.out.trn r (NoU8.mach _) t')
  replace q := q.trn t' n_r_q.out.symm
  replace g := g.trn t' n_r_g.out.symm
  replace t := t.trn t' n_r_t.out.symm
  replace HD := Lib.hid (HD.out.trn HL_r.out t')
  clear t' r
  have r := r'
  clear r'
  obtain ⟨m', hm'⟩ : ∃ m', m' = { m with A := A', k := k', xs := zs } := ⟨_, rfl⟩
  rw [← hm'] at r
  have om' : Hid (m'.Ok w') := Lib.hid (by rw [hm']; exact ⟨om.out.core, oz.out, om.out.out, om.out.t0, om.out.t1⟩)
  have hl' := om'.out.len
  have HU : Hid (m.Up zs m') := Lib.hid ⟨A', k', hm'⟩
  clear hm' oz om
  go_wp2_with (first | ((with_reducible refine load33 r hl' ?_ ?_ ?_); rfl; rfl) | ((with_reducible refine loadCore r hl' ?_ ?_ ?_); rfl; rfl) | ((with_reducible refine loadCsr r hl' ?_ ?_ ?_); rfl; rfl) | ((with_reducible refine load33 q zlen ?_ ?_ ?_); rfl; rfl) | ((with_reducible refine loadCore q zlen ?_ ?_ ?_); rfl; rfl) | ((with_reducible refine loadCsr q zlen ?_ ?_ ?_); rfl; rfl) | ((with_reducible refine loadTrap g ?_ ?_ ?_); rfl; rfl) | ((with_reducible refine loadTrap t ?_ ?_ ?_); rfl; rfl))
  have d' : Dn w' { w' with drawn := w'.drawn + 1 } := (Dn.refl w').drew
  refine wp_region_ret2 (by kernel_rfl) (by kernel_rfl) r t q g n_q_t.out.symm n_q_g.out.symm Try.underlying30 rfl (info_mach hl') (by rw [mach_size zlen, mach_size hl']) (mach_one _) Try.underlying35 rfl infoTrap rfl (by simp [Value.oneCell']) rfl rfl rfl rfl rfl rfl rfl rfl rfl rfl rfl ?_
  simp only [Act.put, List.setIfInBounds_toArray, List.set_cons_succ, List.set_cons_zero]
  replace r := r.dn d'
  replace q := q.dn d'
  replace g := g.dn d'
  replace t := t.dn d'
  replace om' := Lib.hid (om'.out.dn d')
  replace HD := Lib.hid (HD.out.trans d')
  clear d'
  generalize ({ w' with drawn := w'.drawn + 1 } : World) = w' at r q g t om' HD ⊢
  intro w' v' r' t' r2' t2'
  replace om' := Lib.hid (om'.out.trn q (NoU8.mach _) t')
  replace r := r.trn t' n_r_q.out
  replace g := g.trn t' n_q_g.out.symm
  replace t := t.trn t' n_q_t.out.symm
  replace HD := Lib.hid (HD.out.trn HL_q.out t')
  clear t' q
  have q := r'
  clear r'
  replace om' := Lib.hid (om'.out.trn g (NoU8.trap _ _) t2')
  replace r := r.trn t2' n_r_g.out
  replace q := q.trn t2' n_q_g.out
  replace t := t.trn t2' n_g_t.out.symm
  replace HD := Lib.hid (HD.out.trn HL_g.out t2')
  clear t2' g
  have g := r2'
  clear r2'
  go_wp2_with fail
  exact retMT rfl rfl rfl q hl' g ⟨m', rfl, om', HU, HD.out⟩ rfl
theorem rfstore (m : Mc) (a n : Int) (u : Int) (W : World) (hm : m.Ok W) (hs : m.xs.length ≤ 100000) (a0 : 0 ≤ a) (a1 : a < 4294967296) (n0 : 1 ≤ n) (n1 : n ≤ 4) (u0 : 0 ≤ u) (u1 : u < 4294967296) (zs : List Int) (k v : Int) (hz : M.asv m.c m.xs a n u = zs) (ek : M.acz m.c m.xs.length a n = k) (ev : M.atv m.c m.xs.length a n = v) :
    Calls Try.prog 18 #[.agg (mach m), .int .u32 a, .int .i64 n, .int .u32 u] W fun e W' => ∃ m', e = .returned (.tuple #[.agg (mach m'), .agg #[.int .i64 k, .int .u32 v]]) ∧ Hid (m'.Ok W') ∧ Hid (m.Up zs m') ∧ Dn W W' := by
  by_cases h : k = 0
  · subst h
    rw [M.atv_yes ek] at ev
    subst ev
    exact rstore_fine m a n u W hm hs a0 a1 n0 n1 u0 u1 zs ek hz
  · have h2 := M.asv_no (xs := m.xs) (v := u) (by rw [ek]; exact h)
    rw [hz] at h2
    subst h2
    exact rstore_trap m a n u W hm hs a0 a1 n0 n1 u0 u1 k v ek ev h
set_option maxRecDepth 100000 in
set_option maxHeartbeats 2000000 in
theorem rdue (m : Mc) (W : World) (hm : m.Ok W) :
    Calls Try.prog 21 #[.agg (mach m)] W fun e W' => e = .returned (.bool (M.due m.c m.t)) ∧ Dn W W' := by
  have hl := hm.len
  have om := Lib.hid hm
  have C1 := Lib.hid fun w => refEnabled m.c w hm.core
  have C2 := Lib.hid fun w => refCompare m.c w hm.core
  have t0 := hm.t0
  have t1 := hm.t1
  cases hi : M.ien m.c
  · rw [hi] at C1
    have HB : Hid (M.due m.c m.t = false) := Lib.hid (by unfold M.due; rw [hi]; rfl)
    rw [HB.out]
    clear HB hi
    have HD := Lib.hid (Dn.refl W)
    obtain ⟨x0, b_r, hw0, hb0, r, d', nn⟩ := new_blk W 30 (mach m)
    have HL_r : Hid (W.heap.size ≤ b_r) := Lib.hid (by have := HD.out.size; omega)
    clear nn
    replace om := Lib.hid (om.out.dn d')
    replace HD := Lib.hid (HD.out.trans d')
    clear d'
    go_enter Try.func21, Try.ntmps21
    go_wp2_with fail
    rw [← hw0, ← hb0]
    clear hw0 hb0
    have c0 := r.time hl
    have QC1 := Lib.hid (later_of x0 C1.out)
    have QC2 := Lib.hid (later_of x0 C2.out)
    have lc0 := fun d os => cell_regrown c0 d os
    refine wp_region_quiet_below (by kernel_rfl) (by kernel_rfl) ?_
    repeat (first | go_big_quiet_skip | (go_big_quiet_want; first | ((with_reducible refine qop33 r hl ?_ ?_); rfl; simp only [Act.put, List.setIfInBounds_toArray, List.set_cons_succ, List.set_cons_zero]; go_big_quiet_on) | ((with_reducible refine qopCore r hl ?_ ?_); rfl; simp only [Act.put, List.setIfInBounds_toArray, List.set_cons_succ, List.set_cons_zero]; go_big_quiet_on) | ((with_reducible refine qopCsr r hl ?_ ?_); rfl; simp only [Act.put, List.setIfInBounds_toArray, List.set_cons_succ, List.set_cons_zero]; go_big_quiet_on) | (go_big_quiet_op; first | go_big_quiet_on | go_big_quiet_call (first | (with_reducible exact QC1.out _ _) | (with_reducible exact QC2.out _ _)))))
    refine wpQuiet_nil ?_
    intro _ hw'
    obtain ⟨⟨dq, osq⟩, hw''⟩ := hw'
    subst hw''
    have d' := below_regrown x0 dq osq
    clear QC1 QC2 lc0
    replace r := r.dn d'
    replace om := Lib.hid (om.out.dn d')
    replace HD := Lib.hid (HD.out.trans d')
    replace c0 := r.time hl
    clear d'
    generalize grow (redrawn x0 dq) osq = w' at r om HD c0 ⊢
    go_wp2
    go_ret
    exact ⟨rfl, HD.out⟩
  · rw [hi] at C1
    have HB : Hid (M.due m.c m.t = decide (M.tcmp m.c ≤ m.t)) := Lib.hid (by unfold M.due; rw [hi]; rfl)
    rw [HB.out]
    clear HB hi
    have HD := Lib.hid (Dn.refl W)
    obtain ⟨x0, b_r, hw0, hb0, r, d', nn⟩ := new_blk W 30 (mach m)
    have HL_r : Hid (W.heap.size ≤ b_r) := Lib.hid (by have := HD.out.size; omega)
    clear nn
    replace om := Lib.hid (om.out.dn d')
    replace HD := Lib.hid (HD.out.trans d')
    clear d'
    go_enter Try.func21, Try.ntmps21
    go_wp2_with fail
    rw [← hw0, ← hb0]
    clear hw0 hb0
    have c0 := r.time hl
    have QC1 := Lib.hid (later_of x0 C1.out)
    have QC2 := Lib.hid (later_of x0 C2.out)
    have lc0 := fun d os => cell_regrown c0 d os
    refine wp_region_quiet_below (by kernel_rfl) (by kernel_rfl) ?_
    repeat (first | go_big_quiet_skip | (go_big_quiet_want; first | ((with_reducible refine qop33 r hl ?_ ?_); rfl; simp only [Act.put, List.setIfInBounds_toArray, List.set_cons_succ, List.set_cons_zero]; go_big_quiet_on) | ((with_reducible refine qopCore r hl ?_ ?_); rfl; simp only [Act.put, List.setIfInBounds_toArray, List.set_cons_succ, List.set_cons_zero]; go_big_quiet_on) | ((with_reducible refine qopCsr r hl ?_ ?_); rfl; simp only [Act.put, List.setIfInBounds_toArray, List.set_cons_succ, List.set_cons_zero]; go_big_quiet_on) | (go_big_quiet_op; first | go_big_quiet_on | go_big_quiet_call (first | (with_reducible exact QC1.out _ _) | (with_reducible exact QC2.out _ _)))))
    refine wpQuiet_nil ?_
    intro _ hw'
    obtain ⟨⟨dq, osq⟩, hw''⟩ := hw'
    subst hw''
    have d' := below_regrown x0 dq osq
    clear QC1 QC2 lc0
    replace r := r.dn d'
    replace om := Lib.hid (om.out.dn d')
    replace HD := Lib.hid (HD.out.trans d')
    replace c0 := r.time hl
    clear d'
    generalize grow (redrawn x0 dq) osq = w' at r om HD c0 ⊢
    go_wp2
    go_ret
    exact ⟨rfl, HD.out⟩
set_option maxRecDepth 100000 in
set_option maxHeartbeats 2000000 in
theorem rfew (m : Mc) (b : Bool) (W : World) (hm : m.Ok W) (hx : m.xs.length ≤ 9223372036854775807) (hy : m.ys.length ≤ 9223372036854775807) (hb : decide (m.xs.length ≤ 600 ∧ m.ys.length ≤ 600) = b) :
    Calls Try.prog 10 #[.agg (mach m)] W fun e W' => e = .returned (.bool b) ∧ Dn W W' := by
  subst hb
  have hl := hm.len
  by_cases h1 : m.xs.length ≤ 600
  · by_cases h2 : m.ys.length ≤ 600
    · rw [decide_eq_true ⟨h1, h2⟩]
      have h3 : decide ((m.ys.length : Int) ≤ 600) = true := decide_eq_true (by omega)
      have k0 := (Blk.new W 30 (mach m)).mem hl
      have k1 := (Blk.new W 30 (mach m)).out hl
      go_enter Try.func10, Try.ntmps10
      go_wp2
      go_ret
      exact ⟨rfl, (Dn.refl W).alloc _⟩
    · rw [decide_eq_false (fun h => h2 h.2)]
      have h3 : decide ((m.ys.length : Int) ≤ 600) = false := decide_eq_false (by omega)
      have k0 := (Blk.new W 30 (mach m)).mem hl
      have k1 := (Blk.new W 30 (mach m)).out hl
      go_enter Try.func10, Try.ntmps10
      go_wp2
      go_ret
      exact ⟨rfl, (Dn.refl W).alloc _⟩
  · rw [decide_eq_false (fun h => h1 h.1)]
    have k0 := (Blk.new W 30 (mach m)).mem hl
    have k1 := (Blk.new W 30 (mach m)).out hl
    go_enter Try.func10, Try.ntmps10
    go_wp2
    go_ret
    exact ⟨rfl, (Dn.refl W).alloc _⟩
set_option maxRecDepth 100000 in
set_option maxHeartbeats 2000000 in
theorem rsame (m n : Mc) (W : World) (hm : m.Ok W) (hn : n.Ok W) (hs : m.xs.length ≤ 100000) (hs2 : m.ys.length ≤ 100000) (e1 : m.c = n.c) (e2 : m.xs = n.xs) (e3 : m.t = n.t) (e4 : m.ys = n.ys) (e5 : m.h = n.h) :
    Calls Try.prog 19 #[.agg (mach m), .agg (mach n)] W fun e W' => e = .returned (.bool true) ∧ Dn W W' := by
  have hl := hm.len
  have hl2 := hn.len
  have om := Lib.hid hm
  have on := Lib.hid hn
  have q1 := fun w => eq29 hl hl2 w
  rw [show (m.c == n.c) = true by simp [e1]] at q1
  have C1 := Lib.hid fun w => fun (ow : m.Ok w) (ox : n.Ok w) => same_yes m.A n.A m.k n.k _ _ m.xs n.xs w ow.mem ox.mem rfl rfl e2 hs
  have C2 := Lib.hid fun w => fun (ow : m.Ok w) (ox : n.Ok w) => same_yes m.B n.B m.q n.q _ _ m.ys n.ys w ow.out ox.out rfl rfl e4 hs2
  have b1 : (m.t == n.t) = true := by simp [e3]
  have b2 : (m.h == n.h) = true := by simp [e5]
  clear e1 e2 e3 e4 e5
  have HD := Lib.hid (Dn.refl W)
  obtain ⟨x0, b_r, hw0, hb0, r, d', nn⟩ := new_blk W 30 (mach m)
  have HL_r : Hid (W.heap.size ≤ b_r) := Lib.hid (by have := HD.out.size; omega)
  clear nn
  replace om := Lib.hid (om.out.dn d')
  replace on := Lib.hid (on.out.dn d')
  replace HD := Lib.hid (HD.out.trans d')
  clear d'
  obtain ⟨x1, b_q, hw1, hb1, q, d', nn⟩ := new_blk x0 30 (mach n)
  have n_r_q := Lib.hid (nn _ r.lt)
  have HL_q : Hid (W.heap.size ≤ b_q) := Lib.hid (by have := HD.out.size; omega)
  clear nn
  replace r := r.dn d'
  replace om := Lib.hid (om.out.dn d')
  replace on := Lib.hid (on.out.dn d')
  replace HD := Lib.hid (HD.out.trans d')
  clear d'
  rw [hw0] at hw1 hb1
  simp only [size_alloc] at hb1
  have R0 := r
  rw [hw1, hb0] at R0
  go_enter Try.func19, Try.ntmps19
  go_wp2_with ((with_reducible refine loadCore R0 hl ?_ ?_ ?_); rfl; rfl; refine Hid.out ?_)
  refine Lib.hid ?_
  clear R0
  rw [← hw1, ← hb1, ← hb0]
  clear hw0 hb0 hw1 hb1
  have c0 := r.mem hl
  have c1 := q.mem hl2
  have c2 := r.time hl
  have c3 := q.time hl2
  have c4 := r.out hl
  have c5 := q.out hl2
  have c6 := r.halted hl
  have c7 := q.halted hl2
  go_wp2_with (first | ((with_reducible refine load33 r hl ?_ ?_ ?_); rfl; rfl) | ((with_reducible refine loadCore r hl ?_ ?_ ?_); rfl; rfl) | ((with_reducible refine loadCsr r hl ?_ ?_ ?_); rfl; rfl) | ((with_reducible refine load33 q hl2 ?_ ?_ ?_); rfl; rfl) | ((with_reducible refine loadCore q hl2 ?_ ?_ ?_); rfl; rfl) | ((with_reducible refine loadCsr q hl2 ?_ ?_ ?_); rfl; rfl) | (go_at_call 22; (first | (with_reducible refine (C1.out _ om.out on.out).mono ?_) | (with_reducible refine (C2.out _ om.out on.out).mono ?_)); rintro e w' ⟨rfl, d'⟩; replace r := r.dn d'; replace q := q.dn d'; replace om := Lib.hid (om.out.dn d'); replace on := Lib.hid (on.out.dn d'); replace HD := Lib.hid (HD.out.trans d'); replace c0 := r.mem hl; replace c1 := q.mem hl2; replace c2 := r.time hl; replace c3 := q.time hl2; replace c4 := r.out hl; replace c5 := q.out hl2; replace c6 := r.halted hl; replace c7 := q.halted hl2; clear d'))
  go_ret
  exact ⟨rfl, HD.out⟩
end Go.Proofs.Ytchekfipdhoejaa
