/-
  Contracts over the translated program and the plain facts behind them, of the texts: AluCalls, AluRefs, AluDo, AluAwake. Conditions: those that stand in each theorem.
-/
import Derived.Maps.OwnSet
import Derived.Laws.EntriesVeiled
import Derived.Deep.QuietTactic
import Derived.BigQuiet
import Derived.Test.YtclpdjpaaagkdaaGreatDoorPmA
import Derived.Test.YtclpdjpaaagkdaaGreatDoorPmB
namespace Go.Proofs.YtclpdjpaaagkdaaGreatDoor
open Go.ChangeShapes Go.WideShapes Go.ChangeAt Go.RowKit Go.Sort
set_option linter.unusedVariables false

theorem and_nat (v m : Int) (v0 : 0 ≤ v) (v1 : v < 4294967296) (m0 : 0 ≤ m) (m1 : m < 4294967296) : bits .and .u32 v m = ((v.toNat &&& m.toNat : Nat) : Int) := by
 obtain ⟨v, rfl⟩ := Int.eq_ofNat_of_zero_le v0
 obtain ⟨m, rfl⟩ := Int.eq_ofNat_of_zero_le m0
 rw [u32_and_nat _ _ (by omega) (by omega)]
 rfl
theorem or_nat (v m : Int) (v0 : 0 ≤ v) (v1 : v < 4294967296) (m0 : 0 ≤ m) (m1 : m < 4294967296) : bits .or .u32 v m = ((v.toNat ||| m.toNat : Nat) : Int) := by
 obtain ⟨v, rfl⟩ := Int.eq_ofNat_of_zero_le v0
 obtain ⟨m, rfl⟩ := Int.eq_ofNat_of_zero_le m0
 rw [u32_or_nat _ _ (by omega) (by omega)]
 rfl
theorem xor_nat (v m : Int) (v0 : 0 ≤ v) (v1 : v < 4294967296) (m0 : 0 ≤ m) (m1 : m < 4294967296) : bits .xor .u32 v m = ((v.toNat ^^^ m.toNat : Nat) : Int) := by
 obtain ⟨v, rfl⟩ := Int.eq_ofNat_of_zero_le v0
 obtain ⟨m, rfl⟩ := Int.eq_ofNat_of_zero_le m0
 rw [u32_xor_nat _ _ (by omega) (by omega)]
 rfl
theorem amount (y : Int) (y0 : 0 ≤ y) (y1 : y < 4294967296) : bits .and .u32 y 31 = (M.sh y : Int) := by
 rw [and_nat y 31 y0 y1 (by decide) (by decide)]
 have h : y.toNat &&& 31 = y.toNat % 2 ^ 5 := Nat.and_two_pow_sub_one_eq_mod _ 5
 have e : (31 : Int).toNat = 31 := rfl
 rw [e, h]
 unfold M.sh
 omega
theorem sg_wrap (x : Int) (x0 : 0 ≤ x) (x1 : x < 4294967296) : wrap32 x = M.sg x := by
 unfold wrap32 M.sg
 split <;> omega

theorem op1 (x y : Int) (W : World) (hx : M.U x) (hy : M.U y) : Calls Tryz.prog 164 #[.int .u32 x, .int .u32 y] W fun e W' => e = .returned (.int .u32 (M.ev 1 x y)) ∧ Dn W W' := by
 obtain ⟨x0, x1⟩ := hx
 obtain ⟨y0, y1⟩ := hy
 go_enter Tryz.func164, Tryz.ntmps164
 go_wp2
 go_ret
 exact ⟨rfl, Dn.refl W⟩

theorem op2 (x y : Int) (W : World) (hx : M.U x) (hy : M.U y) : Calls Tryz.prog 165 #[.int .u32 x, .int .u32 y] W fun e W' => e = .returned (.int .u32 (M.ev 2 x y)) ∧ Dn W W' := by
 obtain ⟨x0, x1⟩ := hx
 obtain ⟨y0, y1⟩ := hy
 go_enter Tryz.func165, Tryz.ntmps165
 go_wp2
 go_ret
 exact ⟨rfl, Dn.refl W⟩

theorem op3 (x y : Int) (W : World) (hx : M.U x) (hy : M.U y) : Calls Tryz.prog 166 #[.int .u32 x, .int .u32 y] W fun e W' => e = .returned (.int .u32 (M.ev 3 x y)) ∧ Dn W W' := by
 obtain ⟨x0, x1⟩ := hx
 obtain ⟨y0, y1⟩ := hy
 go_enter Tryz.func166, Tryz.ntmps166
 go_wp2
 go_ret
 exact ⟨ret_int (and_nat x y x0 x1 y0 y1), Dn.refl W⟩

theorem op4 (x y : Int) (W : World) (hx : M.U x) (hy : M.U y) : Calls Tryz.prog 167 #[.int .u32 x, .int .u32 y] W fun e W' => e = .returned (.int .u32 (M.ev 4 x y)) ∧ Dn W W' := by
 obtain ⟨x0, x1⟩ := hx
 obtain ⟨y0, y1⟩ := hy
 go_enter Tryz.func167, Tryz.ntmps167
 go_wp2
 go_ret
 exact ⟨ret_int (or_nat x y x0 x1 y0 y1), Dn.refl W⟩

theorem op5 (x y : Int) (W : World) (hx : M.U x) (hy : M.U y) : Calls Tryz.prog 168 #[.int .u32 x, .int .u32 y] W fun e W' => e = .returned (.int .u32 (M.ev 5 x y)) ∧ Dn W W' := by
 obtain ⟨x0, x1⟩ := hx
 obtain ⟨y0, y1⟩ := hy
 go_enter Tryz.func168, Tryz.ntmps168
 go_wp2
 go_ret
 exact ⟨ret_int (xor_nat x y x0 x1 y0 y1), Dn.refl W⟩

theorem less (x y : Int) (W : World) (hx : M.U x) (hy : M.U y) : Calls Tryz.prog 162 #[.int .u32 x, .int .u32 y] W fun e W' => e = .returned (.bool (M.lt x y)) ∧ Dn W W' := by
 obtain ⟨x0, x1⟩ := hx
 obtain ⟨y0, y1⟩ := hy
 go_enter Tryz.func162, Tryz.ntmps162
 go_wp2
 go_ret
 exact ⟨ret_bool (by rw [sg_wrap x x0 x1, sg_wrap y y0 y1]; rfl), Dn.refl W⟩

theorem oneIf (b : Bool) (W : World) : Calls Tryz.prog 170 #[.bool b] W fun e W' => e = .returned (.int .u32 (M.one b)) ∧ Dn W W' := by
 cases b
 · go_enter Tryz.func170, Tryz.ntmps170
   go_wp2
   go_ret
   exact ⟨rfl, Dn.refl W⟩
 · go_enter Tryz.func170, Tryz.ntmps170
   go_wp2
   go_ret
   exact ⟨rfl, Dn.refl W⟩

theorem op6 (x y : Int) (W : World) (hx : M.U x) (hy : M.U y) : Calls Tryz.prog 169 #[.int .u32 x, .int .u32 y] W fun e W' => e = .returned (.int .u32 (M.ev 6 x y)) ∧ Dn W W' := by
 obtain ⟨x0, x1⟩ := hx
 obtain ⟨y0, y1⟩ := hy
 have C := Lib.hid (less x y W ⟨x0, x1⟩ ⟨y0, y1⟩)
 go_enter Tryz.func169, Tryz.ntmps169
 go_wp2_with (first
   | (go_at_call 162; refine C.out.mono ?_; rintro e w1 ⟨rfl, d1⟩)
   | (go_at_call 170; refine (oneIf _ _).mono ?_; rintro e w2 ⟨rfl, d2⟩))
 go_ret
 exact ⟨rfl, d1.trans d2⟩

theorem op7 (x y : Int) (W : World) (hx : M.U x) (hy : M.U y) : Calls Tryz.prog 171 #[.int .u32 x, .int .u32 y] W fun e W' => e = .returned (.int .u32 (M.ev 7 x y)) ∧ Dn W W' := by
 obtain ⟨x0, x1⟩ := hx
 obtain ⟨y0, y1⟩ := hy
 have hs := amount y y0 y1
 have hs1 := M.sh_lt y
 have HE := Lib.hid (M.ev7 x y)
 generalize M.sh y = s at hs hs1 HE
 go_enter Tryz.func171, Tryz.ntmps171
 go_wp2
 go_ret
 exact ⟨ret_int HE.out.symm, Dn.refl W⟩

theorem op8 (x y : Int) (W : World) (hx : M.U x) (hy : M.U y) : Calls Tryz.prog 172 #[.int .u32 x, .int .u32 y] W fun e W' => e = .returned (.int .u32 (M.ev 8 x y)) ∧ Dn W W' := by
 obtain ⟨x0, x1⟩ := hx
 obtain ⟨y0, y1⟩ := hy
 have hs := amount y y0 y1
 have hs1 := M.sh_lt y
 have HE := Lib.hid (M.ev8 x y)
 generalize M.sh y = s at hs hs1 HE
 go_enter Tryz.func172, Tryz.ntmps172
 go_wp2
 go_ret
 exact ⟨ret_int HE.out.symm, Dn.refl W⟩


/-! the map of the operations -/
section
variable {P : Program} {ops : Array Oper} {rest : List Oper} {m x v : Operand} {t ty k e : TypeId} {pos : String} {aft : Array Edge} {a : Act} {w : World} {Q : Exit → Act → World → Prop} {b c : Nat} {es : Array MapEntry} {z : Int} {u : Value}

theorem run_ins (ht : P.underlying t = some (.map k e)) (hk : P.underlying k = some (.int .i64)) (es : Array MapEntry) (c : Nat) (z : Int) (u : Value)
   (hf : Instr.findNow (.int .i64) (.int .i64 z) es.toList 0 = some none) :
   (Instr.mapUpdate t (.map (some w.heap.size)) (.int .i64 z) u).run P (w.alloc (.map es c)) = .ok () (w.alloc (.map (es.push ⟨.int .i64 z, u, c⟩) (c + 1))) := by
 have hb : (w.alloc (.map es c)).heap[w.heap.size]? = some (.map es c) := (MapKept.heap_alloc w _).1
 have hc : (Instr.checkKey false 10000 k (.int .i64 z)).run P (w.alloc (.map es c)) = .ok () (w.alloc (.map es c)) := MapKept.run_checkKey (n := 9999) hk (k := .int .i64 z) (by simp [MapKept.IsKey]) false
 have hq : (Instr.findKey k (.int .i64 z) es.toList).run P (w.alloc (.map es c)) = .ok none (w.alloc (.map es c)) := MapKept.run_findKey hk hf
 have hs : ∀ o' : Obj, { w.alloc (.map es c) with heap := (w.alloc (.map es c)).heap.setIfInBounds w.heap.size o' } = w.alloc o' := fun o' => by
   have e : (w.heap.push (.map es c)).setIfInBounds w.heap.size o' = w.heap.push o' := by
     apply Array.ext_getElem?
     intro i
     by_cases h : w.heap.size = i
     · subst h
       simp
     · have h' : ¬ i = w.heap.size := fun e => h e.symm
       simp [Array.getElem?_push, h, h']
   show ({ w with heap := (w.heap.push (.map es c)).setIfInBounds w.heap.size o' } : World) = { w with heap := w.heap.push o' }
   rw [e]
 simp only [Instr.mapUpdate, Sem.run_bind, run_underlying ht, MapKept.run_getObj_map hb, hc, hq, MapKept.run_setObj_map _ hb, Result.andThen_ok, hs]

theorem run_look_yes (ht : P.underlying t = some (.map k e)) (hk : P.underlying k = some (.int .i64)) (hb : w.heap[b]? = some (.map es c)) {j : Nat}
   (hf : Instr.findNow (.int .i64) (.int .i64 z) es.toList 0 = some (some (j, u))) :
   (Instr.lookup t (.map (some b)) (.int .i64 z) true).run P w = .ok (.tuple #[u, .bool true]) w := by
 have hc : (Instr.checkKey es.isEmpty 10000 k (.int .i64 z)).run P w = .ok () w := MapKept.run_checkKey (n := 9999) hk (k := .int .i64 z) (by simp [MapKept.IsKey]) _
 have hq : (Instr.findKey k (.int .i64 z) es.toList).run P w = .ok (some (j, u)) w := MapKept.run_findKey hk hf
 simp [Instr.lookup, run_underlying ht, MapKept.run_getObj_map hb, hc, hq, Result.andThen]

theorem run_look_no (ht : P.underlying t = some (.map k e)) (hk : P.underlying k = some (.int .i64)) (hb : w.heap[b]? = some (.map es c)) (hz : (zeroValue e).run P w = .ok u w)
   (hf : Instr.findNow (.int .i64) (.int .i64 z) es.toList 0 = some none) :
   (Instr.lookup t (.map (some b)) (.int .i64 z) true).run P w = .ok (.tuple #[u, .bool false]) w := by
 have hc : (Instr.checkKey es.isEmpty 10000 k (.int .i64 z)).run P w = .ok () w := MapKept.run_checkKey (n := 9999) hk (k := .int .i64 z) (by simp [MapKept.IsKey]) _
 have hq : (Instr.findKey k (.int .i64 z) es.toList).run P w = .ok none w := MapKept.run_findKey hk hf
 simp [Instr.lookup, run_underlying ht, MapKept.run_getObj_map hb, hc, hq, hz, Result.andThen]
end

def opsMap : Array MapEntry := #[⟨.int .i64 1, .func (.func 164) #[] #[], 0⟩, ⟨.int .i64 2, .func (.func 165) #[] #[], 1⟩, ⟨.int .i64 3, .func (.func 166) #[] #[], 2⟩, ⟨.int .i64 4, .func (.func 167) #[] #[], 3⟩,
 ⟨.int .i64 5, .func (.func 168) #[] #[], 4⟩, ⟨.int .i64 6, .func (.func 169) #[] #[], 5⟩, ⟨.int .i64 7, .func (.func 171) #[] #[], 6⟩, ⟨.int .i64 8, .func (.func 172) #[] #[], 7⟩]

theorem opsCall (W : World) : Calls Tryz.prog 159 #[] W fun e W' => ∃ b, e = .returned (.map (some b)) ∧ W'.heap[b]? = some (.map opsMap 8) ∧ Dn W W' := by
 have hmm := @run_makeMap Tryz.prog
 have i1 : (Instr.mapUpdate 147 (.map (some W.heap.size)) (.int .i64 1) (.func (.func 164) #[] #[])).run Tryz.prog (W.alloc (.map #[] 0)) = .ok () (W.alloc (.map #[⟨.int .i64 1, .func (.func 164) #[] #[], 0⟩] 1)) := run_ins Tryz.underlying147 Tryz.underlying3 #[] 0 1 _ rfl
 have i2 : (Instr.mapUpdate 147 (.map (some W.heap.size)) (.int .i64 2) (.func (.func 165) #[] #[])).run Tryz.prog (W.alloc (.map #[⟨.int .i64 1, .func (.func 164) #[] #[], 0⟩] 1)) = .ok () (W.alloc (.map #[⟨.int .i64 1, .func (.func 164) #[] #[], 0⟩, ⟨.int .i64 2, .func (.func 165) #[] #[], 1⟩] 2)) := run_ins Tryz.underlying147 Tryz.underlying3 #[⟨.int .i64 1, .func (.func 164) #[] #[], 0⟩] 1 2 _ rfl
 have i3 : (Instr.mapUpdate 147 (.map (some W.heap.size)) (.int .i64 3) (.func (.func 166) #[] #[])).run Tryz.prog (W.alloc (.map #[⟨.int .i64 1, .func (.func 164) #[] #[], 0⟩, ⟨.int .i64 2, .func (.func 165) #[] #[], 1⟩] 2)) = .ok () (W.alloc (.map #[⟨.int .i64 1, .func (.func 164) #[] #[], 0⟩, ⟨.int .i64 2, .func (.func 165) #[] #[], 1⟩, ⟨.int .i64 3, .func (.func 166) #[] #[], 2⟩] 3)) := run_ins Tryz.underlying147 Tryz.underlying3 #[⟨.int .i64 1, .func (.func 164) #[] #[], 0⟩, ⟨.int .i64 2, .func (.func 165) #[] #[], 1⟩] 2 3 _ rfl
 have i4 : (Instr.mapUpdate 147 (.map (some W.heap.size)) (.int .i64 4) (.func (.func 167) #[] #[])).run Tryz.prog (W.alloc (.map #[⟨.int .i64 1, .func (.func 164) #[] #[], 0⟩, ⟨.int .i64 2, .func (.func 165) #[] #[], 1⟩, ⟨.int .i64 3, .func (.func 166) #[] #[], 2⟩] 3)) = .ok () (W.alloc (.map #[⟨.int .i64 1, .func (.func 164) #[] #[], 0⟩, ⟨.int .i64 2, .func (.func 165) #[] #[], 1⟩, ⟨.int .i64 3, .func (.func 166) #[] #[], 2⟩, ⟨.int .i64 4, .func (.func 167) #[] #[], 3⟩] 4)) := run_ins Tryz.underlying147 Tryz.underlying3 #[⟨.int .i64 1, .func (.func 164) #[] #[], 0⟩, ⟨.int .i64 2, .func (.func 165) #[] #[], 1⟩, ⟨.int .i64 3, .func (.func 166) #[] #[], 2⟩] 3 4 _ rfl
 have i5 : (Instr.mapUpdate 147 (.map (some W.heap.size)) (.int .i64 5) (.func (.func 168) #[] #[])).run Tryz.prog (W.alloc (.map #[⟨.int .i64 1, .func (.func 164) #[] #[], 0⟩, ⟨.int .i64 2, .func (.func 165) #[] #[], 1⟩, ⟨.int .i64 3, .func (.func 166) #[] #[], 2⟩, ⟨.int .i64 4, .func (.func 167) #[] #[], 3⟩] 4)) = .ok () (W.alloc (.map #[⟨.int .i64 1, .func (.func 164) #[] #[], 0⟩, ⟨.int .i64 2, .func (.func 165) #[] #[], 1⟩, ⟨.int .i64 3, .func (.func 166) #[] #[], 2⟩, ⟨.int .i64 4, .func (.func 167) #[] #[], 3⟩, ⟨.int .i64 5, .func (.func 168) #[] #[], 4⟩] 5)) := run_ins Tryz.underlying147 Tryz.underlying3 #[⟨.int .i64 1, .func (.func 164) #[] #[], 0⟩, ⟨.int .i64 2, .func (.func 165) #[] #[], 1⟩, ⟨.int .i64 3, .func (.func 166) #[] #[], 2⟩, ⟨.int .i64 4, .func (.func 167) #[] #[], 3⟩] 4 5 _ rfl
 have i6 : (Instr.mapUpdate 147 (.map (some W.heap.size)) (.int .i64 6) (.func (.func 169) #[] #[])).run Tryz.prog (W.alloc (.map #[⟨.int .i64 1, .func (.func 164) #[] #[], 0⟩, ⟨.int .i64 2, .func (.func 165) #[] #[], 1⟩, ⟨.int .i64 3, .func (.func 166) #[] #[], 2⟩, ⟨.int .i64 4, .func (.func 167) #[] #[], 3⟩, ⟨.int .i64 5, .func (.func 168) #[] #[], 4⟩] 5)) = .ok () (W.alloc (.map #[⟨.int .i64 1, .func (.func 164) #[] #[], 0⟩, ⟨.int .i64 2, .func (.func 165) #[] #[], 1⟩, ⟨.int .i64 3, .func (.func 166) #[] #[], 2⟩, ⟨.int .i64 4, .func (.func 167) #[] #[], 3⟩, ⟨.int .i64 5, .func (.func 168) #[] #[], 4⟩, ⟨.int .i64 6, .func (.func 169) #[] #[], 5⟩] 6)) := run_ins Tryz.underlying147 Tryz.underlying3 #[⟨.int .i64 1, .func (.func 164) #[] #[], 0⟩, ⟨.int .i64 2, .func (.func 165) #[] #[], 1⟩, ⟨.int .i64 3, .func (.func 166) #[] #[], 2⟩, ⟨.int .i64 4, .func (.func 167) #[] #[], 3⟩, ⟨.int .i64 5, .func (.func 168) #[] #[], 4⟩] 5 6 _ rfl
 have i7 : (Instr.mapUpdate 147 (.map (some W.heap.size)) (.int .i64 7) (.func (.func 171) #[] #[])).run Tryz.prog (W.alloc (.map #[⟨.int .i64 1, .func (.func 164) #[] #[], 0⟩, ⟨.int .i64 2, .func (.func 165) #[] #[], 1⟩, ⟨.int .i64 3, .func (.func 166) #[] #[], 2⟩, ⟨.int .i64 4, .func (.func 167) #[] #[], 3⟩, ⟨.int .i64 5, .func (.func 168) #[] #[], 4⟩, ⟨.int .i64 6, .func (.func 169) #[] #[], 5⟩] 6)) = .ok () (W.alloc (.map #[⟨.int .i64 1, .func (.func 164) #[] #[], 0⟩, ⟨.int .i64 2, .func (.func 165) #[] #[], 1⟩, ⟨.int .i64 3, .func (.func 166) #[] #[], 2⟩, ⟨.int .i64 4, .func (.func 167) #[] #[], 3⟩, ⟨.int .i64 5, .func (.func 168) #[] #[], 4⟩, ⟨.int .i64 6, .func (.func 169) #[] #[], 5⟩, ⟨.int .i64 7, .func (.func 171) #[] #[], 6⟩] 7)) := run_ins Tryz.underlying147 Tryz.underlying3 #[⟨.int .i64 1, .func (.func 164) #[] #[], 0⟩, ⟨.int .i64 2, .func (.func 165) #[] #[], 1⟩, ⟨.int .i64 3, .func (.func 166) #[] #[], 2⟩, ⟨.int .i64 4, .func (.func 167) #[] #[], 3⟩, ⟨.int .i64 5, .func (.func 168) #[] #[], 4⟩, ⟨.int .i64 6, .func (.func 169) #[] #[], 5⟩] 6 7 _ rfl
 have i8 : (Instr.mapUpdate 147 (.map (some W.heap.size)) (.int .i64 8) (.func (.func 172) #[] #[])).run Tryz.prog (W.alloc (.map #[⟨.int .i64 1, .func (.func 164) #[] #[], 0⟩, ⟨.int .i64 2, .func (.func 165) #[] #[], 1⟩, ⟨.int .i64 3, .func (.func 166) #[] #[], 2⟩, ⟨.int .i64 4, .func (.func 167) #[] #[], 3⟩, ⟨.int .i64 5, .func (.func 168) #[] #[], 4⟩, ⟨.int .i64 6, .func (.func 169) #[] #[], 5⟩, ⟨.int .i64 7, .func (.func 171) #[] #[], 6⟩] 7)) = .ok () (W.alloc (.map #[⟨.int .i64 1, .func (.func 164) #[] #[], 0⟩, ⟨.int .i64 2, .func (.func 165) #[] #[], 1⟩, ⟨.int .i64 3, .func (.func 166) #[] #[], 2⟩, ⟨.int .i64 4, .func (.func 167) #[] #[], 3⟩, ⟨.int .i64 5, .func (.func 168) #[] #[], 4⟩, ⟨.int .i64 6, .func (.func 169) #[] #[], 5⟩, ⟨.int .i64 7, .func (.func 171) #[] #[], 6⟩, ⟨.int .i64 8, .func (.func 172) #[] #[], 7⟩] 8)) := run_ins Tryz.underlying147 Tryz.underlying3 #[⟨.int .i64 1, .func (.func 164) #[] #[], 0⟩, ⟨.int .i64 2, .func (.func 165) #[] #[], 1⟩, ⟨.int .i64 3, .func (.func 166) #[] #[], 2⟩, ⟨.int .i64 4, .func (.func 167) #[] #[], 3⟩, ⟨.int .i64 5, .func (.func 168) #[] #[], 4⟩, ⟨.int .i64 6, .func (.func 169) #[] #[], 5⟩, ⟨.int .i64 7, .func (.func 171) #[] #[], 6⟩] 7 8 _ rfl
 go_enter Tryz.func159, Tryz.ntmps159
 go_wp2
 go_ret
 exact ⟨W.heap.size, rfl, (MapKept.heap_alloc W _).1, (Dn.refl W).alloc _⟩

theorem look1 {w : World} {b : Nat} (h : w.heap[b]? = some (.map opsMap 8)) : (Instr.lookup 147 (.map (some b)) (.int .i64 1) true).run Tryz.prog w = .ok (.tuple #[.func (.func 164) #[] #[], .bool true]) w :=
 run_look_yes Tryz.underlying147 Tryz.underlying3 h rfl
theorem look2 {w : World} {b : Nat} (h : w.heap[b]? = some (.map opsMap 8)) : (Instr.lookup 147 (.map (some b)) (.int .i64 2) true).run Tryz.prog w = .ok (.tuple #[.func (.func 165) #[] #[], .bool true]) w :=
 run_look_yes Tryz.underlying147 Tryz.underlying3 h rfl
theorem look3 {w : World} {b : Nat} (h : w.heap[b]? = some (.map opsMap 8)) : (Instr.lookup 147 (.map (some b)) (.int .i64 3) true).run Tryz.prog w = .ok (.tuple #[.func (.func 166) #[] #[], .bool true]) w :=
 run_look_yes Tryz.underlying147 Tryz.underlying3 h rfl
theorem look4 {w : World} {b : Nat} (h : w.heap[b]? = some (.map opsMap 8)) : (Instr.lookup 147 (.map (some b)) (.int .i64 4) true).run Tryz.prog w = .ok (.tuple #[.func (.func 167) #[] #[], .bool true]) w :=
 run_look_yes Tryz.underlying147 Tryz.underlying3 h rfl
theorem look5 {w : World} {b : Nat} (h : w.heap[b]? = some (.map opsMap 8)) : (Instr.lookup 147 (.map (some b)) (.int .i64 5) true).run Tryz.prog w = .ok (.tuple #[.func (.func 168) #[] #[], .bool true]) w :=
 run_look_yes Tryz.underlying147 Tryz.underlying3 h rfl
theorem look6 {w : World} {b : Nat} (h : w.heap[b]? = some (.map opsMap 8)) : (Instr.lookup 147 (.map (some b)) (.int .i64 6) true).run Tryz.prog w = .ok (.tuple #[.func (.func 169) #[] #[], .bool true]) w :=
 run_look_yes Tryz.underlying147 Tryz.underlying3 h rfl
theorem look7 {w : World} {b : Nat} (h : w.heap[b]? = some (.map opsMap 8)) : (Instr.lookup 147 (.map (some b)) (.int .i64 7) true).run Tryz.prog w = .ok (.tuple #[.func (.func 171) #[] #[], .bool true]) w :=
 run_look_yes Tryz.underlying147 Tryz.underlying3 h rfl
theorem look8 {w : World} {b : Nat} (h : w.heap[b]? = some (.map opsMap 8)) : (Instr.lookup 147 (.map (some b)) (.int .i64 8) true).run Tryz.prog w = .ok (.tuple #[.func (.func 172) #[] #[], .bool true]) w :=
 run_look_yes Tryz.underlying147 Tryz.underlying3 h rfl
theorem look_no {w : World} {b : Nat} (h : w.heap[b]? = some (.map opsMap 8)) (op : Int) (hop : ¬ (1 ≤ op ∧ op ≤ 8)) : (Instr.lookup 147 (.map (some b)) (.int .i64 op) true).run Tryz.prog w = .ok (.tuple #[.nilFunc, .bool false]) w := by
 refine run_look_no Tryz.underlying147 Tryz.underlying3 h (by kernel_rfl) ?_
 have n1 : (op == 1) = false := by simp; omega
 have n2 : (op == 2) = false := by simp; omega
 have n3 : (op == 3) = false := by simp; omega
 have n4 : (op == 4) = false := by simp; omega
 have n5 : (op == 5) = false := by simp; omega
 have n6 : (op == 6) = false := by simp; omega
 have n7 : (op == 7) = false := by simp; omega
 have n8 : (op == 8) = false := by simp; omega
 simp only [opsMap, Instr.findNow, Instr.sameNow, n1, n2, n3, n4, n5, n6, n7, n8, if_true]

theorem eval1 (x y : Int) (W : World) (hx : M.U x) (hy : M.U y) : Calls Tryz.prog 142 #[.int .i64 1, .int .u32 x, .int .u32 y] W fun e W' => e = .returned (.int .u32 (M.ev 1 x y)) ∧ Dn W W' := by
 have C0 := Lib.hid (opsCall W)
 have C1 := Lib.hid (fun w => op1 x y w hx hy)
 generalize M.ev 1 x y = z at C1 ⊢
 clear hx hy
 go_enter Tryz.func142, Tryz.ntmps142
 go_wp2_with (first
   | (go_at_call 159; refine C0.out.mono ?_; rintro e w1 ⟨b, rfl, hb, d1⟩; have hl := look1 hb)
   | (go_at_call 164; refine (C1.out _).mono ?_; rintro e w2 ⟨rfl, d2⟩))
 go_ret
 exact ⟨rfl, d1.trans d2⟩
theorem eval2 (x y : Int) (W : World) (hx : M.U x) (hy : M.U y) : Calls Tryz.prog 142 #[.int .i64 2, .int .u32 x, .int .u32 y] W fun e W' => e = .returned (.int .u32 (M.ev 2 x y)) ∧ Dn W W' := by
 have C0 := Lib.hid (opsCall W)
 have C1 := Lib.hid (fun w => op2 x y w hx hy)
 generalize M.ev 2 x y = z at C1 ⊢
 clear hx hy
 go_enter Tryz.func142, Tryz.ntmps142
 go_wp2_with (first
   | (go_at_call 159; refine C0.out.mono ?_; rintro e w1 ⟨b, rfl, hb, d1⟩; have hl := look2 hb)
   | (go_at_call 165; refine (C1.out _).mono ?_; rintro e w2 ⟨rfl, d2⟩))
 go_ret
 exact ⟨rfl, d1.trans d2⟩
theorem eval3 (x y : Int) (W : World) (hx : M.U x) (hy : M.U y) : Calls Tryz.prog 142 #[.int .i64 3, .int .u32 x, .int .u32 y] W fun e W' => e = .returned (.int .u32 (M.ev 3 x y)) ∧ Dn W W' := by
 have C0 := Lib.hid (opsCall W)
 have C1 := Lib.hid (fun w => op3 x y w hx hy)
 generalize M.ev 3 x y = z at C1 ⊢
 clear hx hy
 go_enter Tryz.func142, Tryz.ntmps142
 go_wp2_with (first
   | (go_at_call 159; refine C0.out.mono ?_; rintro e w1 ⟨b, rfl, hb, d1⟩; have hl := look3 hb)
   | (go_at_call 166; refine (C1.out _).mono ?_; rintro e w2 ⟨rfl, d2⟩))
 go_ret
 exact ⟨rfl, d1.trans d2⟩
theorem eval4 (x y : Int) (W : World) (hx : M.U x) (hy : M.U y) : Calls Tryz.prog 142 #[.int .i64 4, .int .u32 x, .int .u32 y] W fun e W' => e = .returned (.int .u32 (M.ev 4 x y)) ∧ Dn W W' := by
 have C0 := Lib.hid (opsCall W)
 have C1 := Lib.hid (fun w => op4 x y w hx hy)
 generalize M.ev 4 x y = z at C1 ⊢
 clear hx hy
 go_enter Tryz.func142, Tryz.ntmps142
 go_wp2_with (first
   | (go_at_call 159; refine C0.out.mono ?_; rintro e w1 ⟨b, rfl, hb, d1⟩; have hl := look4 hb)
   | (go_at_call 167; refine (C1.out _).mono ?_; rintro e w2 ⟨rfl, d2⟩))
 go_ret
 exact ⟨rfl, d1.trans d2⟩
theorem eval5 (x y : Int) (W : World) (hx : M.U x) (hy : M.U y) : Calls Tryz.prog 142 #[.int .i64 5, .int .u32 x, .int .u32 y] W fun e W' => e = .returned (.int .u32 (M.ev 5 x y)) ∧ Dn W W' := by
 have C0 := Lib.hid (opsCall W)
 have C1 := Lib.hid (fun w => op5 x y w hx hy)
 generalize M.ev 5 x y = z at C1 ⊢
 clear hx hy
 go_enter Tryz.func142, Tryz.ntmps142
 go_wp2_with (first
   | (go_at_call 159; refine C0.out.mono ?_; rintro e w1 ⟨b, rfl, hb, d1⟩; have hl := look5 hb)
   | (go_at_call 168; refine (C1.out _).mono ?_; rintro e w2 ⟨rfl, d2⟩))
 go_ret
 exact ⟨rfl, d1.trans d2⟩
theorem eval6 (x y : Int) (W : World) (hx : M.U x) (hy : M.U y) : Calls Tryz.prog 142 #[.int .i64 6, .int .u32 x, .int .u32 y] W fun e W' => e = .returned (.int .u32 (M.ev 6 x y)) ∧ Dn W W' := by
 have C0 := Lib.hid (opsCall W)
 have C1 := Lib.hid (fun w => op6 x y w hx hy)
 generalize M.ev 6 x y = z at C1 ⊢
 clear hx hy
 go_enter Tryz.func142, Tryz.ntmps142
 go_wp2_with (first
   | (go_at_call 159; refine C0.out.mono ?_; rintro e w1 ⟨b, rfl, hb, d1⟩; have hl := look6 hb)
   | (go_at_call 169; refine (C1.out _).mono ?_; rintro e w2 ⟨rfl, d2⟩))
 go_ret
 exact ⟨rfl, d1.trans d2⟩
theorem eval7 (x y : Int) (W : World) (hx : M.U x) (hy : M.U y) : Calls Tryz.prog 142 #[.int .i64 7, .int .u32 x, .int .u32 y] W fun e W' => e = .returned (.int .u32 (M.ev 7 x y)) ∧ Dn W W' := by
 have C0 := Lib.hid (opsCall W)
 have C1 := Lib.hid (fun w => op7 x y w hx hy)
 generalize M.ev 7 x y = z at C1 ⊢
 clear hx hy
 go_enter Tryz.func142, Tryz.ntmps142
 go_wp2_with (first
   | (go_at_call 159; refine C0.out.mono ?_; rintro e w1 ⟨b, rfl, hb, d1⟩; have hl := look7 hb)
   | (go_at_call 171; refine (C1.out _).mono ?_; rintro e w2 ⟨rfl, d2⟩))
 go_ret
 exact ⟨rfl, d1.trans d2⟩
theorem eval8 (x y : Int) (W : World) (hx : M.U x) (hy : M.U y) : Calls Tryz.prog 142 #[.int .i64 8, .int .u32 x, .int .u32 y] W fun e W' => e = .returned (.int .u32 (M.ev 8 x y)) ∧ Dn W W' := by
 have C0 := Lib.hid (opsCall W)
 have C1 := Lib.hid (fun w => op8 x y w hx hy)
 generalize M.ev 8 x y = z at C1 ⊢
 clear hx hy
 go_enter Tryz.func142, Tryz.ntmps142
 go_wp2_with (first
   | (go_at_call 159; refine C0.out.mono ?_; rintro e w1 ⟨b, rfl, hb, d1⟩; have hl := look8 hb)
   | (go_at_call 172; refine (C1.out _).mono ?_; rintro e w2 ⟨rfl, d2⟩))
 go_ret
 exact ⟨rfl, d1.trans d2⟩
theorem eval_no (op x y : Int) (W : World) (h : ¬ (1 ≤ op ∧ op ≤ 8)) : Calls Tryz.prog 142 #[.int .i64 op, .int .u32 x, .int .u32 y] W fun e W' => e = .returned (.int .u32 (M.ev op x y)) ∧ Dn W W' := by
 have C0 := Lib.hid (opsCall W)
 rw [M.ev_no op x y h]
 have H := Lib.hid h
 clear h
 go_enter Tryz.func142, Tryz.ntmps142
 go_wp2_with (first
   | (go_at_call 159; refine C0.out.mono ?_; rintro e w1 ⟨b, rfl, hb, d1⟩; have hl := look_no hb op H.out))
 go_ret
 exact ⟨rfl, d1⟩

theorem eval (op x y : Int) (W : World) (hx : M.U x) (hy : M.U y) : Calls Tryz.prog 142 #[.int .i64 op, .int .u32 x, .int .u32 y] W fun e W' => e = .returned (.int .u32 (M.ev op x y)) ∧ Dn W W' := by
 by_cases h : 1 ≤ op ∧ op ≤ 8
 · have : op = 1 ∨ op = 2 ∨ op = 3 ∨ op = 4 ∨ op = 5 ∨ op = 6 ∨ op = 7 ∨ op = 8 := by omega
   rcases this with rfl | rfl | rfl | rfl | rfl | rfl | rfl | rfl
   · exact eval1 x y W hx hy
   · exact eval2 x y W hx hy
   · exact eval3 x y W hx hy
   · exact eval4 x y W hx hy
   · exact eval5 x y W hx hy
   · exact eval6 x y W hx hy
   · exact eval7 x y W hx hy
   · exact eval8 x y W hx hy
 · exact eval_no op x y W h

theorem branch (op x y : Int) (W : World) (hx : M.U x) (hy : M.U y) : Calls Tryz.prog 147 #[.int .i64 op, .int .u32 x, .int .u32 y] W fun e W' => e = .returned (.bool (M.tk op x y)) ∧ Dn W W' := by
 have C := Lib.hid (less x y W hx hy)
 clear hx hy
 by_cases h15 : op = 15
 · subst h15
   have HE : Hid (M.tk 15 x y = (x == y)) := Lib.hid (by unfold M.tk; by_cases e : x = y <;> simp [e])
   go_enter Tryz.func147, Tryz.ntmps147
   go_wp2
   go_ret
   exact ⟨ret_bool HE.out.symm, Dn.refl W⟩
 by_cases h16 : op = 16
 · subst h16
   have HE : Hid (M.tk 16 x y = !(x == y)) := Lib.hid (by unfold M.tk; by_cases e : x = y <;> simp [e])
   go_enter Tryz.func147, Tryz.ntmps147
   go_wp2
   go_ret
   exact ⟨ret_bool HE.out.symm, Dn.refl W⟩
 by_cases h17 : op = 17
 · subst h17
   have HE : Hid (M.tk 17 x y = M.lt x y) := Lib.hid (by unfold M.tk; simp)
   go_enter Tryz.func147, Tryz.ntmps147
   go_wp2_with (go_at_call 162; refine C.out.mono ?_; rintro e w1 ⟨rfl, d1⟩)
   go_ret
   exact ⟨ret_bool HE.out.symm, d1⟩
 · have HE : Hid (M.tk op x y = false) := Lib.hid (by unfold M.tk; simp [h15, h16, h17])
   have n1 : (op == 15) = false := by simp; exact h15
   have n2 : (op == 16) = false := by simp; exact h16
   have n3 : (op == 17) = false := by simp; exact h17
   clear h15 h16 h17
   go_enter Tryz.func147, Tryz.ntmps147
   go_wp2
   go_ret
   exact ⟨ret_bool HE.out.symm, Dn.refl W⟩

theorem pow_step (k : Nat) (hk : k < 32) : IntKind.u64.wrap ((2 : Int) ^ k * 2) = 2 ^ (k + 1) := by
 rw [IntKind.wrap_u64, Int.pow_succ]
 have h : (2 : Nat) ^ k ≤ 2 ^ 32 := Nat.pow_le_pow_right (by decide) (by omega)
 have h2 : ((2 ^ k : Nat) : Int) = (2 : Int) ^ k := M.cast_pow k
 have h3 := Nat.two_pow_pos k
 omega

set_option maxHeartbeats 400000 in
theorem pow (n : Int) (W : World) (hn0 : 0 ≤ n) (hn : n ≤ 32) :
   Calls Tryz.prog 59 #[.int .i64 n] W fun e W' => e = .returned (.int .u64 (2 ^ n.toNat)) ∧ W = W' := by
 go_enter Tryz.func59, Tryz.ntmps59
 go_wp2
 go_loop [3, 4] (fun p i => ∃ k : Nat, k ≤ n.toNat ∧ i = .int .i64 k ∧ p = .int .u64 (2 ^ k)) (fun _ i => n.toNat - (intOf i).toNat)
 case atStart => exact ⟨0, by omega, rfl, rfl⟩
 case round =>
   obtain ⟨k, hk, rfl, rfl⟩ := hrel
   by_cases hlt : (k : Int) < n
   · have HS := Lib.hid (pow_step k (by omega))
     go_wp2
     go_round
     case rel => exact ⟨k + 1, by omega, by go_num, by rw [HS.out]⟩
     case measure => simp [intOf]; omega
   · obtain rfl : n = k := by omega
     go_wp2
     go_ret
     exact ⟨rfl, rfl⟩

theorem pow_q (n : Int) (W : World) (hn0 : 0 ≤ n) (hn : n ≤ 32) :
   Calls Tryz.prog 59 #[.int .i64 n] W fun e W' => e = .returned (.int .u64 (2 ^ n.toNat)) ∧ W' = W :=
 (pow n W hn0 hn).mono fun _ _ ⟨he, hw⟩ => ⟨he, hw.symm⟩

theorem field_eq (x : Int) (k : Nat) (hx : M.U x) :
   (IntKind.u64.wrap (x.tdiv (2 ^ ((k : Int)).toNat))).tmod (2 ^ (1 : Int).toNat) % 4294967296 = M.one (x.toNat.testBit k) := by
 obtain ⟨x0, x1⟩ := hx
 obtain ⟨n, rfl⟩ := Int.eq_ofNat_of_zero_le x0
 have h1 : 0 ≤ (n : Int) / 2 ^ k := Int.ediv_nonneg x0 (Int.le_of_lt (M.pow_pos k))
 have h2 : (n : Int) / 2 ^ k < 4294967296 := Int.lt_of_le_of_lt (Int.ediv_le_self _ x0) x1
 have e1 : (n : Int) / 2 ^ k = ((n / 2 ^ k : Nat) : Int) := by rw [Int.natCast_ediv, M.cast_pow]
 have e2 : (2 : Int) ^ (1 : Int).toNat = 2 := rfl
 rw [e2, Int.toNat_natCast, Int.tdiv_eq_ediv_of_nonneg x0, IntKind.wrap_u64, Int.emod_eq_of_lt h1 (by omega), Int.tmod_eq_emod_of_nonneg h1, e1, Int.toNat_natCast]
 have e3 : n.testBit k = decide (n / 2 ^ k % 2 = 1) := Nat.testBit_eq_decide_div_mod_eq
 rw [e3]
 generalize n / 2 ^ k = q
 unfold M.one
 by_cases h : q % 2 = 1
 · rw [decide_eq_true h, if_pos rfl]; omega
 · rw [decide_eq_false h, if_neg (by decide)]; omega

set_option maxHeartbeats 400000 in
theorem fieldI (x a n : Int) (W : World) (hx : M.U x) (ha0 : 0 ≤ a) (ha : a ≤ 32) (hn0 : 0 ≤ n) (hn : n ≤ 32) :
   Calls Tryz.prog 37 #[.int .u32 x, .int .i64 a, .int .i64 n] W fun e W' => e = .returned (.int .u32 ((IntKind.u64.wrap (x.tdiv (2 ^ a.toNat))).tmod (2 ^ n.toNat) % 4294967296)) ∧ Dn W W' := by
 have p1 : (2 : Int) ^ a.toNat ≠ 0 := by have := M.pow_pos a.toNat; omega
 have p2 : (2 : Int) ^ n.toNat ≠ 0 := by have := M.pow_pos n.toNat; omega
 obtain ⟨x0, x1⟩ := hx
 go_enter Tryz.func37, Tryz.ntmps37
 go_wp2
 go_quiet ((go_at_call 59; exact Calls.quiet_of_same (pow_q _ _ (by omega) (by omega))))
 go_wp2
 go_ret
 exact ⟨rfl, (Dn.refl W).drewN nq⟩
theorem field (x : Int) (k : Nat) (W : World) (hx : M.U x) (hk : k < 32) :
   Calls Tryz.prog 37 #[.int .u32 x, .int .i64 k, .int .i64 1] W fun e W' => e = .returned (.int .u32 (M.one (x.toNat.testBit k))) ∧ Dn W W' := by
 rw [← field_eq x k hx]
 exact fieldI x k 1 W hx (by omega) (by omega) (by omega) (by omega)
theorem field_is (x : Int) (k : Nat) (r : Int) (b : Bool) (W : World) (hx : M.U x) (hk : k < 32) (hb : x.toNat.testBit k = b) (hr : M.one b = r) :
   Calls Tryz.prog 37 #[.int .u32 x, .int .i64 k, .int .i64 1] W fun e W' => e = .returned (.int .u32 r) ∧ Dn W W' := by
 subst hr; subst hb; exact field x k W hx hk

theorem signed (x : Int) (W : World) (hx : M.U x) :
   Calls Tryz.prog 77 #[.int .u32 x] W fun e W' => e = .returned (.int .i64 (M.sg x)) ∧ W = W' := by
 obtain ⟨x0, x1⟩ := hx
 by_cases h : 2147483648 ≤ x
 · have HE : Hid (M.sg x = x - 4294967296) := Lib.hid (by unfold M.sg; rw [if_neg (by omega)])
   go_enter Tryz.func77, Tryz.ntmps77
   go_wp2
   go_ret
   exact ⟨ret_int (by rw [HE.out]), rfl⟩
 · have HE : Hid (M.sg x = x) := Lib.hid (by unfold M.sg; rw [if_pos (by omega)])
   go_enter Tryz.func77, Tryz.ntmps77
   go_wp2
   go_ret
   exact ⟨ret_int (by rw [HE.out]), rfl⟩

theorem more (z k : Nat) (hk : k < 32) : (z.testBit k = true → IntKind.u64.wrap ((z : Int) % 2 ^ k + 2 ^ k) = (z : Int) % 2 ^ (k + 1)) ∧ (z.testBit k = false → (z : Int) % 2 ^ k = (z : Int) % 2 ^ (k + 1)) := by
 have h0 : z % 2 ^ (k + 1) = z % 2 ^ k + (z / 2 ^ k % 2) * 2 ^ k := by rw [Nat.pow_succ, Nat.mod_mul, Nat.mul_comm]
 have e1 : (z : Int) % 2 ^ (k + 1) = ((z % 2 ^ (k + 1) : Nat) : Int) := by rw [Int.natCast_emod, M.cast_pow]
 have e2 : (z : Int) % 2 ^ k = ((z % 2 ^ k : Nat) : Int) := by rw [Int.natCast_emod, M.cast_pow]
 have e3 : z.testBit k = decide (z / 2 ^ k % 2 = 1) := Nat.testBit_eq_decide_div_mod_eq
 have h2 : ((2 ^ k : Nat) : Int) = (2 : Int) ^ k := M.cast_pow k
 have h : (2 : Nat) ^ k ≤ 2 ^ 32 := Nat.pow_le_pow_right (by decide) (by omega)
 have h3 : z % 2 ^ k < 2 ^ k := Nat.mod_lt _ (Nat.two_pow_pos k)
 rw [e1, e2, h0, e3, ← h2, IntKind.wrap_u64]
 generalize z % 2 ^ k = r at *
 generalize (2 : Nat) ^ k = p at *
 constructor
 · intro hb
   rw [of_decide_eq_true hb]
   omega
 · intro hb
   have : z / p % 2 = 0 := by have := of_decide_eq_false hb; omega
   rw [this]
   simp

def BitRel (W : World) (z : Nat) (o i : Value) (w : World) : Prop := ∃ k : Nat, k ≤ 32 ∧ i = .int .i64 k ∧ o = .int .u64 ((z : Int) % 2 ^ k) ∧ Dn W w

set_option maxHeartbeats 1000000 in
theorem bitwise3 (x y : Int) (W : World) (hx : M.U x) (hy : M.U y) :
   Calls Tryz.prog 76 #[.int .i64 3, .int .u32 x, .int .u32 y] W fun e W' => e = .returned (.int .u32 (M.ev 3 x y)) ∧ Dn W W' := by
 have hz := hx.ev (op := 3) hy
 rw [M.ev3] at hz ⊢
 have HB : Hid (∀ k, (x.toNat &&& y.toNat).testBit k = (x.toNat.testBit k && y.toNat.testBit k)) := Lib.hid fun k => by rw [Nat.testBit_and]
 obtain ⟨z, ez⟩ : ∃ z, z = x.toNat &&& y.toNat := ⟨_, rfl⟩
 rw [← ez] at hz HB ⊢
 clear ez
 obtain ⟨z0, z1⟩ := hz
 have HX := Lib.hid hx
 have HY := Lib.hid hy
 clear hx hy
 go_enter Tryz.func76, Tryz.ntmps76
 go_wp2
 go_loopw [7, 8] (fun o i w => BitRel W z o i w) (fun _ i _ => 32 - (intOf i).toNat)
 case atStart => exact ⟨0, by omega, rfl, by simp, Dn.refl W⟩
 case round =>
   obtain ⟨k, hk, rfl, rfl, D⟩ := hrel
   by_cases hlt : k < 32
   · have hlt2 : (k : Int) < 32 := by omega
     have hbk := HB.out k
     have HM := Lib.hid (more z k hlt)
     cases ha : x.toNat.testBit k <;> cases hb : y.toNat.testBit k
     · have C1 := Lib.hid (fun w => field_is x k 0 false w HX.out hlt ha rfl)
       have C2 := Lib.hid (fun w => field_is y k 0 false w HY.out hlt hb rfl)
       rw [ha, hb] at hbk
       have HS := Lib.hid (HM.out.2 hbk)
       clear ha hb hbk HM
       go_wp2_with (first
         | (go_at_call 37; (first | (with_reducible refine (C1.out _).mono ?_) | (with_reducible refine (C2.out _).mono ?_)); rintro e w' ⟨rfl, d'⟩; replace D := D.trans d'; clear d')
         | (go_at_call 59; refine (pow _ _ (by omega) (by omega)).mono ?_; rintro e w' ⟨rfl, rfl⟩))
       go_roundw
       case rel => exact ⟨k + 1, by omega, by go_num, by first | rw [← HS.out, Int.toNat_natCast] | rw [← HS.out], D⟩
       case measure => simp [intOf]; omega
     · have C1 := Lib.hid (fun w => field_is x k 0 false w HX.out hlt ha rfl)
       have C2 := Lib.hid (fun w => field_is y k 1 true w HY.out hlt hb rfl)
       rw [ha, hb] at hbk
       have HS := Lib.hid (HM.out.2 hbk)
       clear ha hb hbk HM
       go_wp2_with (first
         | (go_at_call 37; (first | (with_reducible refine (C1.out _).mono ?_) | (with_reducible refine (C2.out _).mono ?_)); rintro e w' ⟨rfl, d'⟩; replace D := D.trans d'; clear d')
         | (go_at_call 59; refine (pow _ _ (by omega) (by omega)).mono ?_; rintro e w' ⟨rfl, rfl⟩))
       go_roundw
       case rel => exact ⟨k + 1, by omega, by go_num, by first | rw [← HS.out, Int.toNat_natCast] | rw [← HS.out], D⟩
       case measure => simp [intOf]; omega
     · have C1 := Lib.hid (fun w => field_is x k 1 true w HX.out hlt ha rfl)
       have C2 := Lib.hid (fun w => field_is y k 0 false w HY.out hlt hb rfl)
       rw [ha, hb] at hbk
       have HS := Lib.hid (HM.out.2 hbk)
       clear ha hb hbk HM
       go_wp2_with (first
         | (go_at_call 37; (first | (with_reducible refine (C1.out _).mono ?_) | (with_reducible refine (C2.out _).mono ?_)); rintro e w' ⟨rfl, d'⟩; replace D := D.trans d'; clear d')
         | (go_at_call 59; refine (pow _ _ (by omega) (by omega)).mono ?_; rintro e w' ⟨rfl, rfl⟩))
       go_roundw
       case rel => exact ⟨k + 1, by omega, by go_num, by first | rw [← HS.out, Int.toNat_natCast] | rw [← HS.out], D⟩
       case measure => simp [intOf]; omega
     · have C1 := Lib.hid (fun w => field_is x k 1 true w HX.out hlt ha rfl)
       have C2 := Lib.hid (fun w => field_is y k 1 true w HY.out hlt hb rfl)
       rw [ha, hb] at hbk
       have HS := Lib.hid (HM.out.1 hbk)
       clear ha hb hbk HM
       go_wp2_with (first
         | (go_at_call 37; (first | (with_reducible refine (C1.out _).mono ?_) | (with_reducible refine (C2.out _).mono ?_)); rintro e w' ⟨rfl, d'⟩; replace D := D.trans d'; clear d')
         | (go_at_call 59; refine (pow _ _ (by omega) (by omega)).mono ?_; rintro e w' ⟨rfl, rfl⟩))
       go_roundw
       case rel => exact ⟨k + 1, by omega, by go_num, by first | rw [← HS.out, Int.toNat_natCast] | rw [← HS.out], D⟩
       case measure => simp [intOf]; omega
   · obtain rfl : k = 32 := by omega
     go_wp2
     go_ret
     exact ⟨ret_int (by omega), D⟩

set_option maxHeartbeats 1000000 in
theorem bitwise4 (x y : Int) (W : World) (hx : M.U x) (hy : M.U y) :
   Calls Tryz.prog 76 #[.int .i64 4, .int .u32 x, .int .u32 y] W fun e W' => e = .returned (.int .u32 (M.ev 4 x y)) ∧ Dn W W' := by
 have hz := hx.ev (op := 4) hy
 rw [M.ev4] at hz ⊢
 have HB : Hid (∀ k, (x.toNat ||| y.toNat).testBit k = (x.toNat.testBit k || y.toNat.testBit k)) := Lib.hid fun k => by rw [Nat.testBit_or]
 obtain ⟨z, ez⟩ : ∃ z, z = x.toNat ||| y.toNat := ⟨_, rfl⟩
 rw [← ez] at hz HB ⊢
 clear ez
 obtain ⟨z0, z1⟩ := hz
 have HX := Lib.hid hx
 have HY := Lib.hid hy
 clear hx hy
 go_enter Tryz.func76, Tryz.ntmps76
 go_wp2
 go_loopw [7, 8] (fun o i w => BitRel W z o i w) (fun _ i _ => 32 - (intOf i).toNat)
 case atStart => exact ⟨0, by omega, rfl, by simp, Dn.refl W⟩
 case round =>
   obtain ⟨k, hk, rfl, rfl, D⟩ := hrel
   by_cases hlt : k < 32
   · have hlt2 : (k : Int) < 32 := by omega
     have hbk := HB.out k
     have HM := Lib.hid (more z k hlt)
     cases ha : x.toNat.testBit k <;> cases hb : y.toNat.testBit k
     · have C1 := Lib.hid (fun w => field_is x k 0 false w HX.out hlt ha rfl)
       have C2 := Lib.hid (fun w => field_is y k 0 false w HY.out hlt hb rfl)
       rw [ha, hb] at hbk
       have HS := Lib.hid (HM.out.2 hbk)
       clear ha hb hbk HM
       go_wp2_with (first
         | (go_at_call 37; (first | (with_reducible refine (C1.out _).mono ?_) | (with_reducible refine (C2.out _).mono ?_)); rintro e w' ⟨rfl, d'⟩; replace D := D.trans d'; clear d')
         | (go_at_call 59; refine (pow _ _ (by omega) (by omega)).mono ?_; rintro e w' ⟨rfl, rfl⟩))
       go_roundw
       case rel => exact ⟨k + 1, by omega, by go_num, by first | rw [← HS.out, Int.toNat_natCast] | rw [← HS.out], D⟩
       case measure => simp [intOf]; omega
     · have C1 := Lib.hid (fun w => field_is x k 0 false w HX.out hlt ha rfl)
       have C2 := Lib.hid (fun w => field_is y k 1 true w HY.out hlt hb rfl)
       rw [ha, hb] at hbk
       have HS := Lib.hid (HM.out.1 hbk)
       clear ha hb hbk HM
       go_wp2_with (first
         | (go_at_call 37; (first | (with_reducible refine (C1.out _).mono ?_) | (with_reducible refine (C2.out _).mono ?_)); rintro e w' ⟨rfl, d'⟩; replace D := D.trans d'; clear d')
         | (go_at_call 59; refine (pow _ _ (by omega) (by omega)).mono ?_; rintro e w' ⟨rfl, rfl⟩))
       go_roundw
       case rel => exact ⟨k + 1, by omega, by go_num, by first | rw [← HS.out, Int.toNat_natCast] | rw [← HS.out], D⟩
       case measure => simp [intOf]; omega
     · have C1 := Lib.hid (fun w => field_is x k 1 true w HX.out hlt ha rfl)
       have C2 := Lib.hid (fun w => field_is y k 0 false w HY.out hlt hb rfl)
       rw [ha, hb] at hbk
       have HS := Lib.hid (HM.out.1 hbk)
       clear ha hb hbk HM
       go_wp2_with (first
         | (go_at_call 37; (first | (with_reducible refine (C1.out _).mono ?_) | (with_reducible refine (C2.out _).mono ?_)); rintro e w' ⟨rfl, d'⟩; replace D := D.trans d'; clear d')
         | (go_at_call 59; refine (pow _ _ (by omega) (by omega)).mono ?_; rintro e w' ⟨rfl, rfl⟩))
       go_roundw
       case rel => exact ⟨k + 1, by omega, by go_num, by first | rw [← HS.out, Int.toNat_natCast] | rw [← HS.out], D⟩
       case measure => simp [intOf]; omega
     · have C1 := Lib.hid (fun w => field_is x k 1 true w HX.out hlt ha rfl)
       have C2 := Lib.hid (fun w => field_is y k 1 true w HY.out hlt hb rfl)
       rw [ha, hb] at hbk
       have HS := Lib.hid (HM.out.1 hbk)
       clear ha hb hbk HM
       go_wp2_with (first
         | (go_at_call 37; (first | (with_reducible refine (C1.out _).mono ?_) | (with_reducible refine (C2.out _).mono ?_)); rintro e w' ⟨rfl, d'⟩; replace D := D.trans d'; clear d')
         | (go_at_call 59; refine (pow _ _ (by omega) (by omega)).mono ?_; rintro e w' ⟨rfl, rfl⟩))
       go_roundw
       case rel => exact ⟨k + 1, by omega, by go_num, by first | rw [← HS.out, Int.toNat_natCast] | rw [← HS.out], D⟩
       case measure => simp [intOf]; omega
   · obtain rfl : k = 32 := by omega
     go_wp2
     go_ret
     exact ⟨ret_int (by omega), D⟩

set_option maxHeartbeats 1000000 in
theorem bitwise5 (x y : Int) (W : World) (hx : M.U x) (hy : M.U y) :
   Calls Tryz.prog 76 #[.int .i64 5, .int .u32 x, .int .u32 y] W fun e W' => e = .returned (.int .u32 (M.ev 5 x y)) ∧ Dn W W' := by
 have hz := hx.ev (op := 5) hy
 rw [M.ev5] at hz ⊢
 have HB : Hid (∀ k, (x.toNat ^^^ y.toNat).testBit k = (x.toNat.testBit k ^^ y.toNat.testBit k)) := Lib.hid fun k => by rw [Nat.testBit_xor]
 obtain ⟨z, ez⟩ : ∃ z, z = x.toNat ^^^ y.toNat := ⟨_, rfl⟩
 rw [← ez] at hz HB ⊢
 clear ez
 obtain ⟨z0, z1⟩ := hz
 have HX := Lib.hid hx
 have HY := Lib.hid hy
 clear hx hy
 go_enter Tryz.func76, Tryz.ntmps76
 go_wp2
 go_loopw [7, 8] (fun o i w => BitRel W z o i w) (fun _ i _ => 32 - (intOf i).toNat)
 case atStart => exact ⟨0, by omega, rfl, by simp, Dn.refl W⟩
 case round =>
   obtain ⟨k, hk, rfl, rfl, D⟩ := hrel
   by_cases hlt : k < 32
   · have hlt2 : (k : Int) < 32 := by omega
     have hbk := HB.out k
     have HM := Lib.hid (more z k hlt)
     cases ha : x.toNat.testBit k <;> cases hb : y.toNat.testBit k
     · have C1 := Lib.hid (fun w => field_is x k 0 false w HX.out hlt ha rfl)
       have C2 := Lib.hid (fun w => field_is y k 0 false w HY.out hlt hb rfl)
       rw [ha, hb] at hbk
       have HS := Lib.hid (HM.out.2 hbk)
       clear ha hb hbk HM
       go_wp2_with (first
         | (go_at_call 37; (first | (with_reducible refine (C1.out _).mono ?_) | (with_reducible refine (C2.out _).mono ?_)); rintro e w' ⟨rfl, d'⟩; replace D := D.trans d'; clear d')
         | (go_at_call 59; refine (pow _ _ (by omega) (by omega)).mono ?_; rintro e w' ⟨rfl, rfl⟩))
       go_roundw
       case rel => exact ⟨k + 1, by omega, by go_num, by first | rw [← HS.out, Int.toNat_natCast] | rw [← HS.out], D⟩
       case measure => simp [intOf]; omega
     · have C1 := Lib.hid (fun w => field_is x k 0 false w HX.out hlt ha rfl)
       have C2 := Lib.hid (fun w => field_is y k 1 true w HY.out hlt hb rfl)
       rw [ha, hb] at hbk
       have HS := Lib.hid (HM.out.1 hbk)
       clear ha hb hbk HM
       go_wp2_with (first
         | (go_at_call 37; (first | (with_reducible refine (C1.out _).mono ?_) | (with_reducible refine (C2.out _).mono ?_)); rintro e w' ⟨rfl, d'⟩; replace D := D.trans d'; clear d')
         | (go_at_call 59; refine (pow _ _ (by omega) (by omega)).mono ?_; rintro e w' ⟨rfl, rfl⟩))
       go_roundw
       case rel => exact ⟨k + 1, by omega, by go_num, by first | rw [← HS.out, Int.toNat_natCast] | rw [← HS.out], D⟩
       case measure => simp [intOf]; omega
     · have C1 := Lib.hid (fun w => field_is x k 1 true w HX.out hlt ha rfl)
       have C2 := Lib.hid (fun w => field_is y k 0 false w HY.out hlt hb rfl)
       rw [ha, hb] at hbk
       have HS := Lib.hid (HM.out.1 hbk)
       clear ha hb hbk HM
       go_wp2_with (first
         | (go_at_call 37; (first | (with_reducible refine (C1.out _).mono ?_) | (with_reducible refine (C2.out _).mono ?_)); rintro e w' ⟨rfl, d'⟩; replace D := D.trans d'; clear d')
         | (go_at_call 59; refine (pow _ _ (by omega) (by omega)).mono ?_; rintro e w' ⟨rfl, rfl⟩))
       go_roundw
       case rel => exact ⟨k + 1, by omega, by go_num, by first | rw [← HS.out, Int.toNat_natCast] | rw [← HS.out], D⟩
       case measure => simp [intOf]; omega
     · have C1 := Lib.hid (fun w => field_is x k 1 true w HX.out hlt ha rfl)
       have C2 := Lib.hid (fun w => field_is y k 1 true w HY.out hlt hb rfl)
       rw [ha, hb] at hbk
       have HS := Lib.hid (HM.out.2 hbk)
       clear ha hb hbk HM
       go_wp2_with (first
         | (go_at_call 37; (first | (with_reducible refine (C1.out _).mono ?_) | (with_reducible refine (C2.out _).mono ?_)); rintro e w' ⟨rfl, d'⟩; replace D := D.trans d'; clear d')
         | (go_at_call 59; refine (pow _ _ (by omega) (by omega)).mono ?_; rintro e w' ⟨rfl, rfl⟩))
       go_roundw
       case rel => exact ⟨k + 1, by omega, by go_num, by first | rw [← HS.out, Int.toNat_natCast] | rw [← HS.out], D⟩
       case measure => simp [intOf]; omega
   · obtain rfl : k = 32 := by omega
     go_wp2
     go_ret
     exact ⟨ret_int (by omega), D⟩


theorem mul_eq (x : Int) (s : Nat) (x0 : 0 ≤ x) (x1 : x < 4294967296) (hs : s < 32) : (IntKind.u64.wrap (x * 2 ^ s)).tmod 4294967296 % 4294967296 = x * 2 ^ s % 4294967296 := by
 have h : (2 : Nat) ^ s ≤ 2 ^ 31 := Nat.pow_le_pow_right (by decide) (by omega)
 have h2 : ((2 ^ s : Nat) : Int) = (2 : Int) ^ s := M.cast_pow s
 have h3 : (2 : Int) ^ s ≤ 2147483648 := by omega
 have h4 := M.pow_pos s
 have h5 : x * 2 ^ s ≤ 4294967295 * 2147483648 := Int.mul_le_mul (by omega) h3 (by omega) (by omega)
 have h6 : 0 ≤ x * 2 ^ s := Int.mul_nonneg x0 (by omega)
 rw [IntKind.wrap_u64, Int.tmod_eq_emod_of_nonneg (Int.emod_nonneg _ (by decide))]
 omega
theorem div_eq (x : Int) (s : Nat) (x0 : 0 ≤ x) (x1 : x < 4294967296) : IntKind.u64.wrap (x.tdiv (2 ^ s)) % 4294967296 = x / 2 ^ s := by
 have h1 : 0 ≤ x / 2 ^ s := Int.ediv_nonneg x0 (Int.le_of_lt (M.pow_pos s))
 have h2 : x / 2 ^ s < 4294967296 := Int.lt_of_le_of_lt (Int.ediv_le_self _ x0) x1
 rw [Int.tdiv_eq_ediv_of_nonneg x0, IntKind.wrap_u64]
 omega

set_option maxHeartbeats 400000 in
theorem do1 (x y : Int) (W : World) (hx : M.U x) (hy : M.U y) :
   Calls Tryz.prog 56 #[.int .i64 1, .int .u32 x, .int .u32 y] W fun e W' => e = .returned (.int .u32 (M.ev 1 x y)) ∧ Dn W W' := by
 obtain ⟨x0, x1⟩ := hx
 obtain ⟨y0, y1⟩ := hy
 go_enter Tryz.func56, Tryz.ntmps56
 go_wp2
 go_ret
 exact ⟨ret_int (by rw [M.ev1]), Dn.refl W⟩

set_option maxHeartbeats 400000 in
theorem do2 (x y : Int) (W : World) (hx : M.U x) (hy : M.U y) :
   Calls Tryz.prog 56 #[.int .i64 2, .int .u32 x, .int .u32 y] W fun e W' => e = .returned (.int .u32 (M.ev 2 x y)) ∧ Dn W W' := by
 obtain ⟨x0, x1⟩ := hx
 obtain ⟨y0, y1⟩ := hy
 go_enter Tryz.func56, Tryz.ntmps56
 go_wp2
 go_ret
 exact ⟨ret_int (by rw [M.ev2]; omega), Dn.refl W⟩

set_option maxHeartbeats 400000 in
theorem do3 (x y : Int) (W : World) (hx : M.U x) (hy : M.U y) :
   Calls Tryz.prog 56 #[.int .i64 3, .int .u32 x, .int .u32 y] W fun e W' => e = .returned (.int .u32 (M.ev 3 x y)) ∧ Dn W W' := by
 have C := Lib.hid (bitwise3 x y W hx hy)
 generalize M.ev 3 x y = z at C ⊢
 clear hx hy
 go_enter Tryz.func56, Tryz.ntmps56
 go_wp2_with (go_at_call 76; refine C.out.mono ?_; rintro e w1 ⟨rfl, d1⟩)
 go_ret
 exact ⟨rfl, d1⟩

set_option maxHeartbeats 400000 in
theorem do4 (x y : Int) (W : World) (hx : M.U x) (hy : M.U y) :
   Calls Tryz.prog 56 #[.int .i64 4, .int .u32 x, .int .u32 y] W fun e W' => e = .returned (.int .u32 (M.ev 4 x y)) ∧ Dn W W' := by
 have C := Lib.hid (bitwise4 x y W hx hy)
 generalize M.ev 4 x y = z at C ⊢
 clear hx hy
 go_enter Tryz.func56, Tryz.ntmps56
 go_wp2_with (go_at_call 76; refine C.out.mono ?_; rintro e w1 ⟨rfl, d1⟩)
 go_ret
 exact ⟨rfl, d1⟩

set_option maxHeartbeats 400000 in
theorem do5 (x y : Int) (W : World) (hx : M.U x) (hy : M.U y) :
   Calls Tryz.prog 56 #[.int .i64 5, .int .u32 x, .int .u32 y] W fun e W' => e = .returned (.int .u32 (M.ev 5 x y)) ∧ Dn W W' := by
 have C := Lib.hid (bitwise5 x y W hx hy)
 generalize M.ev 5 x y = z at C ⊢
 clear hx hy
 go_enter Tryz.func56, Tryz.ntmps56
 go_wp2_with (go_at_call 76; refine C.out.mono ?_; rintro e w1 ⟨rfl, d1⟩)
 go_ret
 exact ⟨rfl, d1⟩

set_option maxHeartbeats 400000 in
theorem do6 (x y : Int) (W : World) (hx : M.U x) (hy : M.U y) :
   Calls Tryz.prog 56 #[.int .i64 6, .int .u32 x, .int .u32 y] W fun e W' => e = .returned (.int .u32 (M.ev 6 x y)) ∧ Dn W W' := by
 have C1 := Lib.hid (fun w => signed x w hx)
 have C2 := Lib.hid (fun w => signed y w hy)
 by_cases h : M.sg x < M.sg y
 · have HE : Hid (M.ev 6 x y = 1) := Lib.hid (by rw [M.ev6]; unfold M.one M.lt; rw [decide_eq_true h]; rfl)
   generalize M.sg x = a at *
   generalize M.sg y = b at *
   clear hx hy
   go_enter Tryz.func56, Tryz.ntmps56
   go_wp2_with (go_at_call 77; (first | (with_reducible refine (C1.out _).mono ?_) | (with_reducible refine (C2.out _).mono ?_)); rintro e w1 ⟨rfl, rfl⟩)
   go_ret
   exact ⟨ret_int HE.out.symm, Dn.refl _⟩
 · have HE : Hid (M.ev 6 x y = 0) := Lib.hid (by rw [M.ev6]; unfold M.one M.lt; rw [decide_eq_false h]; rfl)
   generalize M.sg x = a at *
   generalize M.sg y = b at *
   clear hx hy
   go_enter Tryz.func56, Tryz.ntmps56
   go_wp2_with (go_at_call 77; (first | (with_reducible refine (C1.out _).mono ?_) | (with_reducible refine (C2.out _).mono ?_)); rintro e w1 ⟨rfl, rfl⟩)
   go_ret
   exact ⟨ret_int HE.out.symm, Dn.refl _⟩

set_option maxHeartbeats 400000 in
theorem do7 (x y : Int) (W : World) (hx : M.U x) (hy : M.U y) :
   Calls Tryz.prog 56 #[.int .i64 7, .int .u32 x, .int .u32 y] W fun e W' => e = .returned (.int .u32 (M.ev 7 x y)) ∧ Dn W W' := by
 obtain ⟨x0, x1⟩ := hx
 obtain ⟨y0, y1⟩ := hy
 have HE := Lib.hid (mul_eq x (M.sh y) x0 x1 (M.sh_lt y))
 have hp : ¬ (2 : Int) ^ (y % 32).toNat = 0 := by have := M.pow_pos (y % 32).toNat; omega
 go_enter Tryz.func56, Tryz.ntmps56
 go_wp2_with (go_at_call 59; refine (pow _ _ (by omega) (by omega)).mono ?_; rintro e w1 ⟨rfl, rfl⟩)
 go_ret
 exact ⟨ret_int HE.out, Dn.refl _⟩

set_option maxHeartbeats 400000 in
theorem do8 (x y : Int) (W : World) (hx : M.U x) (hy : M.U y) :
   Calls Tryz.prog 56 #[.int .i64 8, .int .u32 x, .int .u32 y] W fun e W' => e = .returned (.int .u32 (M.ev 8 x y)) ∧ Dn W W' := by
 obtain ⟨x0, x1⟩ := hx
 obtain ⟨y0, y1⟩ := hy
 have HE := Lib.hid (div_eq x (M.sh y) x0 x1)
 have hp : ¬ (2 : Int) ^ (y % 32).toNat = 0 := by have := M.pow_pos (y % 32).toNat; omega
 go_enter Tryz.func56, Tryz.ntmps56
 go_wp2_with (go_at_call 59; refine (pow _ _ (by omega) (by omega)).mono ?_; rintro e w1 ⟨rfl, rfl⟩)
 go_ret
 exact ⟨ret_int HE.out, Dn.refl _⟩


theorem do_no (op x y : Int) (W : World) (h : ¬ (1 ≤ op ∧ op ≤ 8)) :
   Calls Tryz.prog 56 #[.int .i64 op, .int .u32 x, .int .u32 y] W fun e W' => e = .returned (.int .u32 (M.ev op x y)) ∧ Dn W W' := by
 rw [M.ev_no op x y h]
 have n1 : (op == 1) = false := by simp; omega
 have n2 : (op == 2) = false := by simp; omega
 have n3 : (op == 3) = false := by simp; omega
 have n4 : (op == 4) = false := by simp; omega
 have n5 : (op == 5) = false := by simp; omega
 have n6 : (op == 6) = false := by simp; omega
 have n7 : (op == 7) = false := by simp; omega
 have n8 : (op == 8) = false := by simp; omega
 clear h
 go_enter Tryz.func56, Tryz.ntmps56
 go_wp2
 go_ret
 exact ⟨rfl, Dn.refl _⟩

theorem refDo (op x y : Int) (W : World) (hx : M.U x) (hy : M.U y) : Calls Tryz.prog 56 #[.int .i64 op, .int .u32 x, .int .u32 y] W fun e W' => e = .returned (.int .u32 (M.ev op x y)) ∧ Dn W W' := by
 by_cases h : 1 ≤ op ∧ op ≤ 8
 · have : op = 1 ∨ op = 2 ∨ op = 3 ∨ op = 4 ∨ op = 5 ∨ op = 6 ∨ op = 7 ∨ op = 8 := by omega
   rcases this with rfl | rfl | rfl | rfl | rfl | rfl | rfl | rfl
   · exact do1 x y W hx hy
   · exact do2 x y W hx hy
   · exact do3 x y W hx hy
   · exact do4 x y W hx hy
   · exact do5 x y W hx hy
   · exact do6 x y W hx hy
   · exact do7 x y W hx hy
   · exact do8 x y W hx hy
 · exact do_no op x y W h

set_option maxHeartbeats 1000000 in
theorem refTaken (op x y : Int) (W : World) (hx : M.U x) (hy : M.U y) : Calls Tryz.prog 58 #[.int .i64 op, .int .u32 x, .int .u32 y] W fun e W' => e = .returned (.bool (M.tk op x y)) ∧ Dn W W' := by
 have C1 := Lib.hid (fun w => signed x w hx)
 have C2 := Lib.hid (fun w => signed y w hy)
 clear hx hy
 by_cases h15 : op = 15
 · subst h15
   by_cases e : x = y
   · have HE : Hid (M.tk 15 x y = true) := Lib.hid (by unfold M.tk; simp [e])
     have q : (x == y) = true := by simp; exact e
     clear e
     go_enter Tryz.func58, Tryz.ntmps58
     go_wp2
     go_ret
     exact ⟨ret_bool HE.out.symm, Dn.refl W⟩
   · have HE : Hid (M.tk 15 x y = false) := Lib.hid (by unfold M.tk; simp [e])
     have q : (x == y) = false := by simp; exact e
     clear e
     go_enter Tryz.func58, Tryz.ntmps58
     go_wp2
     go_ret
     exact ⟨ret_bool HE.out.symm, Dn.refl W⟩
 by_cases h16 : op = 16
 · subst h16
   clear h15
   by_cases e : x = y
   · have HE : Hid (M.tk 16 x y = false) := Lib.hid (by unfold M.tk; simp [e])
     have q : (x != y) = false := by simp; exact e
     have q2 : (x == y) = true := by simp; exact e
     clear e
     go_enter Tryz.func58, Tryz.ntmps58
     go_wp2
     go_ret
     exact ⟨ret_bool HE.out.symm, Dn.refl W⟩
   · have HE : Hid (M.tk 16 x y = true) := Lib.hid (by unfold M.tk; simp [e])
     have q : (x != y) = true := by simp; exact e
     have q2 : (x == y) = false := by simp; exact e
     clear e
     go_enter Tryz.func58, Tryz.ntmps58
     go_wp2
     go_ret
     exact ⟨ret_bool HE.out.symm, Dn.refl W⟩
 by_cases h17 : op = 17
 · subst h17
   clear h15 h16
   have HE : Hid (M.tk 17 x y = M.lt x y) := Lib.hid (by unfold M.tk; simp)
   have HL : Hid (M.lt x y = decide (M.sg x < M.sg y)) := Lib.hid rfl
   generalize M.sg x = a at *
   generalize M.sg y = b at *
   by_cases h : a < b
   · go_enter Tryz.func58, Tryz.ntmps58
     go_wp2_with (go_at_call 77; (first | (with_reducible refine (C1.out _).mono ?_) | (with_reducible refine (C2.out _).mono ?_)); rintro e w1 ⟨rfl, rfl⟩)
     go_ret
     exact ⟨ret_bool (by rw [HE.out, HL.out, decide_eq_true h]), Dn.refl _⟩
   · go_enter Tryz.func58, Tryz.ntmps58
     go_wp2_with (go_at_call 77; (first | (with_reducible refine (C1.out _).mono ?_) | (with_reducible refine (C2.out _).mono ?_)); rintro e w1 ⟨rfl, rfl⟩)
     go_ret
     exact ⟨ret_bool (by rw [HE.out, HL.out, decide_eq_false (by omega)]), Dn.refl _⟩
 · have HE : Hid (M.tk op x y = false) := Lib.hid (by unfold M.tk; simp [h15, h16, h17])
   have n1 : (op == 15) = false := by simp; exact h15
   have n2 : (op == 16) = false := by simp; exact h16
   have n3 : (op == 17) = false := by simp; exact h17
   clear h15 h16 h17
   go_enter Tryz.func58, Tryz.ntmps58
   go_wp2
   go_ret
   exact ⟨ret_bool HE.out.symm, Dn.refl W⟩

theorem eval_is (op x y r : Int) (hx : M.U x) (hy : M.U y) (h : M.ev op x y = r) (w : World) : Calls Tryz.prog 142 #[.int .i64 op, .int .u32 x, .int .u32 y] w fun e w' => e = .returned (.int .u32 r) ∧ Dn w w' := by
 subst h; exact eval op x y w hx hy
theorem branch_is (op x y : Int) (r : Bool) (hx : M.U x) (hy : M.U y) (h : M.tk op x y = r) (w : World) : Calls Tryz.prog 147 #[.int .i64 op, .int .u32 x, .int .u32 y] w fun e w' => e = .returned (.bool r) ∧ Dn w w' := by
 subst h; exact branch op x y w hx hy
end Go.Proofs.YtclpdjpaaagkdaaGreatDoor
