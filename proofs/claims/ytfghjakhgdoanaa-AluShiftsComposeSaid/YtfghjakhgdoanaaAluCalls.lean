/-
  What each function of package alu returns when called: contracts over the translated program. Conditions: those that stand in each theorem (words of 32 bits).
-/
import Derived.Test.YtfghjakhgdoanaaBase
import Derived.Test.YtfghjakhgdoanaaAluMath
import Derived.Maps.OwnSet
import Derived.Laws.EntriesVeiled
namespace Go.Proofs.Ytfghjakhgdoanaa
open Go.ChangeShapes Go.WideShapes Go.ChangeAt Go.RowKit Go.Sort
set_option linter.unusedVariables false

theorem and_nat (v m : Int) (v0 : 0 ≤ v) (v1 : v < 4294967296) (m0 : 0 ≤ m) (m1 : m < 4294967296) : bits .and .u32 v m = ((v.toNat &&& m.toNat : Nat) : Int) := by
  obtain ⟨v, rfl⟩ := Int.eq_ofNat_of_zero_le v0
  obtain ⟨m, rfl⟩ := Int.eq_ofNat_of_zero_le m0
  rw [u32_and_nat _ _ (by omega) (by omega)]
  rfl
theorem or_nat (v m : Int) (v0 : 0 ≤ v) (v1 : v < 4294967296) (m0 : 0 ≤ m) (m1 : m < 4294967296) : bits .or .u32 v m = ((v.toNat ||| m.toNat : Nat) : Int) := by
  obtain ⟨v, rfl⟩ := Int.eq_ofNat_of_zero_le v0
  obtain ⟨m, rfl⟩ := Int.eq_ofNat_of_zero_le m0
  rw [u32_or_nat _ _ (by omega) (by omega)]
  rfl
theorem xor_nat (v m : Int) (v0 : 0 ≤ v) (v1 : v < 4294967296) (m0 : 0 ≤ m) (m1 : m < 4294967296) : bits .xor .u32 v m = ((v.toNat ^^^ m.toNat : Nat) : Int) := by
  obtain ⟨v, rfl⟩ := Int.eq_ofNat_of_zero_le v0
  obtain ⟨m, rfl⟩ := Int.eq_ofNat_of_zero_le m0
  rw [u32_xor_nat _ _ (by omega) (by omega)]
  rfl
/-- the amount of a shift, as the program computes it -/
theorem amount (y : Int) (y0 : 0 ≤ y) (y1 : y < 4294967296) : bits .and .u32 y 31 = (M.sh y : Int) := by
  rw [and_nat y 31 y0 y1 (by decide) (by decide)]
  have h : y.toNat &&& 31 = y.toNat % 2 ^ 5 := Nat.and_two_pow_sub_one_eq_mod _ 5
  have e : (31 : Int).toNat = 31 := rfl
  rw [e, h]
  unfold M.sh
  omega
theorem sg_wrap (x : Int) (x0 : 0 ≤ x) (x1 : x < 4294967296) : wrap32 x = M.sg x := by
  unfold wrap32 M.sg
  split <;> omega

theorem op1 (x y : Int) (W : World) (hx : M.U x) (hy : M.U y) : Calls Try.prog 17 #[.int .u32 x, .int .u32 y] W fun e W' => e = .returned (.int .u32 (M.ev 1 x y)) ∧ Dn W W' := by
  obtain ⟨x0, x1⟩ := hx
  obtain ⟨y0, y1⟩ := hy
  go_enter Try.func17, Try.ntmps17
  go_wp2
  go_ret
  exact ⟨rfl, Dn.refl W⟩

theorem op2 (x y : Int) (W : World) (hx : M.U x) (hy : M.U y) : Calls Try.prog 18 #[.int .u32 x, .int .u32 y] W fun e W' => e = .returned (.int .u32 (M.ev 2 x y)) ∧ Dn W W' := by
  obtain ⟨x0, x1⟩ := hx
  obtain ⟨y0, y1⟩ := hy
  go_enter Try.func18, Try.ntmps18
  go_wp2
  go_ret
  exact ⟨rfl, Dn.refl W⟩

theorem op3 (x y : Int) (W : World) (hx : M.U x) (hy : M.U y) : Calls Try.prog 19 #[.int .u32 x, .int .u32 y] W fun e W' => e = .returned (.int .u32 (M.ev 3 x y)) ∧ Dn W W' := by
  obtain ⟨x0, x1⟩ := hx
  obtain ⟨y0, y1⟩ := hy
  go_enter Try.func19, Try.ntmps19
  go_wp2
  go_ret
  exact ⟨ret_int (and_nat x y x0 x1 y0 y1), Dn.refl W⟩

theorem op4 (x y : Int) (W : World) (hx : M.U x) (hy : M.U y) : Calls Try.prog 20 #[.int .u32 x, .int .u32 y] W fun e W' => e = .returned (.int .u32 (M.ev 4 x y)) ∧ Dn W W' := by
  obtain ⟨x0, x1⟩ := hx
  obtain ⟨y0, y1⟩ := hy
  go_enter Try.func20, Try.ntmps20
  go_wp2
  go_ret
  exact ⟨ret_int (or_nat x y x0 x1 y0 y1), Dn.refl W⟩

theorem op5 (x y : Int) (W : World) (hx : M.U x) (hy : M.U y) : Calls Try.prog 21 #[.int .u32 x, .int .u32 y] W fun e W' => e = .returned (.int .u32 (M.ev 5 x y)) ∧ Dn W W' := by
  obtain ⟨x0, x1⟩ := hx
  obtain ⟨y0, y1⟩ := hy
  go_enter Try.func21, Try.ntmps21
  go_wp2
  go_ret
  exact ⟨ret_int (xor_nat x y x0 x1 y0 y1), Dn.refl W⟩

theorem less (x y : Int) (W : World) (hx : M.U x) (hy : M.U y) : Calls Try.prog 12 #[.int .u32 x, .int .u32 y] W fun e W' => e = .returned (.bool (M.lt x y)) ∧ Dn W W' := by
  obtain ⟨x0, x1⟩ := hx
  obtain ⟨y0, y1⟩ := hy
  go_enter Try.func12, Try.ntmps12
  go_wp2
  go_ret
  exact ⟨ret_bool (by rw [sg_wrap x x0 x1, sg_wrap y y0 y1]; rfl), Dn.refl W⟩

theorem oneIf (b : Bool) (W : World) : Calls Try.prog 23 #[.bool b] W fun e W' => e = .returned (.int .u32 (M.one b)) ∧ Dn W W' := by
  cases b
  · go_enter Try.func23, Try.ntmps23
    go_wp2
    go_ret
    exact ⟨rfl, Dn.refl W⟩
  · go_enter Try.func23, Try.ntmps23
    go_wp2
    go_ret
    exact ⟨rfl, Dn.refl W⟩

theorem op6 (x y : Int) (W : World) (hx : M.U x) (hy : M.U y) : Calls Try.prog 22 #[.int .u32 x, .int .u32 y] W fun e W' => e = .returned (.int .u32 (M.ev 6 x y)) ∧ Dn W W' := by
  obtain ⟨x0, x1⟩ := hx
  obtain ⟨y0, y1⟩ := hy
  have C := Lib.hid (less x y W ⟨x0, x1⟩ ⟨y0, y1⟩)
  go_enter Try.func22, Try.ntmps22
  go_wp2_with (first
    | (go_at_call 12; refine C.out.mono ?_; rintro e w1 ⟨rfl, d1⟩)
    | (go_at_call 23; refine (oneIf _ _).mono ?_; rintro e w2 ⟨rfl, d2⟩))
  go_ret
  exact ⟨rfl, d1.trans d2⟩

theorem op7 (x y : Int) (W : World) (hx : M.U x) (hy : M.U y) : Calls Try.prog 24 #[.int .u32 x, .int .u32 y] W fun e W' => e = .returned (.int .u32 (M.ev 7 x y)) ∧ Dn W W' := by
  obtain ⟨x0, x1⟩ := hx
  obtain ⟨y0, y1⟩ := hy
  have hs := amount y y0 y1
  have hs1 := M.sh_lt y
  have HE := Lib.hid (M.ev7 x y)
  generalize M.sh y = s at hs hs1 HE
  go_enter Try.func24, Try.ntmps24
  go_wp2
  go_ret
  exact ⟨ret_int HE.out.symm, Dn.refl W⟩

theorem op8 (x y : Int) (W : World) (hx : M.U x) (hy : M.U y) : Calls Try.prog 25 #[.int .u32 x, .int .u32 y] W fun e W' => e = .returned (.int .u32 (M.ev 8 x y)) ∧ Dn W W' := by
  obtain ⟨x0, x1⟩ := hx
  obtain ⟨y0, y1⟩ := hy
  have hs := amount y y0 y1
  have hs1 := M.sh_lt y
  have HE := Lib.hid (M.ev8 x y)
  generalize M.sh y = s at hs hs1 HE
  go_enter Try.func25, Try.ntmps25
  go_wp2
  go_ret
  exact ⟨ret_int HE.out.symm, Dn.refl W⟩


/-! the map of the operations -/
section
variable {P : Program} {ops : Array Oper} {rest : List Oper} {m x v : Operand} {t ty k e : TypeId} {pos : String} {aft : Array Edge} {a : Act} {w : World} {Q : Exit → Act → World → Prop} {b c : Nat} {es : Array MapEntry} {z : Int} {u : Value}

/-- an entry of a map literal, at a key that is not there yet: the map is the newest block -/
theorem run_ins (ht : P.underlying t = some (.map k e)) (hk : P.underlying k = some (.int .i64)) (es : Array MapEntry) (c : Nat) (z : Int) (u : Value)
    (hf : Instr.findNow (.int .i64) (.int .i64 z) es.toList 0 = some none) :
    (Instr.mapUpdate t (.map (some w.heap.size)) (.int .i64 z) u).run P (w.alloc (.map es c)) = .ok () (w.alloc (.map (es.push ⟨.int .i64 z, u, c⟩) (c + 1))) := by
  have hb : (w.alloc (.map es c)).heap[w.heap.size]? = some (.map es c) := (MapKept.heap_alloc w _).1
  have hc : (Instr.checkKey false 10000 k (.int .i64 z)).run P (w.alloc (.map es c)) = .ok () (w.alloc (.map es c)) := MapKept.run_checkKey (n := 9999) hk (k := .int .i64 z) (by simp [MapKept.IsKey]) false
  have hq : (Instr.findKey k (.int .i64 z) es.toList).run P (w.alloc (.map es c)) = .ok none (w.alloc (.map es c)) := MapKept.run_findKey hk hf
  have hs : ∀ o' : Obj, { w.alloc (.map es c) with heap := (w.alloc (.map es c)).heap.setIfInBounds w.heap.size o' } = w.alloc o' := fun o' => by
    have e : (w.heap.push (.map es c)).setIfInBounds w.heap.size o' = w.heap.push o' := by
      apply Array.ext_getElem?
      intro i
      by_cases h : w.heap.size = i
      · subst h
        simp
      · have h' : ¬ i = w.heap.size := fun e => h e.symm
        simp [Array.getElem?_push, h, h']
    show ({ w with heap := (w.heap.push (.map es c)).setIfInBounds w.heap.size o' } : World) = { w with heap := w.heap.push o' }
    rw [e]
  simp only [Instr.mapUpdate, Sem.run_bind, run_underlying ht, MapKept.run_getObj_map hb, hc, hq, MapKept.run_setObj_map _ hb, Result.andThen_ok, hs]

/-- a look-up with ok, at a key that is there -/
theorem run_look_yes (ht : P.underlying t = some (.map k e)) (hk : P.underlying k = some (.int .i64)) (hb : w.heap[b]? = some (.map es c)) {j : Nat}
    (hf : Instr.findNow (.int .i64) (.int .i64 z) es.toList 0 = some (some (j, u))) :
    (Instr.lookup t (.map (some b)) (.int .i64 z) true).run P w = .ok (.tuple #[u, .bool true]) w := by
  have hc : (Instr.checkKey es.isEmpty 10000 k (.int .i64 z)).run P w = .ok () w := MapKept.run_checkKey (n := 9999) hk (k := .int .i64 z) (by simp [MapKept.IsKey]) _
  have hq : (Instr.findKey k (.int .i64 z) es.toList).run P w = .ok (some (j, u)) w := MapKept.run_findKey hk hf
  simp [Instr.lookup, run_underlying ht, MapKept.run_getObj_map hb, hc, hq, Result.andThen]

/-- .. at a key that is not there -/
theorem run_look_no (ht : P.underlying t = some (.map k e)) (hk : P.underlying k = some (.int .i64)) (hb : w.heap[b]? = some (.map es c)) (hz : (zeroValue e).run P w = .ok u w)
    (hf : Instr.findNow (.int .i64) (.int .i64 z) es.toList 0 = some none) :
    (Instr.lookup t (.map (some b)) (.int .i64 z) true).run P w = .ok (.tuple #[u, .bool false]) w := by
  have hc : (Instr.checkKey es.isEmpty 10000 k (.int .i64 z)).run P w = .ok () w := MapKept.run_checkKey (n := 9999) hk (k := .int .i64 z) (by simp [MapKept.IsKey]) _
  have hq : (Instr.findKey k (.int .i64 z) es.toList).run P w = .ok none w := MapKept.run_findKey hk hf
  simp [Instr.lookup, run_underlying ht, MapKept.run_getObj_map hb, hc, hq, hz, Result.andThen]
end

/-- the entries of the map of the operations -/
def opsMap : Array MapEntry := #[⟨.int .i64 1, .func (.func 17) #[] #[], 0⟩, ⟨.int .i64 2, .func (.func 18) #[] #[], 1⟩, ⟨.int .i64 3, .func (.func 19) #[] #[], 2⟩, ⟨.int .i64 4, .func (.func 20) #[] #[], 3⟩,
  ⟨.int .i64 5, .func (.func 21) #[] #[], 4⟩, ⟨.int .i64 6, .func (.func 22) #[] #[], 5⟩, ⟨.int .i64 7, .func (.func 24) #[] #[], 6⟩, ⟨.int .i64 8, .func (.func 25) #[] #[], 7⟩]

theorem opsCall (W : World) : Calls Try.prog 13 #[] W fun e W' => ∃ b, e = .returned (.map (some b)) ∧ W'.heap[b]? = some (.map opsMap 8) ∧ Dn W W' := by
  have hmm := @run_makeMap Try.prog
  have i1 : (Instr.mapUpdate 32 (.map (some W.heap.size)) (.int .i64 1) (.func (.func 17) #[] #[])).run Try.prog (W.alloc (.map #[] 0)) = .ok () (W.alloc (.map #[⟨.int .i64 1, .func (.func 17) #[] #[], 0⟩] 1)) := run_ins Try.underlying32 Try.underlying3 #[] 0 1 _ rfl
  have i2 : (Instr.mapUpdate 32 (.map (some W.heap.size)) (.int .i64 2) (.func (.func 18) #[] #[])).run Try.prog (W.alloc (.map #[⟨.int .i64 1, .func (.func 17) #[] #[], 0⟩] 1)) = .ok () (W.alloc (.map #[⟨.int .i64 1, .func (.func 17) #[] #[], 0⟩, ⟨.int .i64 2, .func (.func 18) #[] #[], 1⟩] 2)) := run_ins Try.underlying32 Try.underlying3 #[⟨.int .i64 1, .func (.func 17) #[] #[], 0⟩] 1 2 _ rfl
  have i3 : (Instr.mapUpdate 32 (.map (some W.heap.size)) (.int .i64 3) (.func (.func 19) #[] #[])).run Try.prog (W.alloc (.map #[⟨.int .i64 1, .func (.func 17) #[] #[], 0⟩, ⟨.int .i64 2, .func (.func 18) #[] #[], 1⟩] 2)) = .ok () (W.alloc (.map #[⟨.int .i64 1, .func (.func 17) #[] #[], 0⟩, ⟨.int .i64 2, .func (.func 18) #[] #[], 1⟩, ⟨.int .i64 3, .func (.func 19) #[] #[], 2⟩] 3)) := run_ins Try.underlying32 Try.underlying3 #[⟨.int .i64 1, .func (.func 17) #[] #[], 0⟩, ⟨.int .i64 2, .func (.func 18) #[] #[], 1⟩] 2 3 _ rfl
  have i4 : (Instr.mapUpdate 32 (.map (some W.heap.size)) (.int .i64 4) (.func (.func 20) #[] #[])).run Try.prog (W.alloc (.map #[⟨.int .i64 1, .func (.func 17) #[] #[], 0⟩, ⟨.int .i64 2, .func (.func 18) #[] #[], 1⟩, ⟨.int .i64 3, .func (.func 19) #[] #[], 2⟩] 3)) = .ok () (W.alloc (.map #[⟨.int .i64 1, .func (.func 17) #[] #[], 0⟩, ⟨.int .i64 2, .func (.func 18) #[] #[], 1⟩, ⟨.int .i64 3, .func (.func 19) #[] #[], 2⟩, ⟨.int .i64 4, .func (.func 20) #[] #[], 3⟩] 4)) := run_ins Try.underlying32 Try.underlying3 #[⟨.int .i64 1, .func (.func 17) #[] #[], 0⟩, ⟨.int .i64 2, .func (.func 18) #[] #[], 1⟩, ⟨.int .i64 3, .func (.func 19) #[] #[], 2⟩] 3 4 _ rfl
  have i5 : (Instr.mapUpdate 32 (.map (some W.heap.size)) (.int .i64 5) (.func (.func 21) #[] #[])).run Try.prog (W.alloc (.map #[⟨.int .i64 1, .func (.func 17) #[] #[], 0⟩, ⟨.int .i64 2, .func (.func 18) #[] #[], 1⟩, ⟨.int .i64 3, .func (.func 19) #[] #[], 2⟩, ⟨.int .i64 4, .func (.func 20) #[] #[], 3⟩] 4)) = .ok () (W.alloc (.map #[⟨.int .i64 1, .func (.func 17) #[] #[], 0⟩, ⟨.int .i64 2, .func (.func 18) #[] #[], 1⟩, ⟨.int .i64 3, .func (.func 19) #[] #[], 2⟩, ⟨.int .i64 4, .func (.func 20) #[] #[], 3⟩, ⟨.int .i64 5, .func (.func 21) #[] #[], 4⟩] 5)) := run_ins Try.underlying32 Try.underlying3 #[⟨.int .i64 1, .func (.func 17) #[] #[], 0⟩, ⟨.int .i64 2, .func (.func 18) #[] #[], 1⟩, ⟨.int .i64 3, .func (.func 19) #[] #[], 2⟩, ⟨.int .i64 4, .func (.func 20) #[] #[], 3⟩] 4 5 _ rfl
  have i6 : (Instr.mapUpdate 32 (.map (some W.heap.size)) (.int .i64 6) (.func (.func 22) #[] #[])).run Try.prog (W.alloc (.map #[⟨.int .i64 1, .func (.func 17) #[] #[], 0⟩, ⟨.int .i64 2, .func (.func 18) #[] #[], 1⟩, ⟨.int .i64 3, .func (.func 19) #[] #[], 2⟩, ⟨.int .i64 4, .func (.func 20) #[] #[], 3⟩, ⟨.int .i64 5, .func (.func 21) #[] #[], 4⟩] 5)) = .ok () (W.alloc (.map #[⟨.int .i64 1, .func (.func 17) #[] #[], 0⟩, ⟨.int .i64 2, .func (.func 18) #[] #[], 1⟩, ⟨.int .i64 3, .func (.func 19) #[] #[], 2⟩, ⟨.int .i64 4, .func (.func 20) #[] #[], 3⟩, ⟨.int .i64 5, .func (.func 21) #[] #[], 4⟩, ⟨.int .i64 6, .func (.func 22) #[] #[], 5⟩] 6)) := run_ins Try.underlying32 Try.underlying3 #[⟨.int .i64 1, .func (.func 17) #[] #[], 0⟩, ⟨.int .i64 2, .func (.func 18) #[] #[], 1⟩, ⟨.int .i64 3, .func (.func 19) #[] #[], 2⟩, ⟨.int .i64 4, .func (.func 20) #[] #[], 3⟩, ⟨.int .i64 5, .func (.func 21) #[] #[], 4⟩] 5 6 _ rfl
  have i7 : (Instr.mapUpdate 32 (.map (some W.heap.size)) (.int .i64 7) (.func (.func 24) #[] #[])).run Try.prog (W.alloc (.map #[⟨.int .i64 1, .func (.func 17) #[] #[], 0⟩, ⟨.int .i64 2, .func (.func 18) #[] #[], 1⟩, ⟨.int .i64 3, .func (.func 19) #[] #[], 2⟩, ⟨.int .i64 4, .func (.func 20) #[] #[], 3⟩, ⟨.int .i64 5, .func (.func 21) #[] #[], 4⟩, ⟨.int .i64 6, .func (.func 22) #[] #[], 5⟩] 6)) = .ok () (W.alloc (.map #[⟨.int .i64 1, .func (.func 17) #[] #[], 0⟩, ⟨.int .i64 2, .func (.func 18) #[] #[], 1⟩, ⟨.int .i64 3, .func (.func 19) #[] #[], 2⟩, ⟨.int .i64 4, .func (.func 20) #[] #[], 3⟩, ⟨.int .i64 5, .func (.func 21) #[] #[], 4⟩, ⟨.int .i64 6, .func (.func 22) #[] #[], 5⟩, ⟨.int .i64 7, .func (.func 24) #[] #[], 6⟩] 7)) := run_ins Try.underlying32 Try.underlying3 #[⟨.int .i64 1, .func (.func 17) #[] #[], 0⟩, ⟨.int .i64 2, .func (.func 18) #[] #[], 1⟩, ⟨.int .i64 3, .func (.func 19) #[] #[], 2⟩, ⟨.int .i64 4, .func (.func 20) #[] #[], 3⟩, ⟨.int .i64 5, .func (.func 21) #[] #[], 4⟩, ⟨.int .i64 6, .func (.func 22) #[] #[], 5⟩] 6 7 _ rfl
  have i8 : (Instr.mapUpdate 32 (.map (some W.heap.size)) (.int .i64 8) (.func (.func 25) #[] #[])).run Try.prog (W.alloc (.map #[⟨.int .i64 1, .func (.func 17) #[] #[], 0⟩, ⟨.int .i64 2, .func (.func 18) #[] #[], 1⟩, ⟨.int .i64 3, .func (.func 19) #[] #[], 2⟩, ⟨.int .i64 4, .func (.func 20) #[] #[], 3⟩, ⟨.int .i64 5, .func (.func 21) #[] #[], 4⟩, ⟨.int .i64 6, .func (.func 22) #[] #[], 5⟩, ⟨.int .i64 7, .func (.func 24) #[] #[], 6⟩] 7)) = .ok () (W.alloc (.map #[⟨.int .i64 1, .func (.func 17) #[] #[], 0⟩, ⟨.int .i64 2, .func (.func 18) #[] #[], 1⟩, ⟨.int .i64 3, .func (.func 19) #[] #[], 2⟩, ⟨.int .i64 4, .func (.func 20) #[] #[], 3⟩, ⟨.int .i64 5, .func (.func 21) #[] #[], 4⟩, ⟨.int .i64 6, .func (.func 22) #[] #[], 5⟩, ⟨.int .i64 7, .func (.func 24) #[] #[], 6⟩, ⟨.int .i64 8, .func (.func 25) #[] #[], 7⟩] 8)) := run_ins Try.underlying32 Try.underlying3 #[⟨.int .i64 1, .func (.func 17) #[] #[], 0⟩, ⟨.int .i64 2, .func (.func 18) #[] #[], 1⟩, ⟨.int .i64 3, .func (.func 19) #[] #[], 2⟩, ⟨.int .i64 4, .func (.func 20) #[] #[], 3⟩, ⟨.int .i64 5, .func (.func 21) #[] #[], 4⟩, ⟨.int .i64 6, .func (.func 22) #[] #[], 5⟩, ⟨.int .i64 7, .func (.func 24) #[] #[], 6⟩] 7 8 _ rfl
  go_enter Try.func13, Try.ntmps13
  go_wp2
  go_ret
  exact ⟨W.heap.size, rfl, (MapKept.heap_alloc W _).1, (Dn.refl W).alloc _⟩

theorem look1 {w : World} {b : Nat} (h : w.heap[b]? = some (.map opsMap 8)) : (Instr.lookup 32 (.map (some b)) (.int .i64 1) true).run Try.prog w = .ok (.tuple #[.func (.func 17) #[] #[], .bool true]) w :=
  run_look_yes Try.underlying32 Try.underlying3 h rfl
theorem look2 {w : World} {b : Nat} (h : w.heap[b]? = some (.map opsMap 8)) : (Instr.lookup 32 (.map (some b)) (.int .i64 2) true).run Try.prog w = .ok (.tuple #[.func (.func 18) #[] #[], .bool true]) w :=
  run_look_yes Try.underlying32 Try.underlying3 h rfl
theorem look3 {w : World} {b : Nat} (h : w.heap[b]? = some (.map opsMap 8)) : (Instr.lookup 32 (.map (some b)) (.int .i64 3) true).run Try.prog w = .ok (.tuple #[.func (.func 19) #[] #[], .bool true]) w :=
  run_look_yes Try.underlying32 Try.underlying3 h rfl
theorem look4 {w : World} {b : Nat} (h : w.heap[b]? = some (.map opsMap 8)) : (Instr.lookup 32 (.map (some b)) (.int .i64 4) true).run Try.prog w = .ok (.tuple #[.func (.func 20) #[] #[], .bool true]) w :=
  run_look_yes Try.underlying32 Try.underlying3 h rfl
theorem look5 {w : World} {b : Nat} (h : w.heap[b]? = some (.map opsMap 8)) : (Instr.lookup 32 (.map (some b)) (.int .i64 5) true).run Try.prog w = .ok (.tuple #[.func (.func 21) #[] #[], .bool true]) w :=
  run_look_yes Try.underlying32 Try.underlying3 h rfl
theorem look6 {w : World} {b : Nat} (h : w.heap[b]? = some (.map opsMap 8)) : (Instr.lookup 32 (.map (some b)) (.int .i64 6) true).run Try.prog w = .ok (.tuple #[.func (.func 22) #[] #[], .bool true]) w :=
  run_look_yes Try.underlying32 Try.underlying3 h rfl
theorem look7 {w : World} {b : Nat} (h : w.heap[b]? = some (.map opsMap 8)) : (Instr.lookup 32 (.map (some b)) (.int .i64 7) true).run Try.prog w = .ok (.tuple #[.func (.func 24) #[] #[], .bool true]) w :=
  run_look_yes Try.underlying32 Try.underlying3 h rfl
theorem look8 {w : World} {b : Nat} (h : w.heap[b]? = some (.map opsMap 8)) : (Instr.lookup 32 (.map (some b)) (.int .i64 8) true).run Try.prog w = .ok (.tuple #[.func (.func 25) #[] #[], .bool true]) w :=
  run_look_yes Try.underlying32 Try.underlying3 h rfl
theorem look_no {w : World} {b : Nat} (h : w.heap[b]? = some (.map opsMap 8)) (op : Int) (hop : ¬ (1 ≤ op ∧ op ≤ 8)) : (Instr.lookup 32 (.map (some b)) (.int .i64 op) true).run Try.prog w = .ok (.tuple #[.nilFunc, .bool false]) w := by
  refine run_look_no Try.underlying32 Try.underlying3 h (by kernel_rfl) ?_
  have n1 : (op == 1) = false := by simp; omega
  have n2 : (op == 2) = false := by simp; omega
  have n3 : (op == 3) = false := by simp; omega
  have n4 : (op == 4) = false := by simp; omega
  have n5 : (op == 5) = false := by simp; omega
  have n6 : (op == 6) = false := by simp; omega
  have n7 : (op == 7) = false := by simp; omega
  have n8 : (op == 8) = false := by simp; omega
  simp only [opsMap, Instr.findNow, Instr.sameNow, n1, n2, n3, n4, n5, n6, n7, n8, if_true]

theorem eval1 (x y : Int) (W : World) (hx : M.U x) (hy : M.U y) : Calls Try.prog 8 #[.int .i64 1, .int .u32 x, .int .u32 y] W fun e W' => e = .returned (.int .u32 (M.ev 1 x y)) ∧ Dn W W' := by
  have C0 := Lib.hid (opsCall W)
  have C1 := Lib.hid (fun w => op1 x y w hx hy)
  generalize M.ev 1 x y = z at C1 ⊢
  clear hx hy
  go_enter Try.func8, Try.ntmps8
  go_wp2_with (first
    | (go_at_call 13; refine C0.out.mono ?_; rintro e w1 ⟨b, rfl, hb, d1⟩; have hl := look1 hb)
    | (go_at_call 17; refine (C1.out _).mono ?_; rintro e w2 ⟨rfl, d2⟩))
  go_ret
  exact ⟨rfl, d1.trans d2⟩
theorem eval2 (x y : Int) (W : World) (hx : M.U x) (hy : M.U y) : Calls Try.prog 8 #[.int .i64 2, .int .u32 x, .int .u32 y] W fun e W' => e = .returned (.int .u32 (M.ev 2 x y)) ∧ Dn W W' := by
  have C0 := Lib.hid (opsCall W)
  have C1 := Lib.hid (fun w => op2 x y w hx hy)
  generalize M.ev 2 x y = z at C1 ⊢
  clear hx hy
  go_enter Try.func8, Try.ntmps8
  go_wp2_with (first
    | (go_at_call 13; refine C0.out.mono ?_; rintro e w1 ⟨b, rfl, hb, d1⟩; have hl := look2 hb)
    | (go_at_call 18; refine (C1.out _).mono ?_; rintro e w2 ⟨rfl, d2⟩))
  go_ret
  exact ⟨rfl, d1.trans d2⟩
theorem eval3 (x y : Int) (W : World) (hx : M.U x) (hy : M.U y) : Calls Try.prog 8 #[.int .i64 3, .int .u32 x, .int .u32 y] W fun e W' => e = .returned (.int .u32 (M.ev 3 x y)) ∧ Dn W W' := by
  have C0 := Lib.hid (opsCall W)
  have C1 := Lib.hid (fun w => op3 x y w hx hy)
  generalize M.ev 3 x y = z at C1 ⊢
  clear hx hy
  go_enter Try.func8, Try.ntmps8
  go_wp2_with (first
    | (go_at_call 13; refine C0.out.mono ?_; rintro e w1 ⟨b, rfl, hb, d1⟩; have hl := look3 hb)
    | (go_at_call 19; refine (C1.out _).mono ?_; rintro e w2 ⟨rfl, d2⟩))
  go_ret
  exact ⟨rfl, d1.trans d2⟩
theorem eval4 (x y : Int) (W : World) (hx : M.U x) (hy : M.U y) : Calls Try.prog 8 #[.int .i64 4, .int .u32 x, .int .u32 y] W fun e W' => e = .returned (.int .u32 (M.ev 4 x y)) ∧ Dn W W' := by
  have C0 := Lib.hid (opsCall W)
  have C1 := Lib.hid (fun w => op4 x y w hx hy)
  generalize M.ev 4 x y = z at C1 ⊢
  clear hx hy
  go_enter Try.func8, Try.ntmps8
  go_wp2_with (first
    | (go_at_call 13; refine C0.out.mono ?_; rintro e w1 ⟨b, rfl, hb, d1⟩; have hl := look4 hb)
    | (go_at_call 20; refine (C1.out _).mono ?_; rintro e w2 ⟨rfl, d2⟩))
  go_ret
  exact ⟨rfl, d1.trans d2⟩
theorem eval5 (x y : Int) (W : World) (hx : M.U x) (hy : M.U y) : Calls Try.prog 8 #[.int .i64 5, .int .u32 x, .int .u32 y] W fun e W' => e = .returned (.int .u32 (M.ev 5 x y)) ∧ Dn W W' := by
  have C0 := Lib.hid (opsCall W)
  have C1 := Lib.hid (fun w => op5 x y w hx hy)
  generalize M.ev 5 x y = z at C1 ⊢
  clear hx hy
  go_enter Try.func8, Try.ntmps8
  go_wp2_with (first
    | (go_at_call 13; refine C0.out.mono ?_; rintro e w1 ⟨b, rfl, hb, d1⟩; have hl := look5 hb)
    | (go_at_call 21; refine (C1.out _).mono ?_; rintro e w2 ⟨rfl, d2⟩))
  go_ret
  exact ⟨rfl, d1.trans d2⟩
theorem eval6 (x y : Int) (W : World) (hx : M.U x) (hy : M.U y) : Calls Try.prog 8 #[.int .i64 6, .int .u32 x, .int .u32 y] W fun e W' => e = .returned (.int .u32 (M.ev 6 x y)) ∧ Dn W W' := by
  have C0 := Lib.hid (opsCall W)
  have C1 := Lib.hid (fun w => op6 x y w hx hy)
  generalize M.ev 6 x y = z at C1 ⊢
  clear hx hy
  go_enter Try.func8, Try.ntmps8
  go_wp2_with (first
    | (go_at_call 13; refine C0.out.mono ?_; rintro e w1 ⟨b, rfl, hb, d1⟩; have hl := look6 hb)
    | (go_at_call 22; refine (C1.out _).mono ?_; rintro e w2 ⟨rfl, d2⟩))
  go_ret
  exact ⟨rfl, d1.trans d2⟩
theorem eval7 (x y : Int) (W : World) (hx : M.U x) (hy : M.U y) : Calls Try.prog 8 #[.int .i64 7, .int .u32 x, .int .u32 y] W fun e W' => e = .returned (.int .u32 (M.ev 7 x y)) ∧ Dn W W' := by
  have C0 := Lib.hid (opsCall W)
  have C1 := Lib.hid (fun w => op7 x y w hx hy)
  generalize M.ev 7 x y = z at C1 ⊢
  clear hx hy
  go_enter Try.func8, Try.ntmps8
  go_wp2_with (first
    | (go_at_call 13; refine C0.out.mono ?_; rintro e w1 ⟨b, rfl, hb, d1⟩; have hl := look7 hb)
    | (go_at_call 24; refine (C1.out _).mono ?_; rintro e w2 ⟨rfl, d2⟩))
  go_ret
  exact ⟨rfl, d1.trans d2⟩
theorem eval8 (x y : Int) (W : World) (hx : M.U x) (hy : M.U y) : Calls Try.prog 8 #[.int .i64 8, .int .u32 x, .int .u32 y] W fun e W' => e = .returned (.int .u32 (M.ev 8 x y)) ∧ Dn W W' := by
  have C0 := Lib.hid (opsCall W)
  have C1 := Lib.hid (fun w => op8 x y w hx hy)
  generalize M.ev 8 x y = z at C1 ⊢
  clear hx hy
  go_enter Try.func8, Try.ntmps8
  go_wp2_with (first
    | (go_at_call 13; refine C0.out.mono ?_; rintro e w1 ⟨b, rfl, hb, d1⟩; have hl := look8 hb)
    | (go_at_call 25; refine (C1.out _).mono ?_; rintro e w2 ⟨rfl, d2⟩))
  go_ret
  exact ⟨rfl, d1.trans d2⟩
theorem eval_no (op x y : Int) (W : World) (h : ¬ (1 ≤ op ∧ op ≤ 8)) : Calls Try.prog 8 #[.int .i64 op, .int .u32 x, .int .u32 y] W fun e W' => e = .returned (.int .u32 (M.ev op x y)) ∧ Dn W W' := by
  have C0 := Lib.hid (opsCall W)
  rw [M.ev_no op x y h]
  have H := Lib.hid h
  clear h
  go_enter Try.func8, Try.ntmps8
  go_wp2_with (first
    | (go_at_call 13; refine C0.out.mono ?_; rintro e w1 ⟨b, rfl, hb, d1⟩; have hl := look_no hb op H.out))
  go_ret
  exact ⟨rfl, d1⟩

/-- Eval, whatever the opcode -/
theorem eval (op x y : Int) (W : World) (hx : M.U x) (hy : M.U y) : Calls Try.prog 8 #[.int .i64 op, .int .u32 x, .int .u32 y] W fun e W' => e = .returned (.int .u32 (M.ev op x y)) ∧ Dn W W' := by
  by_cases h : 1 ≤ op ∧ op ≤ 8
  · have : op = 1 ∨ op = 2 ∨ op = 3 ∨ op = 4 ∨ op = 5 ∨ op = 6 ∨ op = 7 ∨ op = 8 := by omega
    rcases this with rfl | rfl | rfl | rfl | rfl | rfl | rfl | rfl
    · exact eval1 x y W hx hy
    · exact eval2 x y W hx hy
    · exact eval3 x y W hx hy
    · exact eval4 x y W hx hy
    · exact eval5 x y W hx hy
    · exact eval6 x y W hx hy
    · exact eval7 x y W hx hy
    · exact eval8 x y W hx hy
  · exact eval_no op x y W h

/-- BranchTaken, whatever the opcode -/
theorem branch (op x y : Int) (W : World) (hx : M.U x) (hy : M.U y) : Calls Try.prog 10 #[.int .i64 op, .int .u32 x, .int .u32 y] W fun e W' => e = .returned (.bool (M.tk op x y)) ∧ Dn W W' := by
  have C := Lib.hid (less x y W hx hy)
  clear hx hy
  by_cases h15 : op = 15
  · subst h15
    have HE : Hid (M.tk 15 x y = (x == y)) := Lib.hid (by unfold M.tk; by_cases e : x = y <;> simp [e])
    go_enter Try.func10, Try.ntmps10
    go_wp2
    go_ret
    exact ⟨ret_bool HE.out.symm, Dn.refl W⟩
  by_cases h16 : op = 16
  · subst h16
    have HE : Hid (M.tk 16 x y = !(x == y)) := Lib.hid (by unfold M.tk; by_cases e : x = y <;> simp [e])
    go_enter Try.func10, Try.ntmps10
    go_wp2
    go_ret
    exact ⟨ret_bool HE.out.symm, Dn.refl W⟩
  by_cases h17 : op = 17
  · subst h17
    have HE : Hid (M.tk 17 x y = M.lt x y) := Lib.hid (by unfold M.tk; simp)
    go_enter Try.func10, Try.ntmps10
    go_wp2_with (go_at_call 12; refine C.out.mono ?_; rintro e w1 ⟨rfl, d1⟩)
    go_ret
    exact ⟨ret_bool HE.out.symm, d1⟩
  · have HE : Hid (M.tk op x y = false) := Lib.hid (by unfold M.tk; simp [h15, h16, h17])
    have n1 : (op == 15) = false := by simp; exact h15
    have n2 : (op == 16) = false := by simp; exact h16
    have n3 : (op == 17) = false := by simp; exact h17
    clear h15 h16 h17
    go_enter Try.func10, Try.ntmps10
    go_wp2
    go_ret
    exact ⟨ret_bool HE.out.symm, Dn.refl W⟩
end Go.Proofs.Ytfghjakhgdoanaa
