/-
  The law AsmLinesAndErrors walked, case by case. Conditions: the package variables hold what the program's text lays there, the lists lie in memory, and those that part the cases.
-/
import Derived.Test.YtokhipjpppfkgaaGreatDoorAsmAd
import Derived.Laws.OwnMore
import Derived.OwnWalk
namespace Go.Proofs.YtokhipjpppfkgaaGreatDoor
open Go.ChangeShapes Go.WideShapes Go.ChangeAt Go.RowKit Go.Sort
set_option linter.unusedVariables false

theorem count_dis (xs : List Int) : (M.disT xs).count 10 = xs.length := by
  induction xs with
  | nil => rfl
  | cons x r ih =>
    unfold M.disT at ih ⊢
    simp only [List.map_cons, List.flatten_cons, List.count_append, List.length_cons]
    rw [ih, List.count_eq_zero.2 (lineT_no10 x)]
    simp
    omega

theorem at10 {a : List UInt8} {k : Nat} (hlt : k < a.length) {h : k < (⟨a.toArray⟩ : ByteArray).size} {b : Bool} (hq : ((((⟨a.toArray⟩ : ByteArray)[k]'h).toNat : Int) == 10) = b) : (a[k] == 10) = b := by
  have e : (⟨a.toArray⟩ : ByteArray)[k]'h = a[k] := by
    show a.toArray[k]'(by simpa using hlt) = a[k]
    simp
  rw [e] at hq
  rw [← hq]
  cases hb : (a[k] == 10)
  · symm
    rw [beq_eq_false_iff_ne] at hb ⊢
    intro e2
    apply hb
    have : a[k].toNat = 10 := by omega
    exact UInt8.toNat_inj.1 this
  · rw [beq_iff_eq.1 hb]; rfl
theorem count_step {a : List UInt8} {k : Nat} (hlt : k < a.length) : (a.take (k + 1)).count 10 = (a.take k).count 10 + if (a[k] == 10) = true then 1 else 0 := by
  rw [List.take_succ_eq_append_getElem hlt, List.count_append, List.count_singleton]

set_option maxRecDepth 100000 in
/-- words appended to an own row -/
theorem run_append_words (w : World) (base : Nat) (ty : TypeId) (v : Value) (n : Nat) (xs : List Value) (hown : w.ownsRow base 45 1 v n xs) (A : Option Addr) (c : Nat) (ys : List Int) (hy : Words w A ys) (hn : n + ys.length ≤ 100000) (hb : base ≤ w.heap.size) :
    ∃ v' w', (Builtin.append_ #[24, 24] ty #[v, .slice A ys.length c]).run Tryz.prog w = .ok v' w' ∧ w'.ownsRow base 45 1 v' (n + ys.length) (xs ++ ys.map (Value.int .u32)) ∧ w.grownBy w' v.ownBlock := by
  obtain ⟨i0, hi, hz0, hz1, hz2⟩ := info_parts infoU32
  cases A with
  | none =>
    have e : ys = [] := by
      cases ys with
      | nil => rfl
      | cons y r =>
        obtain ⟨ad, e, _⟩ := hy.2 (by simp)
        cases e
    subst e
    have hr : (Builtin.append_ #[24, 24] ty #[v, .slice none 0 c]).run Tryz.prog w = .ok v w := by
      rcases hown.2 with ⟨rfl, rfl⟩ | ⟨g, cap, cur, rfl, _, _, hnc, _⟩
      · simp [Builtin.append_, run_underlying Tryz.underlying24, sizeOf, typeInfo, hi, Builtin.lenOf, Builtin.firstCells]
      · simp [Builtin.append_, run_underlying Tryz.underlying24, sizeOf, typeInfo, hi, Builtin.lenOf, Builtin.firstCells, hnc, storeCells]
    exact ⟨v, w, hr, by simpa using hown, ⟨rfl, rfl, rfl, Nat.le_refl _, fun _ _ _ => rfl⟩⟩
  | some ad =>
    obtain ⟨v', w', h1, h2, h3, _⟩ := run_append_own (P := Tryz.prog) w base 24 ty 45 i0 _ 1 4 Tryz.underlying24 hi hz0 hz1 hz2 rfl (by decide) v n xs hown ad ys.length c (ys.map (Value.int .u32)) (by simp) (fun j u hj => by
      rw [List.getElem?_map] at hj
      cases hyj : ys[j]? with
      | none => rw [hyj] at hj; cases hj
      | some x =>
        rw [hyj] at hj
        injection hj with hj
        subst hj
        obtain ⟨ad', e, _, hc⟩ := hy.2 (by intro e; rw [e] at hyj; cases hyj)
        injection e with e
        subst e
        exact hc j x hyj) (fun u hu => by obtain ⟨x, _, rfl⟩ := List.mem_map.1 hu; rfl) (by unfold maxLen; omega) (by omega) hb
    exact ⟨v', w', h1, h2, h3⟩

theorem wpList_append_words {w : World} {ops : Array Oper} {rest : List Oper} {o : Oper} {a : Act} {Q : Exit → Act → World → Prop} (hw : Region.wanted o (yielded ops a.tmps) = true) (s x : Operand)
    (ho : o.op = .call { callee := .builtin .append, args := #[s, x], argTypes := #[24, 24] })
    (base : Nat) (v : Value) (n : Nat) (xs : List Value) (hs : a.eval s = v) (hown : w.ownsRow base 45 1 v n xs) (A : Option Addr) (c : Nat) (ys : List Int) (hx : a.eval x = .slice A ys.length c) (hy : Words w A ys) (hn : n + ys.length ≤ 100000) (hb : base ≤ w.heap.size)
    (h : ∀ v' w', w'.ownsRow base 45 1 v' (n + ys.length) (xs ++ ys.map (Value.int .u32)) → w.grownBy w' v.ownBlock → wpList Tryz.prog ops Q rest (a.put o.dst v') w') : wpList Tryz.prog ops Q (o :: rest) a w := by
  obtain ⟨v', w', hr, h2, h3⟩ := run_append_words w base o.type v n xs hown A c ys hy hn hb
  unfold wpList
  rw [if_pos hw]
  refine .inl ?_
  unfold Oper.wp execOp
  simp only [ho, resolve, invoke, builtin, Sem.run_bind, Sem.run_pure, Result.andThen_ok, List.map_toArray, List.map_cons, List.map_nil, hs, hx, hr]
  exact h v' w' h2 h3

def LeRel (a : List UInt8) (W : World) (n i : Value) (w : World) : Prop :=
  ∃ k : Nat, k ≤ a.length ∧ i = .int .i64 k ∧ n = .int .i64 ((a.take k).count 10 : Nat) ∧ w = W

set_option maxRecDepth 100000 in
set_option maxHeartbeats 2000000 in
theorem le_long1 (W : World) (A0 : Option Addr) (c0 : Nat) (xs : List Int) (hx : Words W A0 xs) (hxl : xs.length ≤ 9223372036854775807) (A1 : Option Addr) (c1 : Nat) (ys : List Int) (hy : Words W A1 ys) (hyl : ys.length ≤ 9223372036854775807) (s : List UInt8) (hm : s.length ≤ 9223372036854775807) (E : Env W) (h : ¬ xs.length ≤ 100) :
    Calls Tryz.prog 6 #[.slice A0 xs.length c0, .slice A1 ys.length c1, .string ⟨s.toArray⟩] W fun e W' => e = .returned (.bool true) ∧ Dn W W' := by
  have h1 : (100 : Int) < xs.length := by omega
  go_enter Tryz.func6, Tryz.ntmps6
  go_wp2_with fail
  refine (awake _ E).mono ?_
  rintro e w1 ⟨rfl, dn1⟩
  go_wp2_with fail
  refine (awake _ (E.dn dn1)).mono ?_
  rintro e w2 ⟨rfl, dn2⟩
  go_wp2
  go_ret
  exact ⟨rfl, dn1.trans dn2⟩

set_option maxRecDepth 100000 in
set_option maxHeartbeats 2000000 in
theorem le_long2 (W : World) (A0 : Option Addr) (c0 : Nat) (xs : List Int) (hx : Words W A0 xs) (hxl : xs.length ≤ 9223372036854775807) (A1 : Option Addr) (c1 : Nat) (ys : List Int) (hy : Words W A1 ys) (hyl : ys.length ≤ 9223372036854775807) (s : List UInt8) (hm : s.length ≤ 9223372036854775807) (E : Env W) (h0 : xs.length ≤ 100) (h : ¬ ys.length ≤ 100) :
    Calls Tryz.prog 6 #[.slice A0 xs.length c0, .slice A1 ys.length c1, .string ⟨s.toArray⟩] W fun e W' => e = .returned (.bool true) ∧ Dn W W' := by
  have h1 : ¬ (100 : Int) < xs.length := by omega
  have h2 : (100 : Int) < ys.length := by omega
  go_enter Tryz.func6, Tryz.ntmps6
  go_wp2_with fail
  refine (awake _ E).mono ?_
  rintro e w1 ⟨rfl, dn1⟩
  go_wp2_with fail
  refine (awake _ (E.dn dn1)).mono ?_
  rintro e w2 ⟨rfl, dn2⟩
  go_wp2
  go_ret
  exact ⟨rfl, dn1.trans dn2⟩

set_option maxRecDepth 100000 in
set_option maxHeartbeats 2000000 in
theorem le_long3 (W : World) (A0 : Option Addr) (c0 : Nat) (xs : List Int) (hx : Words W A0 xs) (hxl : xs.length ≤ 9223372036854775807) (A1 : Option Addr) (c1 : Nat) (ys : List Int) (hy : Words W A1 ys) (hyl : ys.length ≤ 9223372036854775807) (s : List UInt8) (hm : s.length ≤ 9223372036854775807) (E : Env W) (h0 : xs.length ≤ 100) (h0b : ys.length ≤ 100) (h : ¬ s.length ≤ 100) :
    Calls Tryz.prog 6 #[.slice A0 xs.length c0, .slice A1 ys.length c1, .string ⟨s.toArray⟩] W fun e W' => e = .returned (.bool true) ∧ Dn W W' := by
  have h1 : ¬ (100 : Int) < xs.length := by omega
  have h2 : ¬ (100 : Int) < ys.length := by omega
  have h3 : (100 : Int) < s.length := by omega
  go_enter Tryz.func6, Tryz.ntmps6
  go_wp2_with fail
  refine (awake _ E).mono ?_
  rintro e w1 ⟨rfl, dn1⟩
  go_wp2_with fail
  refine (awake _ (E.dn dn1)).mono ?_
  rintro e w2 ⟨rfl, dn2⟩
  go_wp2
  go_ret
  exact ⟨rfl, dn1.trans dn2⟩

def LeRel2 (s : List UInt8) (W : World) (i : Value) (w : World) : Prop :=
  ∃ k : Nat, k ≤ s.length ∧ i = .int .i64 k ∧ (10 : UInt8) ∉ s.take k ∧ w = W

set_option maxRecDepth 100000 in
set_option maxHeartbeats 8000000 in
theorem le_main (W : World) (A0 : Option Addr) (c0 : Nat) (xs : List Int) (hx : Words W A0 xs) (hxl : xs.length ≤ 9223372036854775807) (A1 : Option Addr) (c1 : Nat) (ys : List Int) (hy : Words W A1 ys) (hyl : ys.length ≤ 9223372036854775807) (s : List UInt8) (hm : s.length ≤ 9223372036854775807) (E : Env W) (h0 : xs.length ≤ 100) (h0b : ys.length ≤ 100) (h0c : s.length ≤ 100)  :
    Calls Tryz.prog 6 #[.slice A0 xs.length c0, .slice A1 ys.length c1, .string ⟨s.toArray⟩] W fun e W' => e = .returned (.bool true) ∧ Dn W W' := by
  have h1 : ¬ (100 : Int) < xs.length := by omega
  have h2 : ¬ (100 : Int) < ys.length := by omega
  have h3 : ¬ (100 : Int) < s.length := by omega
  go_enter Tryz.func6, Tryz.ntmps6
  go_wp2_with fail
  refine (awake _ E).mono ?_
  rintro e w1 ⟨rfl, dn1⟩
  go_wp2_with fail
  refine (disassemble A0 c0 xs _ (E.dn dn1) (hx.dn dn1) (by omega)).mono ?_
  rintro e w2 ⟨rfl, dn2⟩
  have k2 := dn1.trans dn2
  go_wp2_with fail
  refine (disassemble A1 c1 ys _ (E.dn k2) (hy.dn k2) (by omega)).mono ?_
  rintro e w3 ⟨rfl, dn3⟩
  have k3 := k2.trans dn3
  go_wp2_with fail
  have hc := count_dis xs
  have hal := disT_len xs hx.1
  have hbl := disT_len ys hy.1
  obtain ⟨a, ha⟩ : ∃ a, a = M.disT xs := ⟨_, rfl⟩
  have HA := Lib.hid ha
  rw [← ha] at hc hal ⊢
  clear ha
  have hal2 : a.length ≤ 9300 := by omega
  go_loopw [9, 10] (fun n i w => LeRel a w3 n i w) (fun _ i _ => a.length - (intOf i).toNat)
  case atStart => exact ⟨0, Nat.zero_le _, rfl, rfl, rfl⟩
  case round =>
    obtain ⟨k, hk, rfl, rfl, rfl⟩ := hrel
    have hcl : (a.take k).count 10 ≤ k := Nat.le_trans List.count_le_length (by rw [List.length_take]; omega)
    by_cases hlt : k < a.length
    · have hlt2 : (k : Int) < a.length := by omega
      have HE := Lib.hid (count_step hlt)
      obtain ⟨n, hn⟩ : ∃ n, n = (a.take k).count 10 := ⟨_, rfl⟩
      have HN := Lib.hid hn
      rw [← hn] at hcl ⊢
      clear hn
      go_wp2
      · rename_i hq
        have h2 := HE.out
        rw [at10 hlt hq, if_pos rfl, ← HN.out] at h2
        exact ⟨⟨k + 1, by omega, by go_num, by rw [h2]; go_num, rfl⟩, by simp [intOf]; omega⟩
      · rename_i hq
        have h2 := HE.out
        rw [at10 hlt hq, if_neg (by decide), ← HN.out] at h2
        exact ⟨⟨k + 1, by omega, by go_num, by rw [h2]; rfl, rfl⟩, by simp [intOf]; omega⟩
    · have ek : (a.take k).count 10 = xs.length := by rw [List.take_of_length_le (by omega)]; exact hc
      rw [ek]
      clear hc hcl ek
      have hxw := hx.dn k3
      have hyw := hy.dn k3
      have HB := bytes_append a (M.disT ys)
      have own0 : (wr.alloc (Obj.cells #[] 45)).ownsRow wr.heap.size 45 1 (.slice (some ⟨wr.heap.size, 0, none⟩) 0 0) 0 [] :=
        ⟨rfl, .inr ⟨wr.heap.size, 0, #[], rfl, Nat.le_refl _, heap_alloc_new wr _, Nat.le_refl _, by decide, rfl, rfl⟩⟩
      have d0 : Dn wr (wr.alloc (Obj.cells #[] 45)) := (Dn.refl _).alloc _
      have hs0 : wr.heap.size ≤ (wr.alloc (Obj.cells #[] 45)).heap.size := d0.size
      obtain ⟨zs, hzs⟩ : ∃ zs, zs = xs ++ ys := ⟨_, rfl⟩
      have HZ := Lib.hid hzs
      have hrng : Rng zs := fun z hz => (List.mem_append.1 (hzs ▸ hz)).elim (hx.1 z) (hy.1 z)
      have hzl : zs.length ≤ 200 := by rw [hzs]; simp; omega
      have hcat : (M.disT zs == a ++ M.disT ys) = true := by rw [hzs, disT_append, HA.out]; simp
      clear hzs
      go_wp2_with (at_builtin; first
        | (refine wpList_append_words rfl _ _ rfl wr.heap.size (.slice (some ⟨wr.heap.size, 0, none⟩) 0 0) 0 [] rfl own0 A0 c0 xs rfl (hxw.dn d0) (by omega) hs0 ?_; intro v1 w4 own1 gr1; have d1 : Dn wr w4 := below_keep d0 gr1 hs0 (Nat.le_refl _) (fun r e => (own0.lt r e).1))
        | ((refine wpList_append_words rfl _ _ rfl wr.heap.size v1 (0 + xs.length) _ rfl own1 A1 c1 ys rfl (hyw.dn d1) (by omega) d1.size ?_); intro v2 w5 own2 gr2; have d2 : Dn wr w5 := below_keep d1 gr2 d1.size (Nat.le_refl _) (fun r e => (own1.lt r e).1); (have own3 : w5.ownsRow wr.heap.size 45 1 v2 zs.length (zs.map (Value.int .u32)) := by rw [HZ.out]; simpa using own2); (obtain ⟨A2, c2, rfl, hw5⟩ := own_words hrng own3)))
      refine (disassemble A2 c2 zs _ (E.dn (k3.trans d2)) hw5 (by omega)).mono ?_
      rintro e w6 ⟨rfl, dn6⟩
      have k6 := (k3.trans d2).trans dn6
      clear own0 own1 own2 own3 gr1 gr2 d0 d1 d2 hs0 hw5 hxw hyw
      go_wp2_with fail
      clear HB hcat hrng hzl HZ hlt
      go_loopw [11] (fun i w => LeRel2 s w6 i w) (fun i _ => s.length - (intOf i).toNat)
      case atStart => exact ⟨0, Nat.zero_le _, rfl, by simp, rfl⟩
      case round =>
        obtain ⟨k2, hk2, rfl, hno, rfl⟩ := hrel
        by_cases hlt : k2 < s.length
        · have hlt2 : (k2 : Int) < s.length := by omega
          have HNO := Lib.hid hno
          clear hno
          go_wp2
          · go_ret
            exact ⟨rfl, k6⟩
          · rename_i hq
            have hq2 := at10 hlt hq
            refine ⟨⟨k2 + 1, by omega, by go_num, ?_, rfl⟩, by simp [intOf]; omega⟩
            rw [List.take_succ_eq_append_getElem hlt]
            intro hm2
            rcases List.mem_append.1 hm2 with h5 | h5
            · exact HNO.out h5
            · rw [← List.mem_singleton.1 h5] at hq2
              cases hq2
        · have h10 : (10 : UInt8) ∉ s := by rw [List.take_of_length_le (by omega)] at hno; exact hno
          have H10 := Lib.hid h10
          clear hno h10
          have HB2 := bytes_append s [10]
          by_cases hline : IsLine s
          · obtain ⟨x, x0, x1, hxs⟩ := hline
            have e1 : s ++ [10] = M.disT [x] := by unfold M.disT; simp [hxs]
            have HX := Lib.hid hxs
            clear hxs
            go_wp2_with fail
            refine (assemble_dis [x] (by intro z hz; simp at hz; omega) _ (E.dn k6) (by simp)).mono ?_
            rintro e w7 ⟨B, cb, rfl, _, dn7⟩
            go_wp2
            go_ret
            exact ⟨rfl, k6.trans dn7⟩
          · have HL := Lib.hid hline
            clear hline
            go_wp2_with fail
            refine (assemble_bad [] (fun y hy => absurd hy (by simp)) s [] (s ++ [10]) (by simp [M.disT]) H10.out HL.out _ (E.dn k6) (by simp; omega)).mono ?_
            rintro e w7 ⟨rfl, dn7⟩
            have k7 := k6.trans dn7
            have HB3 := bytes_append a s
            have HB4 := bytes_append (a ++ s) [10]
            have HB5 := bytes_append (a ++ (s ++ [10])) (M.disT ys)
            go_wp2_with fail
            refine (assemble_bad xs hx.1 s (M.disT ys) _ (by rw [HA.out]) H10.out HL.out _ (E.dn k7) (by simp; omega)).mono ?_
            rintro e w8 ⟨rfl, dn8⟩
            go_wp2
            go_ret
            exact ⟨rfl, k7.trans dn8⟩

theorem leWalk0 (W : World) (A0 : Option Addr) (c0 : Nat) (xs : List Int) (hx : Words W A0 xs) (hxl : xs.length ≤ 9223372036854775807) (A1 : Option Addr) (c1 : Nat) (ys : List Int) (hy : Words W A1 ys) (hyl : ys.length ≤ 9223372036854775807) (s : List UInt8) (hm : s.length ≤ 9223372036854775807) (E : Env W) :
    Calls Tryz.prog 6 #[.slice A0 xs.length c0, .slice A1 ys.length c1, .string ⟨s.toArray⟩] W fun e W' => e = .returned (.bool true) ∧ Dn W W' := by
  by_cases h1 : xs.length ≤ 100
  · by_cases h2 : ys.length ≤ 100
    · by_cases h3 : s.length ≤ 100
      · exact le_main W A0 c0 xs hx hxl A1 c1 ys hy hyl s hm E h1 h2 h3
      · exact le_long3 W A0 c0 xs hx hxl A1 c1 ys hy hyl s hm E h1 h2 h3
    · exact le_long2 W A0 c0 xs hx hxl A1 c1 ys hy hyl s hm E h1 h2
  · exact le_long1 W A0 c0 xs hx hxl A1 c1 ys hy hyl s hm E h1

theorem leWalk {W : World} (A0 : Option Addr) (c0 : Nat) (xs : List Int) (hx : Words W A0 xs) (hxl : xs.length ≤ 9223372036854775807) (A1 : Option Addr) (c1 : Nat) (ys : List Int) (hy : Words W A1 ys) (hyl : ys.length ≤ 9223372036854775807) (s : List UInt8) (hm : s.length ≤ 9223372036854775807) (E : Env W) :
    Calls Tryz.prog 6 #[.slice A0 xs.length c0, .slice A1 ys.length c1, .string ⟨s.toArray⟩] W fun e W' => e = .returned (.bool true) ∧ Dn W W' := by
  exact leWalk0 W A0 c0 xs hx hxl A1 c1 ys hy hyl s hm E

end Go.Proofs.YtokhipjpppfkgaaGreatDoor
