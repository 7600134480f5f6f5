/-
  'gaolerlaw07.RegsSetAllRegisters' returns true when called, and writes nothing that was there: contract over the translated program. No conditions beyond what the kinds of its parameters say.
-/
import Derived.Test.YtphfhehahgeabaaRegAwake
import Derived.StillTailTactics
namespace Go.Proofs.Ytphfhehahgeabaa
open Go.ChangeShapes Go.WideShapes Go.ChangeAt Go.RowKit Go.Sort
set_option linter.unusedVariables false

section
variable {ops : Array Oper} {rest : List Oper} {dst : Option Tmp} {x : Operand} {ty : TypeId} {pos : String} {aft : Array Edge} {gd : Option (Nat × Bool)} {a : Act} {w : World} {Q : Act → Prop} {b : Nat} {c : List Int}
/-- sixteen words are loaded where the order is drawn and a chain of operations follows -/
theorem still16 (r : Row w b 23 .u32 c) (hl : c.length = 16) (hw : Region.wanted ⟨dst, .load 23 x, ty, pos, aft, gd⟩ (yielded ops a.tmps) = true) (hx : a.eval x = .pointer (some ⟨b, 0, none⟩))
    (h : wpStill Try.prog ops w Q rest (a.put dst (.agg (ints .u32 c)))) : wpStill Try.prog ops w Q (⟨dst, .load 23 x, ty, pos, aft, gd⟩ :: rest) a := by
  unfold wpStill
  rw [if_pos hw]
  unfold Oper.still execOp
  simp only [hx, Instr.loadAt, Instr.sureAddr, Sem.run_bind, Sem.run_pure, Result.andThen_ok, run_loadVar_row w b 23 23 (ints .u32 c) (0, 0) _ r Try.underlying23 rfl (info_16 c hl)]
  exact ⟨rfl, h⟩
end

/-- register k is among the first j of the order -/
def Among (t : Int) (j k : Nat) : Prop := ∃ m : Nat, m < j ∧ ((m : Int) * 5 + t) % 16 = k
def SaRel (W : World) (t : Int) (d : List Int) (b1 b2 : Nat) (x : Value) (w : World) : Prop :=
  ∃ (j : Nat) (a : List Int), j ≤ 16 ∧ x = .int .i64 j ∧ M.Regs a ∧ (∀ k : Nat, 1 ≤ k → k < 16 → Among t j k → a.getD k 0 = d.getD k 0) ∧ Row w b2 23 .u32 a ∧ Row w b1 23 .u32 d ∧ Dn W w
def SbRel (w0 : World) (x : Value) (w : World) : Prop := ∃ k : Nat, 1 ≤ k ∧ k ≤ 16 ∧ x = .int .i64 k ∧ Dn w0 w
theorem sa_more {t : Int} {a d : List Int} {j n : Nat} (ha : a.length = 16) (hn : ((j : Int) * 5 + t) % 16 = n) (hr : 0 ≤ d.getD n 0 ∧ d.getD n 0 < 4294967296) (h : ∀ k : Nat, 1 ≤ k → k < 16 → Among t j k → a.getD k 0 = d.getD k 0) :
    ∀ k : Nat, 1 ≤ k → k < 16 → Among t (j + 1) k → (M.setreg a n (d.getD n 0)).getD k 0 = d.getD k 0 := by
  rintro k k1 k2 ⟨m, hm, he⟩
  rw [M.getD_setreg ha]
  by_cases e : n = k
  · subst e
    rw [if_pos ⟨(M.stored_iff _).2 (by omega), rfl⟩]
  · rw [if_neg (by omega)]
    refine h k k1 k2 ⟨m, ?_, he⟩
    by_cases hmj : m = j
    · subst hmj; omega
    · omega
theorem sa_all {t : Int} {a d : List Int} (t0 : 0 ≤ t) (h : ∀ k : Nat, 1 ≤ k → k < 16 → Among t 16 k → a.getD k 0 = d.getD k 0) : ∀ k : Nat, 1 ≤ k → k < 16 → a.getD k 0 = d.getD k 0 :=
  fun k k1 k2 => h k k1 k2 ⟨((13 * ((k : Int) - t)) % 16).toNat, by omega, by omega⟩
theorem sa_clr {a d : List Int} (ha : a.length = 16) (hd : d.length = 16) (h : ∀ k : Nat, 1 ≤ k → k < 16 → a.getD k 0 = d.getD k 0) : M.clr0 a = M.clr0 d := by
  refine M.same_of (by rw [M.clr0_len, M.clr0_len, ha, hd]) fun j hj => ?_
  rw [M.clr0_len, ha] at hj
  rw [M.getD_clr0 ha, M.getD_clr0 hd]
  by_cases e : j = 0
  · rw [if_pos e, if_pos e]
  · rw [if_neg e, if_neg e, h j (by omega) hj]

set_option maxRecDepth 100000 in
set_option maxHeartbeats 1000000 in
theorem regSaWalk (c : List Int) (hc : M.Regs c) (d : List Int) (hd : M.Regs d) (t : Int) (t0 : 0 ≤ t) (t1 : t < 256) (W : World) :
    Calls Try.prog 6 #[.agg (ints .u32 c), .agg (ints .u32 d), .int .u8 t] W fun e W' => e = .returned (.bool true) ∧ Dn W W' := by
  have hl := hc.len
  have hs := hd.len
  have D := Lib.hid (((Dn.refl W).alloc (.cells (ints .u32 c) 23)).alloc (.cells (ints .u32 d) 23))
  have r := (Row.new W 23 .u32 c).dn ((Dn.refl _).alloc (.cells (ints .u32 d) 23))
  have s := Row.second W (.cells (ints .u32 c) 23) 23 .u32 d
  go_enter Try.func6, Try.ntmps6
  go_wp2_with fail
  refine (awake _).mono ?_
  rintro e w1 ⟨rfl, d1⟩
  replace r := r.dn d1
  replace s := s.dn d1
  replace D := Lib.hid (D.out.trans d1)
  clear d1
  have HN := Lib.hid (Nat.ne_of_lt s.lt)
  have HW := Lib.hid D.out.size
  generalize W.heap.size + 1 = b1 at s HN ⊢
  generalize hb0 : W.heap.size = b0 at r ⊢
  clear hb0
  have p := Row.new w1 23 .u32 c
  go_wp2_with (first | ((with_reducible refine load16 r hl ?_ ?_ ?_); rfl; rfl) | ((with_reducible refine alloc16 (b := w1.heap.size) rfl ?_ ?_); rfl) | ((with_reducible refine store16 (b := w1.heap.size) c hl zsize16 ?_ ?_ ?_ rfl ?_); rfl; rfl; rfl))
  replace s := s.dn ((Dn.refl w1).alloc (.cells (ints .u32 c) 23))
  replace D := Lib.hid (D.out.alloc (.cells (ints .u32 c) 23))
  clear r
  generalize w1.alloc (.cells (ints .u32 c) 23) = w2 at s p D ⊢
  generalize w1.heap.size = b2 at p HN HW ⊢
  go_loopw [8, 9] (fun x _ w => SaRel W t d b1 b2 x w) (fun x _ _ => 16 - (intOf x).toNat)
  case atStart => exact ⟨0, c, by decide, rfl, hc, fun k _ _ ⟨m, hm, _⟩ => absurd hm (by omega), p, s, D.out⟩
  clear p s D
  case round =>
    obtain ⟨j, a, hj, rfl, ha, hf, p, s, dn⟩ := hrel
    have la := ha.len
    have HF := Lib.hid hf
    have D := Lib.hid dn
    clear hf dn
    by_cases hlt : j < 16
    · have hlt2 : (j : Int) < 16 := by omega
      obtain ⟨n, hn⟩ : ∃ n : Nat, ((j : Int) * 5 + t) % 16 = n := ⟨(((j : Int) * 5 + t) % 16).toNat, by omega⟩
      have n1 : n < 16 := by omega
      have n2 : (n : Int) < 16 := by omega
      have n3 : (0 : Int) ≤ (n : Int) := by omega
      have hn2 : ((j : Int) * 5 + t).tmod 16 = n := by rw [Int.tmod_eq_emod_of_nonneg (by omega)]; exact hn
      have C1 := Lib.hid fun w => regSet a n (d.getD n 0) w la
      have dr := hd.rng n
      have G := Lib.hid (sa_more (t := t) la hn dr HF.out)
      have o1 := ha.setreg n _ dr.1 dr.2
      have l1 := o1.len
      have kc := s.cell n (by omega)
      generalize M.setreg a n (d.getD n 0) = a2 at C1 G o1 l1
      generalize d.getD n 0 = z at C1 kc
      go_wp2_with fail
      have hdr : Dn wr { wr with drawn := wr.drawn + 1 } := (Dn.refl wr).drew
      refine wp_region_still_tail 5 (by kernel_rfl) (by kernel_rfl) ?_
      simp only [List.take_succ_cons, List.take_zero, List.drop_succ_cons, List.drop_zero]
      replace p := p.dn hdr
      replace s := s.dn hdr
      replace D := Lib.hid (D.out.trans hdr)
      replace kc := hdr.keep kc
      clear hdr
      generalize ({ wr with drawn := wr.drawn + 1 } : World) = w3 at p s D kc ⊢
      refine still16 p la ?_ ?_ ?_
      · rfl
      · rfl
      simp only [Act.put, List.setIfInBounds_toArray, List.set_cons_succ, List.set_cons_zero]
      repeat still_step
      refine wpStill_nil ?_
      go_wp2_with fail
      refine (C1.out _).mono ?_
      rintro e w4 ⟨rfl, d1⟩
      replace p := p.dn d1
      replace s := s.dn d1
      replace D := Lib.hid (D.out.trans d1)
      clear d1 kc
      go_wp2_with (first | ((with_reducible refine restore16 p a2 la l1 ?_ ?_ ?_ ?_); rfl; rfl; rfl))
      go_roundw
      case rel => exact ⟨j + 1, a2, by omega, by go_num, o1, G.out, p.stored a2, s.other HN.out _, D.out.setRow HW.out _⟩
      case measure => simp [intOf]; omega
    · obtain rfl : j = 16 := by omega
      have HA : Hid (∀ k : Nat, 1 ≤ k → k < 16 → a.getD k 0 = d.getD k 0) := Lib.hid (sa_all t0 HF.out)
      have HZ := Lib.hid (sa_clr la hs HA.out)
      clear HF
      go_wp2_with fail
      go_loopw [10] (fun x w => SbRel wr x w) (fun x _ => 16 - (intOf x).toNat)
      case atStart => exact ⟨1, by decide, by decide, rfl, Dn.refl _⟩
      case round =>
        obtain ⟨k, hk1, hk, rfl, dn⟩ := hrel
        replace p := p.dn dn
        replace s := s.dn dn
        replace D := Lib.hid (D.out.trans dn)
        have DN := Lib.hid dn
        clear dn
        by_cases hlt : k < 16
        · have hlt2 : (k : Int) < 16 := by omega
          have C1 := Lib.hid fun w => regGet a k w la
          rw [M.reg_in ((M.stored_iff _).2 (by omega)), Int.toNat_natCast, HA.out k hk1 hlt] at C1
          have kc := s.cell k (by omega)
          generalize d.getD k 0 = z at C1 kc
          have kq := fun dd os => cell_regrown kc dd os
          have k0 : (0 : Int) ≤ (k : Int) := by omega
          clear kc
          go_wp2_with fail
          have QC1 := Lib.hid (later_of wr C1.out)
          refine wp_region_quiet_below (by kernel_rfl) (by kernel_rfl) ?_
          repeat (first | go_big_quiet_skip | (go_big_quiet_want; first | ((with_reducible refine qop16 p la ?_ ?_); rfl; simp only [Act.put, List.setIfInBounds_toArray, List.set_cons_succ, List.set_cons_zero]; go_big_quiet_on) | (go_big_quiet_op; first | go_big_quiet_on | go_big_quiet_call (first | (with_reducible exact QC1.out _ _)))))
          refine wpQuiet_nil ?_
          intro _ hw'
          obtain ⟨⟨dq, osq⟩, hw''⟩ := hw'
          subst hw''
          have dd := below_regrown wr dq osq
          clear QC1
          replace DN := Lib.hid (DN.out.trans dd)
          clear dd
          go_wp2
          go_roundw
          case rel => exact ⟨k + 1, by omega, by omega, by go_num, DN.out⟩
          case measure => simp [intOf]; omega
        · obtain rfl : k = 16 := by omega
          have C1 := Lib.hid fun w => regGet a 0 w la
          rw [M.reg_out (by decide)] at C1
          have C2 := Lib.hid fun w => regClear a w la
          have C3 := Lib.hid fun w => regClear d w hs
          rw [HZ.out] at C2
          have lz : (M.clr0 d).length = 16 := (M.clr0_len d).trans hs
          generalize M.clr0 d = z at C2 C3 lz
          have q1 := fun w => eq16 lz lz w
          simp only [beq_self_eq_true] at q1
          go_wp2_with fail
          have QC1 := Lib.hid (later_of wr C1.out)
          have QC2 := Lib.hid (later_of wr C2.out)
          have QC3 := Lib.hid (later_of wr C3.out)
          refine wp_region_quiet_below (by kernel_rfl) (by kernel_rfl) ?_
          repeat (first | go_big_quiet_skip | (go_big_quiet_want; first | ((with_reducible refine qop16 p la ?_ ?_); rfl; simp only [Act.put, List.setIfInBounds_toArray, List.set_cons_succ, List.set_cons_zero]; go_big_quiet_on) | ((with_reducible refine qop16 s hs ?_ ?_); rfl; simp only [Act.put, List.setIfInBounds_toArray, List.set_cons_succ, List.set_cons_zero]; go_big_quiet_on) | (go_big_quiet_op; first | go_big_quiet_on | go_big_quiet_call (first | (with_reducible exact QC1.out _ _) | (with_reducible exact QC2.out _ _) | (with_reducible exact QC3.out _ _)))))
          refine wpQuiet_nil ?_
          intro _ hw'
          obtain ⟨⟨dq, osq⟩, hw''⟩ := hw'
          subst hw''
          have dd := below_regrown wr dq osq
          clear QC1
          clear QC2
          clear QC3
          go_wp2
          go_ret
          exact ⟨rfl, D.out.trans dd⟩
end Go.Proofs.Ytphfhehahgeabaa
