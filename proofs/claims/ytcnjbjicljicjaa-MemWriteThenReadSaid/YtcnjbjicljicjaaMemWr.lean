/-
  'gaolerlaw05.MemWriteThenRead' returns true when called, and writes nothing that was there: contract over the translated program. No conditions beyond what the kinds of its parameters say.
-/
import Derived.Test.YtcnjbjicljicjaaMemOpen
namespace Go.Proofs.Ytcnjbjicljicjaa
open Go.ChangeShapes Go.WideShapes Go.ChangeAt Go.RowKit Go.Sort
open Go.Proofs.Ytcnjbjicljicjaa.M (By)
set_option linter.unusedVariables false

set_option maxRecDepth 100000 in
set_option maxHeartbeats 1000000 in
theorem wr_long (A B : Option Addr) (c d m n : Nat) (a : Int) (W : World) (hm : m ≤ 9223372036854775807) (hn : n ≤ 9223372036854775807) (h : 1000 < m ∨ m < n) :
    Calls Try.prog 5 #[.slice A m c, .int .u32 a, .slice B n d] W fun e W' => e = .returned (.bool true) ∧ Dn W W' := by
  by_cases h1 : (1000 : Int) < m
  · clear h
    go_enter Try.func5, Try.ntmps5
    go_wp2_with fail
    refine (awake W).mono ?_
    rintro e w1 ⟨rfl, d1⟩
    go_wp2_with fail
    refine (awake w1).mono ?_
    rintro e w2 ⟨rfl, d2⟩
    go_wp2
    go_ret
    exact ⟨rfl, d1.trans d2⟩
  · have h2 : (m : Int) < n := by omega
    clear h
    go_enter Try.func5, Try.ntmps5
    go_wp2_with fail
    refine (awake W).mono ?_
    rintro e w1 ⟨rfl, d1⟩
    go_wp2_with fail
    refine (awake w1).mono ?_
    rintro e w2 ⟨rfl, d2⟩
    go_wp2
    go_ret
    exact ⟨rfl, d1.trans d2⟩

theorem wpList_append8_at {ops : Array Oper} {rest : List Oper} {a : Act} {w : World} {Q : Exit → Act → World → Prop} {o : Oper} (hw : Region.wanted o (yielded ops a.tmps) = true) (s x : Operand)
    (ho : o.op = .call { callee := .builtin .append, args := #[s, x], argTypes := #[22, 22] })
    (base : Nat) (v : Value) (n : Nat) (xs : List Value) (hs : a.eval s = v) (hown : w.ownsRow base 5 1 v n xs) (A : Option Addr) (c m : Nat) (ys : List Int) (em : m = ys.length) (hx : a.eval x = .slice A m c) (hy : Bs w A c ys) (hn : n + ys.length ≤ 100000) (hb : base ≤ w.heap.size)
    (h : ∀ v' w', Hid (w'.ownsRow base 5 1 v' (n + ys.length) (xs ++ ys.map (Value.int .u8))) → Hid (w.grownBy w' v.ownBlock) → wpList Try.prog ops Q rest (a.put o.dst v') w') : wpList Try.prog ops Q (o :: rest) a w := by
  subst em
  exact wpList_append8 hw s x ho base v n xs hs hown A c ys hx hy hn hb (fun v' w' h1 h2 => h v' w' h1 h2)

set_option maxRecDepth 100000 in
set_option maxHeartbeats 4000000 in
theorem wr_short (A B : Option Addr) (c d : Nat) (xs bs : List Int) (a : Nat) (W : World) (hx : Hid (Bs W A c xs)) (hb : Hid (Bs W B d bs)) (hm : xs.length ≤ 1000) (hn : bs.length ≤ xs.length) (ha : a < 4294967296) :
    Calls Try.prog 5 #[.slice A xs.length c, .int .u32 (a : Int), .slice B bs.length d] W fun e W' => e = .returned (.bool true) ∧ Dn W W' := by
  have h1 : ¬ (1000 : Int) < xs.length := by omega
  have h2 : ¬ (xs.length : Int) < bs.length := by omega
  obtain ⟨t, r, HT, ht⟩ : ∃ t r : Nat, Hid ((a : Int) % (xs.length - bs.length + 1) = (t : Int)) ∧ xs.length = t + bs.length + r := by
    have hq := Nat.mod_lt a (show 0 < xs.length - bs.length + 1 by omega)
    refine ⟨a % (xs.length - bs.length + 1), xs.length - (a % (xs.length - bs.length + 1) + bs.length), Lib.hid ?_, by omega⟩
    rw [Int.natCast_emod]
    congr 1
    omega
  have tm : t ≤ 1000 := by omega
  have bm : bs.length ≤ 1000 := by omega
  have rm : r ≤ 1000 := by omega
  obtain ⟨ps, eps⟩ : ∃ ps, M.wr xs t bs = ps := ⟨_, rfl⟩
  obtain ⟨F, eF⟩ : ∃ F, M.rd xs 0 t = F := ⟨_, rfl⟩
  obtain ⟨K, eK⟩ : ∃ K, M.rd xs (t + bs.length) r = K := ⟨_, rfl⟩
  have LP : Hid (xs.length = ps.length) := Lib.hid (by rw [← eps, M.wr_len (by omega)])
  have LF : Hid (t = F.length) := Lib.hid (by rw [← eF, M.rd_len (by omega)])
  have LK : Hid (r = K.length) := Lib.hid (by rw [← eK, M.rd_len (by omega)])
  have E1 : Hid (M.wa xs t bs = ps) := Lib.hid (by unfold M.wa; rw [if_pos (by omega), eps])
  have E2 : Hid (M.ra ps t bs.length = bs) := Lib.hid (by
    unfold M.ra
    rw [if_pos (by rw [← LP.out]; omega), ← eps, M.rd_wr (by omega)])
  have E3 : Hid (M.ra ps 0 t = F) := Lib.hid (by
    unfold M.ra
    rw [if_pos (by rw [← LP.out]; omega), ← eps, M.rd_wr_before (by omega) (by omega), eF])
  have E4 : Hid (M.ra xs 0 t = F) := Lib.hid (by
    unfold M.ra
    rw [if_pos (by omega), eF])
  have E5 : Hid (M.ra ps (t + bs.length) r = K) := Lib.hid (by
    unfold M.ra
    rw [if_pos (by rw [← LP.out]; omega), ← eps, M.rd_wr_after (by omega) (Nat.le_refl _), eK])
  have E6 : Hid (M.ra xs (t + bs.length) r = K) := Lib.hid (by
    unfold M.ra
    rw [if_pos (by omega), eK])
  have EP : Hid (F ++ bs ++ K = ps) := Lib.hid (by
    have h := M.parts (xs := xs) (bs := bs) (a := t) (by omega)
    rw [M.rd_wr_before (by omega) (by omega), M.rd_wr_after (by omega) (Nat.le_refl _)] at h
    have e : xs.length - (t + bs.length) = r := by omega
    rw [e, eF, eK, eps] at h
    exact h)
  have HL := Lib.hid ht
  clear eps eF eK ht
  go_enter Try.func5, Try.ntmps5
  go_wp2_with fail
  refine (awake W).mono ?_
  rintro e w1 ⟨rfl, d1⟩
  have D1 := Lib.hid d1
  have X1 := Lib.hid (hx.out.dn d1)
  have B1 := Lib.hid (hb.out.dn d1)
  clear d1 hx hb
  go_wp2_with fail
  rw [HT.out]
  clear HT
  refine (writeAt_at t (ys := ps) (b := true) X1.out B1.out (by omega) (by omega) (by omega) rfl rfl rfl E1.out (decide_eq_true (by have := HL.out; omega))).mono ?_
  rintro e w2 ⟨A2, c2, rfl, P2, d2⟩
  have X2 := Lib.hid (X1.out.dn d2.out)
  have B2 := Lib.hid (B1.out.dn d2.out)
  have D2 := Lib.hid (D1.out.trans d2.out)
  clear X1 B1 D1 d2
  go_wp2_with fail
  refine (readAt_at t bs.length (ys := bs) (l := bs.length) (b := true) P2.out (by have := LP.out; omega) (by omega) (by omega) LP.out rfl (by omega) E2.out (decide_eq_true (by have := LP.out; have := HL.out; omega)) rfl).mono ?_
  rintro e w3 ⟨A3, c3, rfl, Q3, d3⟩
  have X3 := Lib.hid (X2.out.dn d3.out)
  have B3 := Lib.hid (B2.out.dn d3.out)
  have P3 := Lib.hid (P2.out.dn d3.out)
  have D3 := Lib.hid (D2.out.trans d3.out)
  clear X2 B2 P2 D2 d3
  go_wp2_with fail
  refine (same_yes _ _ _ _ _ _ bs bs _ Q3.out B3.out rfl rfl rfl (by omega)).mono ?_
  rintro e w4 ⟨rfl, d4⟩
  have X4 := Lib.hid (X3.out.dn d4)
  have P4 := Lib.hid (P3.out.dn d4)
  have Q4 := Lib.hid (Q3.out.dn d4)
  have D4 := Lib.hid (D3.out.trans d4)
  clear X3 B3 P3 D3 Q3 d4
  go_wp2_with fail
  refine (readAt_at 0 t (ys := F) (l := t) (b := true) P4.out (by have := LP.out; omega) (by omega) (by omega) LP.out rfl rfl E3.out (decide_eq_true (by have := LP.out; have := HL.out; omega)) LF.out).mono ?_
  rintro e w5 ⟨A5, c5, rfl, F5, d5⟩
  have X5 := Lib.hid (X4.out.dn d5.out)
  have P5 := Lib.hid (P4.out.dn d5.out)
  have Q5 := Lib.hid (Q4.out.dn d5.out)
  have D5 := Lib.hid (D4.out.trans d5.out)
  clear X4 P4 D4 Q4 d5
  go_wp2_with fail
  refine (readAt_at 0 t (ys := F) (l := t) (b := true) X5.out (by omega) (by omega) (by omega) rfl rfl rfl E4.out (decide_eq_true (by have := HL.out; omega)) LF.out).mono ?_
  rintro e w6 ⟨A6, c6, rfl, G6, d6⟩
  have X6 := Lib.hid (X5.out.dn d6.out)
  have P6 := Lib.hid (P5.out.dn d6.out)
  have Q6 := Lib.hid (Q5.out.dn d6.out)
  have F6 := Lib.hid (F5.out.dn d6.out)
  have D6 := Lib.hid (D5.out.trans d6.out)
  clear X5 P5 D5 Q5 F5 d6
  go_wp2_with fail
  refine (readAt_at (t + bs.length) r (ys := K) (l := r) (b := true) P6.out (by have := LP.out; omega) (by omega) (by omega) LP.out (by omega) (by have := HL.out; omega) E5.out (decide_eq_true (by have := LP.out; have := HL.out; omega)) LK.out).mono ?_
  rintro e w7 ⟨A7, c7, rfl, K7, d7⟩
  have X7 := Lib.hid (X6.out.dn d7.out)
  have P7 := Lib.hid (P6.out.dn d7.out)
  have Q7 := Lib.hid (Q6.out.dn d7.out)
  have F7 := Lib.hid (F6.out.dn d7.out)
  have G7 := Lib.hid (G6.out.dn d7.out)
  have D7 := Lib.hid (D6.out.trans d7.out)
  clear X6 P6 D6 Q6 F6 G6 d7
  go_wp2_with fail
  refine (readAt_at (t + bs.length) r (ys := K) (l := r) (b := true) X7.out (by omega) (by omega) (by omega) rfl (by omega) (by have := HL.out; omega) E6.out (decide_eq_true (by have := HL.out; omega)) LK.out).mono ?_
  rintro e w8 ⟨A8, c8, rfl, L8, d8⟩
  have P8 := Lib.hid (P7.out.dn d8.out)
  have Q8 := Lib.hid (Q7.out.dn d8.out)
  have F8 := Lib.hid (F7.out.dn d8.out)
  have G8 := Lib.hid (G7.out.dn d8.out)
  have K8 := Lib.hid (K7.out.dn d8.out)
  have D8 := Lib.hid (D7.out.trans d8.out)
  clear X7 P7 D7 Q7 F7 G7 K7 d8
  go_wp2_with fail
  refine (same_yes _ _ _ _ _ _ F F _ F8.out G8.out LF.out LF.out rfl (by have := LF.out; omega)).mono ?_
  rintro e w9 ⟨rfl, d9⟩
  have P9 := Lib.hid (P8.out.dn d9)
  have Q9 := Lib.hid (Q8.out.dn d9)
  have F9 := Lib.hid (F8.out.dn d9)
  have K9 := Lib.hid (K8.out.dn d9)
  have L9 := Lib.hid (L8.out.dn d9)
  have D9 := Lib.hid (D8.out.trans d9)
  clear P8 D8 Q8 F8 G8 K8 L8 d9
  go_wp2_with fail
  refine (same_yes _ _ _ _ _ _ K K _ K9.out L9.out LK.out LK.out rfl (by have := LK.out; omega)).mono ?_
  rintro e w10 ⟨rfl, d10⟩
  have P10 := Lib.hid (P9.out.dn d10)
  have Q10 := Lib.hid (Q9.out.dn d10)
  have F10 := Lib.hid (F9.out.dn d10)
  have K10 := Lib.hid (K9.out.dn d10)
  have D10 := Lib.hid (D9.out.trans d10)
  clear P9 D9 Q9 F9 K9 L9 d10
  have own0 := Lib.hid (own_zero w10)
  have d0 : Hid (Dn w10 (w10.alloc (Obj.cells #[] 5))) := Lib.hid ((Dn.refl _).alloc _)
  go_wp2_with (at_builtin; first
    | ((refine wpList_append8_at rfl _ _ rfl w10.heap.size (.slice (some ⟨w10.heap.size, 0, none⟩) 0 0) 0 [] rfl own0.out A5 c5 t F LF.out rfl (F10.out.dn d0.out) (by have := LF.out; omega) d0.out.size ?_); intro v1 w11 own1 gr1; have d1 : Hid (Dn w10 w11) := Lib.hid (below_keep d0.out gr1.out d0.out.size (fun r e => (own0.out.lt r e).1)))
    | ((refine wpList_append8_at rfl _ _ rfl w10.heap.size v1 (0 + F.length) _ rfl own1.out A3 c3 bs.length bs rfl rfl (Q10.out.dn d1.out) (by have := LF.out; omega) d1.out.size ?_); intro v2 w12 own2 gr2; have d2 : Hid (Dn w10 w12) := Lib.hid (below_keep d1.out gr2.out d1.out.size (fun r e => (own1.out.lt r e).1)))
    | ((refine wpList_append8_at rfl _ _ rfl w10.heap.size v2 (0 + F.length + bs.length) _ rfl own2.out A7 c7 r K LK.out rfl (K10.out.dn d2.out) (by have := LF.out; have := LK.out; omega) d2.out.size ?_); intro v3 w13 own3 gr3; have d3 : Hid (Dn w10 w13) := Lib.hid (below_keep d2.out gr3.out d2.out.size (fun r e => (own2.out.lt r e).1))))
  have own4 : w13.ownsRow w10.heap.size 5 1 v3 (0 + F.length + bs.length + K.length) (ps.map (Value.int .u8)) := by
    rw [← EP.out]
    simpa using own3.out
  obtain ⟨A4, c4, rfl, z4⟩ := Bs.of_own (by rw [← EP.out]; simp; omega) P10.out.2.1 own4
  have Z4 := Lib.hid z4
  clear own0 own1 own2 own3 own4 gr1 gr2 gr3 z4
  refine (same_yes _ _ _ _ _ _ ps ps _ Z4.out (P10.out.dn d3.out) rfl LP.out rfl (by have := LP.out; omega)).mono ?_
  rintro e w14 ⟨rfl, d14⟩
  have D14 := Lib.hid ((D10.out.trans d3.out).trans d14)
  clear d14
  go_wp2
  go_ret
  exact ⟨rfl, D14.out⟩

theorem wr_law (A B : Option Addr) (c d : Nat) (xs bs : List Int) (a : Nat) (W : World) (hx : Hid (Bs W A c xs)) (hb : Hid (Bs W B d bs)) (hm : xs.length ≤ 9223372036854775807) (hn : bs.length ≤ 9223372036854775807) (ha : a < 4294967296) :
    Calls Try.prog 5 #[.slice A xs.length c, .int .u32 (a : Int), .slice B bs.length d] W fun e W' => e = .returned (.bool true) ∧ Dn W W' := by
  by_cases h : xs.length ≤ 1000 ∧ bs.length ≤ xs.length
  · exact wr_short A B c d xs bs a W hx hb h.1 h.2 ha
  · exact wr_long A B c d _ _ _ W hm hn (by omega)
end Go.Proofs.Ytcnjbjicljicjaa
