/-
  What one of package gaolerref03 returns when called: contract over the translated program. Conditions: those that stand in each theorem.
-/
import Derived.Test.YtokhipjpppfkgaaGreatDoorRefParse
import Derived.Test.YtokhipjpppfkgaaGreatDoorRefLine
namespace Go.Proofs.YtokhipjpppfkgaaGreatDoor
open Go.ChangeShapes Go.WideShapes Go.ChangeAt Go.RowKit Go.Sort
set_option linter.unusedVariables false

/-- what Parse of the reference returns, as what asm.Parse returns -/
theorem refParse_any (s : List UInt8) (W : World) (hs : s.length ≤ 100000) :
    Calls Tryz.prog 12 #[.string ⟨s.toArray⟩] W fun e W' => ((∃ op rd ra rb imm, M.ok op rd ra rb imm = true ∧ M.text op rd ra rb imm = s ∧ e = .returned (.tuple #[.agg #[.int .i64 op, .int .i64 rd, .int .i64 ra, .int .i64 rb, .int .i32 imm], .int .i64 0])) ∨
      ((∀ op rd ra rb imm, M.ok op rd ra rb imm = true → M.text op rd ra rb imm ≠ s) ∧ e = .returned (.tuple #[.agg #[.int .i64 0, .int .i64 0, .int .i64 0, .int .i64 0, .int .i32 0], .int .i64 2]))) ∧ Dn W W' := by
  refine (refParse s W hs).mono ?_
  rintro e W' ⟨⟨op, rd, ra, rb, imm, L, hw, ho, hr, ha, hb, hi, h⟩, dn⟩
  refine ⟨?_, dn⟩
  rcases h with ⟨h1, h2, h3⟩ | ⟨h1, h2⟩
  · exact .inl ⟨_, _, _, _, _, h1, h2, h3⟩
  · refine .inr ⟨fun op' rd' ra' rb' imm' hk ht => h1 ?_, h2⟩
    subst ht
    obtain ⟨e0, e1, e2, e3, e4⟩ := prs_text op' rd' ra' rb' imm' hk L (wfld_text hw)
    rw [← ho] at e0
    rw [e0] at hr ha hb hi ⊢
    rw [hr, ha, hb, hi, e1, e2, e3, e4]
    exact ⟨hk, rfl⟩

/-- the lenient value of a hexadecimal digit -/
def M.dvI (c : UInt8) : Int := if 97 ≤ c.toNat then (c.toNat : Int) - 87 else (c.toNat : Int) - 48
def M.dv (c : UInt8) : Nat := (M.dvI c % 16).toNat
def M.wvS (w : Nat) (c : UInt8) : Nat := (16 * w + M.dv c) % 4294967296
def M.wv (l : List UInt8) : Nat := l.foldl M.wvS 0
theorem dv_hexd : ∀ d, d < 16 → M.dv (M.hexd d) = d := by decide
theorem wv_lt (l : List UInt8) : M.wv l < 4294967296 := by
  unfold M.wv
  suffices h : ∀ (l : List UInt8) (n : Nat), n < 4294967296 → l.foldl M.wvS n < 4294967296 from h l 0 (by omega)
  intro l
  induction l with
  | nil => intro n hn; exact hn
  | cons c r ih => intro n hn; exact ih _ (Nat.mod_lt _ (by decide))
theorem wv_hex (u : Nat) (hu : u < 4294967296) : M.wv (M.hexN 8 u) = u := by
  rw [hexN_front, hexN_front, hexN_front, hexN_front, hexN_front, hexN_front, hexN_front, hexN_front]
  show M.wvS (M.wvS (M.wvS (M.wvS (M.wvS (M.wvS (M.wvS (M.wvS 0 _) _) _) _) _) _) _) _ = u
  unfold M.wvS
  rw [dv_hexd _ (by omega), dv_hexd _ (by omega), dv_hexd _ (by omega), dv_hexd _ (by omega), dv_hexd _ (by omega), dv_hexd _ (by omega), dv_hexd _ (by omega), dv_hexd _ (by omega)]
  omega

theorem take_line (b : List UInt8) : (⟨(b ++ [10]).toArray⟩ : ByteArray).extract 0 b.length = ⟨b.toArray⟩ := by
  rw [extract_eq, List.drop_zero, List.take_left]

def OneRel (s : List UInt8) (W : World) (o k c v : Value) (w : World) : Prop :=
  ∃ j : Nat, 5 ≤ j ∧ j ≤ 13 ∧ k = .int .i64 j ∧ o = .int .u32 (M.wv ((s.take j).drop 5) : Nat) ∧ w = W
theorem wv_step (s : List UInt8) (k : Nat) (hf : 5 ≤ k) (hk : k < s.length) : M.wv ((s.take (k + 1)).drop 5) = (16 * M.wv ((s.take k).drop 5) + M.dv s[k]) % 4294967296 := by
  unfold M.wv
  rw [List.take_succ_eq_append_getElem hk, List.drop_append_of_le_length (by rw [List.length_take]; omega), List.foldl_append]
  rfl

/-- a line that is no text of an instruction -/
theorem line_hex {b : List UInt8} (hno : ∀ op rd ra rb imm, M.ok op rd ra rb imm = true → M.text op rd ra rb imm ≠ b) {x : Int} (h0 : 0 ≤ x) (h1 : x < 4294967296) (h : M.lineT x = b) : b = [119, 111, 114, 100, 32] ++ M.hexN 8 x.toNat := by
  cases hd : M.dok x
  · rw [← h, lineT_no hd, hex8_hexN x h0 h1]
  · exact absurd (by rw [← h, lineT_yes hd]) (hno _ _ _ _ _ (dok_ok hd).1)
theorem dv_lt (c : UInt8) : M.dv c < 16 := by unfold M.dv; omega
/-- the digit as the code reckons it -/
theorem dv_code (c : UInt8) (v : Int) (hv : v = M.dvI c) : ∃ T : Int, v.tmod 16 = T ∧ -16 < T ∧ T < 16 ∧ (T + 16) % 16 = (M.dv c : Nat) ∧ (T + 16).tmod 16 = (M.dv c : Nat) := by
  subst hv
  have e : ∀ v : Int, -16 < v.tmod 16 ∧ v.tmod 16 < 16 ∧ (v.tmod 16 + 16) % 16 = v % 16 := fun v => by
    by_cases h : 0 ≤ v
    · rw [Int.tmod_eq_emod_of_nonneg h]; omega
    · obtain ⟨u, rfl⟩ : ∃ u, v = -u := ⟨-v, by omega⟩
      rw [Int.neg_tmod, Int.tmod_eq_emod_of_nonneg (show 0 ≤ u by omega)]
      omega
  obtain ⟨h1, h2, h3⟩ := e (M.dvI c)
  have h4 : (M.dv c : Int) = M.dvI c % 16 := by unfold M.dv; omega
  refine ⟨_, rfl, h1, h2, by rw [h3, h4], ?_⟩
  rw [Int.tmod_eq_emod_of_nonneg (by omega), h3, h4]
theorem line_word {op rd ra rb imm : Int} (hk : M.ok op rd ra rb imm = true) : M.lineT (M.word op rd ra rb imm) = M.text op rd ra rb imm := by
  have hd := M.word_dok _ _ _ _ _ hk
  obtain ⟨e1, e2, e3, e4, e5⟩ := M.word_fields _ _ _ _ _ hk
  rw [lineT_yes hd, e1, e2, e3, e4, e5]

def OneRet (b : List UInt8) (W : World) (e : Ending) (W' : World) : Prop :=
  ((∃ x : Int, 0 ≤ x ∧ x < 4294967296 ∧ M.lineT x = b ∧ e = .returned (.tuple #[.int .u32 x, .bool true])) ∨ (¬ IsLine b ∧ ∃ x : Int, e = .returned (.tuple #[.int .u32 x, .bool false]))) ∧ Dn W W'

set_option maxRecDepth 100000 in
set_option maxHeartbeats 2000000 in
theorem refOne (b : List UInt8) (W : World) (hs : b.length ≤ 90000) :
    Calls Tryz.prog 32 #[.string ⟨(b ++ [10]).toArray⟩] W (OneRet b W) := by
  have HX := take_line b
  obtain ⟨s, hs1⟩ : ∃ s, s = b ++ [10] := ⟨_, rfl⟩
  have hsl : s.length = b.length + 1 := by rw [hs1]; simp
  rw [← hs1] at HX ⊢
  have HS := Lib.hid hs1
  clear hs1
  have hl0 : ((s.length : Int) == 0) = false := by rw [beq_eq_false_iff_ne]; omega
  have hl1 : (s.length : Int) - 1 = b.length := by omega
  go_enter Tryz.func32, Tryz.ntmps32
  go_wp2_with fail
  refine (refParse_any b _ (by omega)).mono ?_
  rintro e w1 ⟨h, d1⟩
  rcases h with ⟨op, rd, ra, rb, imm, hk, ht, rfl⟩ | ⟨hno, rfl⟩
  · have HT := Lib.hid ht
    clear ht
    have wr := M.word_rng _ _ _ _ _ hk
    go_wp2_with fail
    refine (refEncode_yes op rd ra rb imm _ hk).mono ?_
    rintro e w2 ⟨rfl, u2⟩
    have k2 := (d1.alloc (.cells #[.int .i64 op, .int .i64 rd, .int .i64 ra, .int .i64 rb, .int .i32 imm] 23)).trans u2.dn
    go_wp2_with fail
    refine (refLine (M.word op rd ra rb imm) _ wr.1 wr.2).mono ?_
    rintro e w3 ⟨rfl, d3⟩
    have hq : M.lineT (M.word op rd ra rb imm) ++ [10] = s := by rw [line_word hk, HT.out, HS.out]
    rw [hq]
    go_wp2
    go_ret2
    exact ⟨.inl ⟨_, wr.1, wr.2, by rw [line_word hk, HT.out], rfl⟩, k2.trans d3⟩
  · have HNO := Lib.hid hno
    clear hno
    by_cases h14 : s.length = 14
    · have hb13 : b.length = 13 := by omega
      have h14b : ((s.length : Int) != 14) = false := by rw [h14]; rfl
      go_wp2_with fail
      have k1 := d1.alloc (.cells #[.int .i64 0, .int .i64 0, .int .i64 0, .int .i64 0, .int .i32 0] 23)
      generalize w1.alloc (.cells #[.int .i64 0, .int .i64 0, .int .i64 0, .int .i64 0, .int .i32 0] 23) = w2 at *
      go_loopw [8, 9, 10, 11] (fun o k c v w => OneRel s w2 o k c v w) (fun _ k _ _ _ => 13 - (intOf k).toNat)
      case atStart => exact ⟨5, by decide, by decide, rfl, by rw [List.drop_take]; rfl, rfl⟩
      case round =>
        obtain ⟨j, h5, hj, rfl, rfl, rfl⟩ := hrel
        have hz := wv_lt ((s.take j).drop 5)
        by_cases hlt : j < 13
        · have hlt2 : (j : Int) < 13 := by omega
          have hjs : j < s.length := by omega
          have HST := Lib.hid (wv_step s j h5 hjs)
          obtain ⟨z, hzz⟩ : ∃ z, z = M.wv ((s.take j).drop 5) := ⟨_, rfl⟩
          rw [← hzz] at hz HST ⊢
          clear hzz
          obtain ⟨c, hc⟩ : ∃ c, c = s[j] := ⟨_, rfl⟩
          have hg : ∀ h2 : j < (⟨s.toArray⟩ : ByteArray).size, ((((⟨s.toArray⟩ : ByteArray)[j]'h2).toNat : Nat) : Int) = (c.toNat : Int) := fun h2 => by rw [at_nat hjs h2, hc]
          rw [← hc] at HST
          clear hc
          have hc2 : c.toNat < 256 := c.toNat_lt
          have hdl := dv_lt c
          by_cases h97 : 97 ≤ c.toNat
          · have h97b : (97 : Int) ≤ c.toNat := by omega
            obtain ⟨T, hT, t1, t2, t3, t4⟩ := dv_code c ((c.toNat : Int) - 87) (by unfold M.dvI; rw [if_pos h97])
            obtain ⟨D, hD⟩ : ∃ D, D = M.dv c := ⟨_, rfl⟩
            rw [← hD] at t3 t4 HST hdl
            clear hD
            go_wp2
            exact ⟨⟨j + 1, by omega, by omega, by go_num, by rw [HST.out]; congr 1; omega, rfl⟩, by simp [intOf]; omega⟩
          · have h97b : ¬ (97 : Int) ≤ c.toNat := by omega
            obtain ⟨T, hT, t1, t2, t3, t4⟩ := dv_code c ((c.toNat : Int) - 48) (by unfold M.dvI; rw [if_neg h97])
            obtain ⟨D, hD⟩ : ∃ D, D = M.dv c := ⟨_, rfl⟩
            rw [← hD] at t3 t4 HST hdl
            clear hD
            go_wp2
            exact ⟨⟨j + 1, by omega, by omega, by go_num, by rw [HST.out]; congr 1; omega, rfl⟩, by simp [intOf]; omega⟩
        · obtain rfl : j = 13 := by omega
          obtain ⟨z, hzz⟩ : ∃ z, z = M.wv ((s.take 13).drop 5) := ⟨_, rfl⟩
          rw [← hzz] at hz ⊢
          have HZ := Lib.hid hzz
          clear hzz
          go_wp2_with fail
          refine (refLine (z : Int) _ (by omega) (by omega)).mono ?_
          rintro e w3 ⟨rfl, d3⟩
          by_cases hq : M.lineT (z : Int) = b
          · have hq2 : M.lineT (z : Int) ++ [10] = s := by rw [hq, HS.out]
            rw [hq2]
            have HQ := Lib.hid hq
            clear hq hq2
            go_wp2
            go_ret2
            exact ⟨.inl ⟨(z : Int), by omega, by omega, HQ.out, rfl⟩, k1.trans d3⟩
          · have hq2 : (M.lineT (z : Int) ++ [10] == s) = false := by
              rw [beq_eq_false_iff_ne]
              intro e
              rw [HS.out] at e
              exact hq (List.append_cancel_right e)
            have HQ := Lib.hid hq
            obtain ⟨y, hy⟩ : ∃ y, y = M.lineT (z : Int) ++ [10] := ⟨_, rfl⟩
            rw [← hy] at hq2 ⊢
            clear hq hy
            go_wp2
            go_ret2
            refine ⟨.inr ⟨?_, _, rfl⟩, k1.trans d3⟩
            rintro ⟨x, h0, h1, hx⟩
            have e := line_hex HNO.out h0 h1 hx
            have e2 : (s.take 13).drop 5 = M.hexN 8 x.toNat := by
              have h13 : ([119, 111, 114, 100, 32] ++ M.hexN 8 x.toNat).length = 13 := by rw [List.length_append, hexN_len]; rfl
              rw [HS.out, e, List.take_left' h13]
              rfl
            have e3 : z = x.toNat := by rw [HZ.out, e2, wv_hex _ (by omega)]
            apply HQ.out
            rw [e3, Int.toNat_of_nonneg h0]
            exact hx
    · have h14b : ((s.length : Int) != 14) = true := by simp; omega
      go_wp2
      go_ret2
      refine ⟨.inr ⟨?_, _, rfl⟩, d1.alloc _⟩
      rintro ⟨x, h0, h1, hx⟩
      have := line_hex HNO.out h0 h1 hx
      rw [this] at hsl
      simp only [List.length_append, List.length_cons, List.length_nil, hexN_len] at hsl
      omega
end Go.Proofs.YtokhipjpppfkgaaGreatDoor
