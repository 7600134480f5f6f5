/-
  What Parse of package gaolerref03 returns when called: contract over the translated program. Conditions: those that stand in each theorem.
-/
import Derived.Test.YtokhipjpppfkgaaGreatDoorRefPm
import Derived.Lib.QuietBelow
import Derived.BigQuiet
namespace Go.Proofs.YtokhipjpppfkgaaGreatDoor
open Go.ChangeShapes Go.WideShapes Go.ChangeAt Go.RowKit Go.Sort
set_option linter.unusedVariables false

section
variable {w : World} {b : Nat} {v0 v1 v2 v3 v4 : Value}
theorem set_same {w : World} {a : Addr} {u v : Value} (h : w.cell? a = some u) : (w.setCell a v).cell? a = some v := World.cell?_setCell_same' w a v (by rw [h]; rfl)
theorem set_other {w : World} {a b : Addr} {v : Value} (h : a ≠ b) : (w.setCell a v).cell? b = w.cell? b := World.cell?_setCell_other w a b v h
theorem at_ne (b : Nat) {i j : Nat} (h : i ≠ j) : (⟨b, i, none⟩ : Addr) ≠ ⟨b, j, none⟩ := fun e => h (by injection e)
theorem blk_ne {a b : Nat} (h : a ≠ b) (i j : Nat) : (⟨a, i, none⟩ : Addr) ≠ ⟨b, j, none⟩ := fun e => h (by injection e)
theorem Box.put0 (h : Box w b v0 v1 v2 v3 v4) (u : Value) : Box (w.setCell ⟨b, 0, none⟩ u) b u v1 v2 v3 v4 :=
  ⟨set_same h.c0, (set_other (at_ne b (by decide))).trans h.c1, (set_other (at_ne b (by decide))).trans h.c2, (set_other (at_ne b (by decide))).trans h.c3, (set_other (at_ne b (by decide))).trans h.c4, by simpa using h.lt, fun j => (World.frozen?_setCell w _ _ u).trans (h.fr j)⟩
theorem Box.put1 (h : Box w b v0 v1 v2 v3 v4) (u : Value) : Box (w.setCell ⟨b, 1, none⟩ u) b v0 u v2 v3 v4 :=
  ⟨(set_other (at_ne b (by decide))).trans h.c0, set_same h.c1, (set_other (at_ne b (by decide))).trans h.c2, (set_other (at_ne b (by decide))).trans h.c3, (set_other (at_ne b (by decide))).trans h.c4, by simpa using h.lt, fun j => (World.frozen?_setCell w _ _ u).trans (h.fr j)⟩
theorem Box.put2 (h : Box w b v0 v1 v2 v3 v4) (u : Value) : Box (w.setCell ⟨b, 2, none⟩ u) b v0 v1 u v3 v4 :=
  ⟨(set_other (at_ne b (by decide))).trans h.c0, (set_other (at_ne b (by decide))).trans h.c1, set_same h.c2, (set_other (at_ne b (by decide))).trans h.c3, (set_other (at_ne b (by decide))).trans h.c4, by simpa using h.lt, fun j => (World.frozen?_setCell w _ _ u).trans (h.fr j)⟩
theorem Box.put3 (h : Box w b v0 v1 v2 v3 v4) (u : Value) : Box (w.setCell ⟨b, 3, none⟩ u) b v0 v1 v2 u v4 :=
  ⟨(set_other (at_ne b (by decide))).trans h.c0, (set_other (at_ne b (by decide))).trans h.c1, (set_other (at_ne b (by decide))).trans h.c2, set_same h.c3, (set_other (at_ne b (by decide))).trans h.c4, by simpa using h.lt, fun j => (World.frozen?_setCell w _ _ u).trans (h.fr j)⟩
theorem Box.put4 (h : Box w b v0 v1 v2 v3 v4) (u : Value) : Box (w.setCell ⟨b, 4, none⟩ u) b v0 v1 v2 v3 u :=
  ⟨(set_other (at_ne b (by decide))).trans h.c0, (set_other (at_ne b (by decide))).trans h.c1, (set_other (at_ne b (by decide))).trans h.c2, (set_other (at_ne b (by decide))).trans h.c3, set_same h.c4, by simpa using h.lt, fun j => (World.frozen?_setCell w _ _ u).trans (h.fr j)⟩
theorem Box.apart (h : Box w b v0 v1 v2 v3 v4) {c : Nat} (hne : c ≠ b) (i : Nat) (u : Value) : Box (w.setCell ⟨c, i, none⟩ u) b v0 v1 v2 v3 v4 :=
  ⟨(set_other (blk_ne hne _ _)).trans h.c0, (set_other (blk_ne hne _ _)).trans h.c1, (set_other (blk_ne hne _ _)).trans h.c2, (set_other (blk_ne hne _ _)).trans h.c3, (set_other (blk_ne hne _ _)).trans h.c4, by simpa using h.lt, fun j => (World.frozen?_setCell w _ _ u).trans (h.fr j)⟩
end

/-- the first four fields in memory -/
def FC (w : World) (g : Nat) (L : List (List UInt8)) : Prop := ∀ j, j < 4 → w.cell? ⟨g, j, none⟩ = some (.string ⟨(M.fld L j).toArray⟩)
theorem FC.dn {w w' : World} {g : Nat} {L : List (List UInt8)} (h : FC w g L) (k : Dn w w') : FC w' g L := fun j hj => k.keep (h j hj)
theorem FC.put {w : World} {g : Nat} {L : List (List UInt8)} (h : FC w g L) {b : Nat} (hne : b ≠ g) (i : Nat) (u : Value) : FC (w.setCell ⟨b, i, none⟩ u) g L := fun j hj => (set_other (blk_ne hne _ _)).trans (h j hj)

theorem own_flds {W : World} {base : Nat} {v : Value} {L : List (List UInt8)} (h : W.ownsRow base 9 1 v (L.length + 4) (L.map strV ++ [strV [], strV [], strV [], strV []])) :
    ∃ g cap, v = .slice (some ⟨g, 0, none⟩) (L.length + 4) cap ∧ FC W g L ∧ base ≤ g ∧ g < W.heap.size := by
  rcases h.2 with ⟨rfl, h0⟩ | ⟨g, cap, cur, rfl, hb, hg, hnc, hcm, hsz, htk⟩
  · omega
  · refine ⟨g, cap, rfl, fun j hj => ?_, hb, (Array.getElem?_eq_some_iff.1 hg).1⟩
    have h1 : (L.map strV ++ [strV [], strV [], strV [], strV []])[j]? = some (strV (M.fld L j)) := by
      have e : L.map strV ++ [strV [], strV [], strV [], strV []] = (L ++ [[], [], [], []]).map strV := by simp
      rw [e, List.getElem?_map]
      have hl : j < (L ++ [[], [], [], []]).length := by simp; omega
      unfold M.fld
      rw [List.getD_eq_getElem?_getD, List.getElem?_eq_getElem hl]
      rfl
    have h2 : cur[j]? = some (strV (M.fld L j)) := by
      rw [← htk, List.getElem?_take, if_pos (by omega), Array.getElem?_toList] at h1
      exact h1
    unfold World.cell?
    rw [hg]
    exact h2

def PRel (W : World) (g b r : Nat) (L : List (List UInt8)) (o : Value) (w : World) : Prop :=
  ∃ k : Nat, k ≤ 25 ∧ o = .int .i64 ((k : Int) + 1) ∧ Box w b (.int .i64 (M.opK (M.fld L 0) k : Nat)) (.int .i64 0) (.int .i64 0) (.int .i64 0) (.int .i32 0) ∧ Box w r (.int .i64 0) (.int .i64 0) (.int .i64 0) (.int .i64 0) (.int .i32 0) ∧ FC w g L ∧ Dn W w

/-- what Parse returns, the fields being L and the format f -/
def ParseRet (s : List UInt8) (W : World) (e : Ending) (W' : World) : Prop :=
  (∃ (op : Nat) (rd ra rb imm : Int) (L : List (List UInt8)), WFld s L (s.length + 1) ∧ op = M.opK (M.fld L 0) 25 ∧ rd = M.pRd L (M.form op) ∧ ra = M.pRa L (M.form op) ∧ rb = M.pRb L (M.form op) ∧ imm = M.pIm L (M.form op) ∧
    ((M.ok op rd ra rb imm = true ∧ M.text op rd ra rb imm = s ∧ e = .returned (.tuple #[.agg #[.int .i64 op, .int .i64 rd, .int .i64 ra, .int .i64 rb, .int .i32 imm], .int .i64 0])) ∨
     (¬ (M.ok op rd ra rb imm = true ∧ M.text op rd ra rb imm = s) ∧ e = .returned (.tuple #[.agg #[.int .i64 0, .int .i64 0, .int .i64 0, .int .i64 0, .int .i32 0], .int .i64 2])))) ∧ Dn W W'

theorem fld_len {s : List UInt8} {L : List (List UInt8)} (h : WFld s L (s.length + 1)) (j : Nat) (hs : s.length ≤ 100000) : (M.fld L j).length ≤ 100000 := by
  obtain ⟨_, h2, _⟩ := h
  unfold M.fld
  rw [List.getD_eq_getElem?_getD]
  cases hx : (L ++ [[], [], [], []])[j]? with
  | none => simp
  | some x =>
    have hm := List.mem_of_getElem? hx
    rcases List.mem_append.1 hm with hm | hm
    · obtain ⟨A, B, rfl⟩ := List.append_of_mem hm
      have e := congrArg List.length h2
      rw [List.take_of_length_le (by simp)] at e
      simp only [List.map_append, List.map_cons, List.flatten_append, List.flatten_cons, List.length_append, List.length_cons, List.length_nil] at e
      simp only [Option.getD_some]
      omega
    · simp at hm
      simp only [Option.getD_some]
      rw [hm]; simp

set_option maxRecDepth 100000 in
set_option maxHeartbeats 8000000 in
theorem refParse (s : List UInt8) (W : World) (hs : s.length ≤ 100000) :
    Calls Tryz.prog 12 #[.string ⟨s.toArray⟩] W (ParseRet s W) := by
  go_enter Tryz.func12, Tryz.ntmps12
  go_wp2_with fail
  have rx := Box.new W (.int .i64 0) (.int .i64 0) (.int .i64 0) (.int .i64 0) (.int .i32 0) 23
  have k0 := (Dn.refl W).alloc (.cells #[.int .i64 0, .int .i64 0, .int .i64 0, .int .i64 0, .int .i32 0] 23)
  have hs0 : W.heap.size + 1 = (W.alloc (.cells #[.int .i64 0, .int .i64 0, .int .i64 0, .int .i64 0, .int .i32 0] 23)).heap.size := by simp
  refine (refWords s _ hs).mono ?_
  rintro e w1 ⟨L, v, hw, rfl, own, d1⟩
  have HW := Lib.hid hw
  have hfl : ∀ j, (M.fld L j).length ≤ 100000 := fun j => fld_len hw j hs
  clear hw
  rw [← hs0] at own
  obtain ⟨g, cap, rfl, fc, hg1, hg2⟩ := own_flds own
  have k1 := k0.trans d1
  have rx := rx.dn d1
  obtain ⟨n, hn⟩ : ∃ n, n = L.length + 4 := ⟨_, rfl⟩
  have hn4 : 4 ≤ n := by omega
  rw [← hn]
  clear hn own
  have k2 := k1.alloc (.cells #[.int .i64 0, .int .i64 0, .int .i64 0, .int .i64 0, .int .i32 0] 23)
  have bx := Box.new w1 (.int .i64 0) (.int .i64 0) (.int .i64 0) (.int .i64 0) (.int .i32 0) 23
  have rx := rx.dn ((Dn.refl w1).alloc (.cells #[.int .i64 0, .int .i64 0, .int .i64 0, .int .i64 0, .int .i32 0] 23))
  have fc := fc.dn ((Dn.refl w1).alloc (.cells #[.int .i64 0, .int .i64 0, .int .i64 0, .int .i64 0, .int .i32 0] 23))
  have hsz := k1.size
  go_wp2_with fail
  obtain ⟨b, hb⟩ : ∃ b, b = w1.heap.size := ⟨_, rfl⟩
  obtain ⟨r, hr⟩ : ∃ r, r = W.heap.size := ⟨_, rfl⟩
  rw [← hb] at bx ⊢
  rw [← hr] at rx ⊢
  have hrb : W.heap.size < w1.heap.size := by omega
  have hbg : b ≠ g := by omega
  have hbr : b ≠ r := by omega
  have hWb : W.heap.size ≤ b := by omega
  have hWr : W.heap.size ≤ r := by omega
  generalize w1.alloc (.cells #[.int .i64 0, .int .i64 0, .int .i64 0, .int .i64 0, .int .i32 0] 23) = w2 at *
  clear hb hr hsz hs0 hg1 hg2 k1 k0 d1 hrb
  go_loopw [6] (fun o w => PRel W g b r L o w) (fun o _ => 26 - (intOf o).toNat)
  case atStart => exact ⟨0, by decide, rfl, bx, rx, fc, k2⟩
  case round =>
    obtain ⟨k, hk, rfl, bx, rx, fc, dn⟩ := hrel
    by_cases hlt : k < 25
    · have hlt2 : (k : Int) + 1 ≤ 25 := by omega
      have c1 : ∀ p q, Calls Tryz.prog 23 #[.int .i64 ((k : Int) + 1)] (grow (redrawn wr p) q) fun e w'' => e = .returned (.string ⟨(M.mnem ((k : Int) + 1)).toArray⟩) ∧ ∃ p : Regrown, w'' = grow (redrawn wr p.d) p.os := fun p q => Calls.regrown_of (refName ((k : Int) + 1) _ (by omega) (by omega))
      have C1 := Lib.hid c1
      clear c1
      have f0 := fc 0 (by decide)
      have l0 := fun d os => cell_regrown f0 d os
      have hn0 : (0 : Int) < n := by omega
      have HK : Hid (M.opK (M.fld L 0) (k + 1) = if M.mnem ((k : Int) + 1) = M.fld L 0 then k + 1 else M.opK (M.fld L 0) k) := Lib.hid rfl
      by_cases heq : M.mnem ((k : Int) + 1) = M.fld L 0
      · have HE := Lib.hid heq
        have heb : (M.mnem ((k : Int) + 1) == M.fld L 0) = true := by simpa using heq
        clear heq
        go_wp2_with fail
        refine wp_region_quiet_below (by kernel_rfl) (by kernel_rfl) ?_
        repeat (first | go_big_quiet_skip | (go_big_quiet_want; (go_big_quiet_op; first | go_big_quiet_on | go_big_quiet_call (with_reducible exact C1.out _ _))))
        refine wpQuiet_nil ?_
        intro _ hw'
        obtain ⟨⟨dq, osq⟩, hw''⟩ := hw'
        subst hw''
        have dd := below_regrown wr dq osq
        have bx2 := bx.dn dd
        have rx2 := rx.dn dd
        have fc2 := fc.dn dd
        have dn2 := dn.trans dd
        generalize grow (redrawn wr dq) osq = w3 at *
        have fr0 := bx2.fr
        obtain ⟨c0, c1, c2, c3, c4, c5⟩ := bx2.open
        clear l0 f0 dd
        go_wp2
        go_roundw
        case rel =>
          refine ⟨k + 1, by omega, by go_num, ?_, rx2.apart hbr 0 _, fc2.put hbg 0 _, dn2.setCell hWb _⟩
          rw [HK.out, if_pos HE.out]
          exact bx2.put0 _
        case measure => simp [intOf]; omega
      · have HE := Lib.hid heq
        have heb : (M.mnem ((k : Int) + 1) == M.fld L 0) = false := by simpa using heq
        clear heq
        go_wp2_with fail
        refine wp_region_quiet_below (by kernel_rfl) (by kernel_rfl) ?_
        repeat (first | go_big_quiet_skip | (go_big_quiet_want; (go_big_quiet_op; first | go_big_quiet_on | go_big_quiet_call (with_reducible exact C1.out _ _))))
        refine wpQuiet_nil ?_
        intro _ hw'
        obtain ⟨⟨dq, osq⟩, hw''⟩ := hw'
        subst hw''
        have dd := below_regrown wr dq osq
        have bx2 := bx.dn dd
        have rx2 := rx.dn dd
        have fc2 := fc.dn dd
        have dn2 := dn.trans dd
        generalize grow (redrawn wr dq) osq = w3 at *
        clear l0 f0 dd
        go_wp2
        go_roundw
        case rel =>
          refine ⟨k + 1, by omega, by go_num, ?_, rx2, fc2, dn2⟩
          rw [HK.out, if_neg HE.out]
          exact bx2
        case measure => simp [intOf]; omega
    · obtain rfl : k = 25 := by omega
      have HOPL := Lib.hid (opK_le (M.fld L 0) 25)
      obtain ⟨op, hop⟩ : ∃ op, op = M.opK (M.fld L 0) 25 := ⟨_, rfl⟩
      rw [← hop] at bx HOPL
      have HOP := Lib.hid hop
      have hop25 := HOPL.out
      clear hop
      have hn1 : (1 : Int) < n := by omega
      have hn2 : (2 : Int) < n := by omega
      have hn3 : (3 : Int) < n := by omega
      have hc : M.form (op : Int) = 0 ∨ M.form (op : Int) = 1 ∨ M.form (op : Int) = 2 ∨ M.form (op : Int) = 3 ∨ M.form (op : Int) = 4 ∨ M.form (op : Int) = 5 ∨ M.form (op : Int) = 6 ∨ M.form (op : Int) = 7 := by have := M.form_rng op; omega
      rcases hc with hf | hf | hf | hf | hf | hf | hf | hf
      · have PRD : Hid (M.pRd L (M.form (op : Int)) = 0) := Lib.hid (by rw [hf]; unfold M.pRd; simp)
        have PRA : Hid (M.pRa L (M.form (op : Int)) = 0) := Lib.hid (by rw [hf]; unfold M.pRa; simp)
        have PRB : Hid (M.pRb L (M.form (op : Int)) = 0) := Lib.hid (by rw [hf]; unfold M.pRb; simp)
        have PIM : Hid (M.pIm L (M.form (op : Int)) = 0) := Lib.hid (by rw [hf]; unfold M.pIm; simp)
        obtain ⟨c0, c1, c2, c3, c4, c5⟩ := bx.open
        go_wp2_with fail
        refine (refForm op _).mono ?_
        rintro e w ⟨rfl, rfl⟩
        go_wp2_with fail
        clear c0 c1 c2 c3 c4 c5
        cases hk : M.ok (op : Int) (0) (0) (0) (0)
        · refine (refText_no (op : Int) (0) (0) (0) (0) _ hk (by omega) (by omega)).mono ?_
          rintro e y ⟨rfl, dT⟩
          have ry := rx.dn dT
          have by_ := bx.dn dT
          have fr1 := ry.fr
          obtain ⟨m0, m1, m2, m3, m4, m5⟩ := ry.open
          obtain ⟨c0, c1, c2, c3, c4, c5⟩ := by_.open
          have dnT := dn.trans dT
          go_wp2
          refine bodyPost_ret (by simp [results, Tryz.results12, go_sem, m0, m1, m2, m3, m4]; try rfl) rfl ?_
          refine ⟨⟨op, _, _, _, _, L, HW.out, HOP.out, PRD.out.symm, PRA.out.symm, PRB.out.symm, PIM.out.symm, ?_⟩, ((((dnT.setCell hWr _).setCell hWr _).setCell hWr _).setCell hWr _).setCell hWr _⟩
          exact .inr ⟨fun hh => by rw [hk] at hh; exact absurd hh.1 (by decide), rfl⟩
        · by_cases ht : M.text (op : Int) (0) (0) (0) (0) = s
          · refine (refText_yes (op : Int) (0) (0) (0) (0) _ hk).mono ?_
            rintro e y ⟨rfl, dT⟩
            have ry := rx.dn dT
            have by_ := bx.dn dT
            have fr1 := ry.fr
            obtain ⟨m0, m1, m2, m3, m4, m5⟩ := ry.open
            obtain ⟨c0, c1, c2, c3, c4, c5⟩ := by_.open
            have dnT := dn.trans dT
            go_wp2
            refine bodyPost_ret (by simp [results, Tryz.results12, go_sem, m0, m1, m2, m3, m4]; try rfl) rfl ?_
            refine ⟨⟨op, _, _, _, _, L, HW.out, HOP.out, PRD.out.symm, PRA.out.symm, PRB.out.symm, PIM.out.symm, ?_⟩, ((((dnT.setCell hWr _).setCell hWr _).setCell hWr _).setCell hWr _).setCell hWr _⟩
            exact .inl ⟨hk, ht, rfl⟩
          · have htb : (M.text (op : Int) (0) (0) (0) (0) == s) = false := by simpa using ht
            refine (refText_yes (op : Int) (0) (0) (0) (0) _ hk).mono ?_
            rintro e y ⟨rfl, dT⟩
            have ry := rx.dn dT
            have by_ := bx.dn dT
            have fr1 := ry.fr
            obtain ⟨m0, m1, m2, m3, m4, m5⟩ := ry.open
            obtain ⟨c0, c1, c2, c3, c4, c5⟩ := by_.open
            have dnT := dn.trans dT
            go_wp2
            refine bodyPost_ret (by simp [results, Tryz.results12, go_sem, m0, m1, m2, m3, m4]; try rfl) rfl ?_
            refine ⟨⟨op, _, _, _, _, L, HW.out, HOP.out, PRD.out.symm, PRA.out.symm, PRB.out.symm, PIM.out.symm, ?_⟩, ((((dnT.setCell hWr _).setCell hWr _).setCell hWr _).setCell hWr _).setCell hWr _⟩
            exact .inr ⟨fun hh => ht hh.2, rfl⟩
      · have PRD : Hid (M.pRd L (M.form (op : Int)) = M.numV (M.fld L 1) false) := Lib.hid (by rw [hf]; unfold M.pRd; simp)
        have PRA : Hid (M.pRa L (M.form (op : Int)) = M.numV (M.fld L 2) false) := Lib.hid (by rw [hf]; unfold M.pRa; simp)
        have PRB : Hid (M.pRb L (M.form (op : Int)) = M.numV (M.fld L 3) false) := Lib.hid (by rw [hf]; unfold M.pRb; simp)
        have PIM : Hid (M.pIm L (M.form (op : Int)) = 0) := Lib.hid (by rw [hf]; unfold M.pIm; simp)
        have fj := fc 1 (by decide)
        obtain ⟨c0, c1, c2, c3, c4, c5⟩ := bx.open
        go_wp2_with fail
        refine (refForm op _).mono ?_
        rintro e w ⟨rfl, rfl⟩
        go_wp2_with fail
        clear fj c0 c1 c2 c3 c4 c5
        refine (num_v1 (M.fld L 1) _ (hfl 1)).mono ?_
        rintro e x1 ⟨rfl, d1⟩
        have nr1 := numV_rng (M.fld L 1) false
        have bo := bx.dn d1
        have bx1 := bo.put1 (.int .i64 (M.numV (M.fld L 1) false))
        have rx1 := (rx.dn d1).apart hbr 1 (.int .i64 (M.numV (M.fld L 1) false))
        have fo := fc.dn d1
        have fc1 := fo.put hbg 1 (.int .i64 (M.numV (M.fld L 1) false))
        have dn1 := (dn.trans d1).setCell (p := ⟨b, 1, none⟩) hWb (.int .i64 (M.numV (M.fld L 1) false))
        have fr0 := bo.fr
        obtain ⟨c0, c1, c2, c3, c4, c5⟩ := bo.open
        have fj := fo 2 (by decide)
        go_wp2_with fail
        clear fr0 c0 c1 c2 c3 c4 c5 bo fo fj
        refine (num_v1 (M.fld L 2) _ (hfl 2)).mono ?_
        rintro e x2 ⟨rfl, d2⟩
        have nr2 := numV_rng (M.fld L 2) false
        have bo := bx1.dn d2
        have bx2 := bo.put2 (.int .i64 (M.numV (M.fld L 2) false))
        have rx2 := (rx1.dn d2).apart hbr 2 (.int .i64 (M.numV (M.fld L 2) false))
        have fo := fc1.dn d2
        have fc2 := fo.put hbg 2 (.int .i64 (M.numV (M.fld L 2) false))
        have dn2 := (dn1.trans d2).setCell (p := ⟨b, 2, none⟩) hWb (.int .i64 (M.numV (M.fld L 2) false))
        have fr0 := bo.fr
        obtain ⟨c0, c1, c2, c3, c4, c5⟩ := bo.open
        have fj := fo 3 (by decide)
        go_wp2_with fail
        clear fr0 c0 c1 c2 c3 c4 c5 bo fo fj
        refine (num_v1 (M.fld L 3) _ (hfl 3)).mono ?_
        rintro e x3 ⟨rfl, d3⟩
        have nr3 := numV_rng (M.fld L 3) false
        have bo := bx2.dn d3
        have bx3 := bo.put3 (.int .i64 (M.numV (M.fld L 3) false))
        have rx3 := (rx2.dn d3).apart hbr 3 (.int .i64 (M.numV (M.fld L 3) false))
        have fo := fc2.dn d3
        have fc3 := fo.put hbg 3 (.int .i64 (M.numV (M.fld L 3) false))
        have dn3 := (dn2.trans d3).setCell (p := ⟨b, 3, none⟩) hWb (.int .i64 (M.numV (M.fld L 3) false))
        have fr0 := bo.fr
        obtain ⟨c0, c1, c2, c3, c4, c5⟩ := bo.open
        go_wp2_with fail
        clear fr0 c0 c1 c2 c3 c4 c5 bo fo
        cases hk : M.ok (op : Int) (M.numV (M.fld L 1) false) (M.numV (M.fld L 2) false) (M.numV (M.fld L 3) false) (0)
        · refine (refText_no (op : Int) (M.numV (M.fld L 1) false) (M.numV (M.fld L 2) false) (M.numV (M.fld L 3) false) (0) _ hk (by omega) (by omega)).mono ?_
          rintro e y ⟨rfl, dT⟩
          have ry := rx3.dn dT
          have by_ := bx3.dn dT
          have fr1 := ry.fr
          obtain ⟨m0, m1, m2, m3, m4, m5⟩ := ry.open
          obtain ⟨c0, c1, c2, c3, c4, c5⟩ := by_.open
          have dnT := dn3.trans dT
          go_wp2
          refine bodyPost_ret (by simp [results, Tryz.results12, go_sem, m0, m1, m2, m3, m4]; try rfl) rfl ?_
          refine ⟨⟨op, _, _, _, _, L, HW.out, HOP.out, PRD.out.symm, PRA.out.symm, PRB.out.symm, PIM.out.symm, ?_⟩, ((((dnT.setCell hWr _).setCell hWr _).setCell hWr _).setCell hWr _).setCell hWr _⟩
          exact .inr ⟨fun hh => by rw [hk] at hh; exact absurd hh.1 (by decide), rfl⟩
        · by_cases ht : M.text (op : Int) (M.numV (M.fld L 1) false) (M.numV (M.fld L 2) false) (M.numV (M.fld L 3) false) (0) = s
          · refine (refText_yes (op : Int) (M.numV (M.fld L 1) false) (M.numV (M.fld L 2) false) (M.numV (M.fld L 3) false) (0) _ hk).mono ?_
            rintro e y ⟨rfl, dT⟩
            have ry := rx3.dn dT
            have by_ := bx3.dn dT
            have fr1 := ry.fr
            obtain ⟨m0, m1, m2, m3, m4, m5⟩ := ry.open
            obtain ⟨c0, c1, c2, c3, c4, c5⟩ := by_.open
            have dnT := dn3.trans dT
            go_wp2
            refine bodyPost_ret (by simp [results, Tryz.results12, go_sem, m0, m1, m2, m3, m4]; try rfl) rfl ?_
            refine ⟨⟨op, _, _, _, _, L, HW.out, HOP.out, PRD.out.symm, PRA.out.symm, PRB.out.symm, PIM.out.symm, ?_⟩, ((((dnT.setCell hWr _).setCell hWr _).setCell hWr _).setCell hWr _).setCell hWr _⟩
            exact .inl ⟨hk, ht, rfl⟩
          · have htb : (M.text (op : Int) (M.numV (M.fld L 1) false) (M.numV (M.fld L 2) false) (M.numV (M.fld L 3) false) (0) == s) = false := by simpa using ht
            refine (refText_yes (op : Int) (M.numV (M.fld L 1) false) (M.numV (M.fld L 2) false) (M.numV (M.fld L 3) false) (0) _ hk).mono ?_
            rintro e y ⟨rfl, dT⟩
            have ry := rx3.dn dT
            have by_ := bx3.dn dT
            have fr1 := ry.fr
            obtain ⟨m0, m1, m2, m3, m4, m5⟩ := ry.open
            obtain ⟨c0, c1, c2, c3, c4, c5⟩ := by_.open
            have dnT := dn3.trans dT
            go_wp2
            refine bodyPost_ret (by simp [results, Tryz.results12, go_sem, m0, m1, m2, m3, m4]; try rfl) rfl ?_
            refine ⟨⟨op, _, _, _, _, L, HW.out, HOP.out, PRD.out.symm, PRA.out.symm, PRB.out.symm, PIM.out.symm, ?_⟩, ((((dnT.setCell hWr _).setCell hWr _).setCell hWr _).setCell hWr _).setCell hWr _⟩
            exact .inr ⟨fun hh => ht hh.2, rfl⟩
      · have PRD : Hid (M.pRd L (M.form (op : Int)) = M.numV (M.fld L 1) false) := Lib.hid (by rw [hf]; unfold M.pRd; simp)
        have PRA : Hid (M.pRa L (M.form (op : Int)) = M.numV (M.fld L 2) false) := Lib.hid (by rw [hf]; unfold M.pRa; simp)
        have PRB : Hid (M.pRb L (M.form (op : Int)) = 0) := Lib.hid (by rw [hf]; unfold M.pRb; simp)
        have PIM : Hid (M.pIm L (M.form (op : Int)) = M.numV (M.fld L 3) true) := Lib.hid (by rw [hf]; unfold M.pIm; simp)
        have fj := fc 1 (by decide)
        obtain ⟨c0, c1, c2, c3, c4, c5⟩ := bx.open
        go_wp2_with fail
        refine (refForm op _).mono ?_
        rintro e w ⟨rfl, rfl⟩
        go_wp2_with fail
        clear fj c0 c1 c2 c3 c4 c5
        refine (num_v1 (M.fld L 1) _ (hfl 1)).mono ?_
        rintro e x1 ⟨rfl, d1⟩
        have nr1 := numV_rng (M.fld L 1) false
        have bo := bx.dn d1
        have bx1 := bo.put1 (.int .i64 (M.numV (M.fld L 1) false))
        have rx1 := (rx.dn d1).apart hbr 1 (.int .i64 (M.numV (M.fld L 1) false))
        have fo := fc.dn d1
        have fc1 := fo.put hbg 1 (.int .i64 (M.numV (M.fld L 1) false))
        have dn1 := (dn.trans d1).setCell (p := ⟨b, 1, none⟩) hWb (.int .i64 (M.numV (M.fld L 1) false))
        have fr0 := bo.fr
        obtain ⟨c0, c1, c2, c3, c4, c5⟩ := bo.open
        have fj := fo 2 (by decide)
        go_wp2_with fail
        clear fr0 c0 c1 c2 c3 c4 c5 bo fo fj
        refine (num_v1 (M.fld L 2) _ (hfl 2)).mono ?_
        rintro e x2 ⟨rfl, d2⟩
        have nr2 := numV_rng (M.fld L 2) false
        have bo := bx1.dn d2
        have bx2 := bo.put2 (.int .i64 (M.numV (M.fld L 2) false))
        have rx2 := (rx1.dn d2).apart hbr 2 (.int .i64 (M.numV (M.fld L 2) false))
        have fo := fc1.dn d2
        have fc2 := fo.put hbg 2 (.int .i64 (M.numV (M.fld L 2) false))
        have dn2 := (dn1.trans d2).setCell (p := ⟨b, 2, none⟩) hWb (.int .i64 (M.numV (M.fld L 2) false))
        have fr0 := bo.fr
        obtain ⟨c0, c1, c2, c3, c4, c5⟩ := bo.open
        have fj := fo 3 (by decide)
        go_wp2_with fail
        clear fr0 c0 c1 c2 c3 c4 c5 bo fo fj
        refine (num_v0 (M.fld L 3) _ (hfl 3)).mono ?_
        rintro e x3 ⟨rfl, d3⟩
        have nr3 := numV_rng (M.fld L 3) true
        have bo := bx2.dn d3
        have bx3 := bo.put4 (.int .i32 (M.numV (M.fld L 3) true))
        have rx3 := (rx2.dn d3).apart hbr 4 (.int .i32 (M.numV (M.fld L 3) true))
        have fo := fc2.dn d3
        have fc3 := fo.put hbg 4 (.int .i32 (M.numV (M.fld L 3) true))
        have dn3 := (dn2.trans d3).setCell (p := ⟨b, 4, none⟩) hWb (.int .i32 (M.numV (M.fld L 3) true))
        have fr0 := bo.fr
        obtain ⟨c0, c1, c2, c3, c4, c5⟩ := bo.open
        go_wp2_with fail
        clear fr0 c0 c1 c2 c3 c4 c5 bo fo
        cases hk : M.ok (op : Int) (M.numV (M.fld L 1) false) (M.numV (M.fld L 2) false) (0) (M.numV (M.fld L 3) true)
        · refine (refText_no (op : Int) (M.numV (M.fld L 1) false) (M.numV (M.fld L 2) false) (0) (M.numV (M.fld L 3) true) _ hk (by omega) (by omega)).mono ?_
          rintro e y ⟨rfl, dT⟩
          have ry := rx3.dn dT
          have by_ := bx3.dn dT
          have fr1 := ry.fr
          obtain ⟨m0, m1, m2, m3, m4, m5⟩ := ry.open
          obtain ⟨c0, c1, c2, c3, c4, c5⟩ := by_.open
          have dnT := dn3.trans dT
          go_wp2
          refine bodyPost_ret (by simp [results, Tryz.results12, go_sem, m0, m1, m2, m3, m4]; try rfl) rfl ?_
          refine ⟨⟨op, _, _, _, _, L, HW.out, HOP.out, PRD.out.symm, PRA.out.symm, PRB.out.symm, PIM.out.symm, ?_⟩, ((((dnT.setCell hWr _).setCell hWr _).setCell hWr _).setCell hWr _).setCell hWr _⟩
          exact .inr ⟨fun hh => by rw [hk] at hh; exact absurd hh.1 (by decide), rfl⟩
        · by_cases ht : M.text (op : Int) (M.numV (M.fld L 1) false) (M.numV (M.fld L 2) false) (0) (M.numV (M.fld L 3) true) = s
          · refine (refText_yes (op : Int) (M.numV (M.fld L 1) false) (M.numV (M.fld L 2) false) (0) (M.numV (M.fld L 3) true) _ hk).mono ?_
            rintro e y ⟨rfl, dT⟩
            have ry := rx3.dn dT
            have by_ := bx3.dn dT
            have fr1 := ry.fr
            obtain ⟨m0, m1, m2, m3, m4, m5⟩ := ry.open
            obtain ⟨c0, c1, c2, c3, c4, c5⟩ := by_.open
            have dnT := dn3.trans dT
            go_wp2
            refine bodyPost_ret (by simp [results, Tryz.results12, go_sem, m0, m1, m2, m3, m4]; try rfl) rfl ?_
            refine ⟨⟨op, _, _, _, _, L, HW.out, HOP.out, PRD.out.symm, PRA.out.symm, PRB.out.symm, PIM.out.symm, ?_⟩, ((((dnT.setCell hWr _).setCell hWr _).setCell hWr _).setCell hWr _).setCell hWr _⟩
            exact .inl ⟨hk, ht, rfl⟩
          · have htb : (M.text (op : Int) (M.numV (M.fld L 1) false) (M.numV (M.fld L 2) false) (0) (M.numV (M.fld L 3) true) == s) = false := by simpa using ht
            refine (refText_yes (op : Int) (M.numV (M.fld L 1) false) (M.numV (M.fld L 2) false) (0) (M.numV (M.fld L 3) true) _ hk).mono ?_
            rintro e y ⟨rfl, dT⟩
            have ry := rx3.dn dT
            have by_ := bx3.dn dT
            have fr1 := ry.fr
            obtain ⟨m0, m1, m2, m3, m4, m5⟩ := ry.open
            obtain ⟨c0, c1, c2, c3, c4, c5⟩ := by_.open
            have dnT := dn3.trans dT
            go_wp2
            refine bodyPost_ret (by simp [results, Tryz.results12, go_sem, m0, m1, m2, m3, m4]; try rfl) rfl ?_
            refine ⟨⟨op, _, _, _, _, L, HW.out, HOP.out, PRD.out.symm, PRA.out.symm, PRB.out.symm, PIM.out.symm, ?_⟩, ((((dnT.setCell hWr _).setCell hWr _).setCell hWr _).setCell hWr _).setCell hWr _⟩
            exact .inr ⟨fun hh => ht hh.2, rfl⟩
      · have PRD : Hid (M.pRd L (M.form (op : Int)) = M.numV (M.fld L 1) false) := Lib.hid (by rw [hf]; unfold M.pRd; simp)
        have PRA : Hid (M.pRa L (M.form (op : Int)) = 0) := Lib.hid (by rw [hf]; unfold M.pRa; simp)
        have PRB : Hid (M.pRb L (M.form (op : Int)) = 0) := Lib.hid (by rw [hf]; unfold M.pRb; simp)
        have PIM : Hid (M.pIm L (M.form (op : Int)) = M.numV (M.fld L 2) true) := Lib.hid (by rw [hf]; unfold M.pIm; simp)
        have fj := fc 1 (by decide)
        obtain ⟨c0, c1, c2, c3, c4, c5⟩ := bx.open
        go_wp2_with fail
        refine (refForm op _).mono ?_
        rintro e w ⟨rfl, rfl⟩
        go_wp2_with fail
        clear fj c0 c1 c2 c3 c4 c5
        refine (num_v1 (M.fld L 1) _ (hfl 1)).mono ?_
        rintro e x1 ⟨rfl, d1⟩
        have nr1 := numV_rng (M.fld L 1) false
        have bo := bx.dn d1
        have bx1 := bo.put1 (.int .i64 (M.numV (M.fld L 1) false))
        have rx1 := (rx.dn d1).apart hbr 1 (.int .i64 (M.numV (M.fld L 1) false))
        have fo := fc.dn d1
        have fc1 := fo.put hbg 1 (.int .i64 (M.numV (M.fld L 1) false))
        have dn1 := (dn.trans d1).setCell (p := ⟨b, 1, none⟩) hWb (.int .i64 (M.numV (M.fld L 1) false))
        have fr0 := bo.fr
        obtain ⟨c0, c1, c2, c3, c4, c5⟩ := bo.open
        have fj := fo 2 (by decide)
        go_wp2_with fail
        clear fr0 c0 c1 c2 c3 c4 c5 bo fo fj
        refine (num_v0 (M.fld L 2) _ (hfl 2)).mono ?_
        rintro e x2 ⟨rfl, d2⟩
        have nr2 := numV_rng (M.fld L 2) true
        have bo := bx1.dn d2
        have bx2 := bo.put4 (.int .i32 (M.numV (M.fld L 2) true))
        have rx2 := (rx1.dn d2).apart hbr 4 (.int .i32 (M.numV (M.fld L 2) true))
        have fo := fc1.dn d2
        have fc2 := fo.put hbg 4 (.int .i32 (M.numV (M.fld L 2) true))
        have dn2 := (dn1.trans d2).setCell (p := ⟨b, 4, none⟩) hWb (.int .i32 (M.numV (M.fld L 2) true))
        have fr0 := bo.fr
        obtain ⟨c0, c1, c2, c3, c4, c5⟩ := bo.open
        go_wp2_with fail
        clear fr0 c0 c1 c2 c3 c4 c5 bo fo
        cases hk : M.ok (op : Int) (M.numV (M.fld L 1) false) (0) (0) (M.numV (M.fld L 2) true)
        · refine (refText_no (op : Int) (M.numV (M.fld L 1) false) (0) (0) (M.numV (M.fld L 2) true) _ hk (by omega) (by omega)).mono ?_
          rintro e y ⟨rfl, dT⟩
          have ry := rx2.dn dT
          have by_ := bx2.dn dT
          have fr1 := ry.fr
          obtain ⟨m0, m1, m2, m3, m4, m5⟩ := ry.open
          obtain ⟨c0, c1, c2, c3, c4, c5⟩ := by_.open
          have dnT := dn2.trans dT
          go_wp2
          refine bodyPost_ret (by simp [results, Tryz.results12, go_sem, m0, m1, m2, m3, m4]; try rfl) rfl ?_
          refine ⟨⟨op, _, _, _, _, L, HW.out, HOP.out, PRD.out.symm, PRA.out.symm, PRB.out.symm, PIM.out.symm, ?_⟩, ((((dnT.setCell hWr _).setCell hWr _).setCell hWr _).setCell hWr _).setCell hWr _⟩
          exact .inr ⟨fun hh => by rw [hk] at hh; exact absurd hh.1 (by decide), rfl⟩
        · by_cases ht : M.text (op : Int) (M.numV (M.fld L 1) false) (0) (0) (M.numV (M.fld L 2) true) = s
          · refine (refText_yes (op : Int) (M.numV (M.fld L 1) false) (0) (0) (M.numV (M.fld L 2) true) _ hk).mono ?_
            rintro e y ⟨rfl, dT⟩
            have ry := rx2.dn dT
            have by_ := bx2.dn dT
            have fr1 := ry.fr
            obtain ⟨m0, m1, m2, m3, m4, m5⟩ := ry.open
            obtain ⟨c0, c1, c2, c3, c4, c5⟩ := by_.open
            have dnT := dn2.trans dT
            go_wp2
            refine bodyPost_ret (by simp [results, Tryz.results12, go_sem, m0, m1, m2, m3, m4]; try rfl) rfl ?_
            refine ⟨⟨op, _, _, _, _, L, HW.out, HOP.out, PRD.out.symm, PRA.out.symm, PRB.out.symm, PIM.out.symm, ?_⟩, ((((dnT.setCell hWr _).setCell hWr _).setCell hWr _).setCell hWr _).setCell hWr _⟩
            exact .inl ⟨hk, ht, rfl⟩
          · have htb : (M.text (op : Int) (M.numV (M.fld L 1) false) (0) (0) (M.numV (M.fld L 2) true) == s) = false := by simpa using ht
            refine (refText_yes (op : Int) (M.numV (M.fld L 1) false) (0) (0) (M.numV (M.fld L 2) true) _ hk).mono ?_
            rintro e y ⟨rfl, dT⟩
            have ry := rx2.dn dT
            have by_ := bx2.dn dT
            have fr1 := ry.fr
            obtain ⟨m0, m1, m2, m3, m4, m5⟩ := ry.open
            obtain ⟨c0, c1, c2, c3, c4, c5⟩ := by_.open
            have dnT := dn2.trans dT
            go_wp2
            refine bodyPost_ret (by simp [results, Tryz.results12, go_sem, m0, m1, m2, m3, m4]; try rfl) rfl ?_
            refine ⟨⟨op, _, _, _, _, L, HW.out, HOP.out, PRD.out.symm, PRA.out.symm, PRB.out.symm, PIM.out.symm, ?_⟩, ((((dnT.setCell hWr _).setCell hWr _).setCell hWr _).setCell hWr _).setCell hWr _⟩
            exact .inr ⟨fun hh => ht hh.2, rfl⟩
      · have PRD : Hid (M.pRd L (M.form (op : Int)) = 0) := Lib.hid (by rw [hf]; unfold M.pRd; simp)
        have PRA : Hid (M.pRa L (M.form (op : Int)) = 0) := Lib.hid (by rw [hf]; unfold M.pRa; simp)
        have PRB : Hid (M.pRb L (M.form (op : Int)) = 0) := Lib.hid (by rw [hf]; unfold M.pRb; simp)
        have PIM : Hid (M.pIm L (M.form (op : Int)) = 0) := Lib.hid (by rw [hf]; unfold M.pIm; simp)
        obtain ⟨c0, c1, c2, c3, c4, c5⟩ := bx.open
        go_wp2_with fail
        refine (refForm op _).mono ?_
        rintro e w ⟨rfl, rfl⟩
        go_wp2_with fail
        clear c0 c1 c2 c3 c4 c5
        cases hk : M.ok (op : Int) (0) (0) (0) (0)
        · refine (refText_no (op : Int) (0) (0) (0) (0) _ hk (by omega) (by omega)).mono ?_
          rintro e y ⟨rfl, dT⟩
          have ry := rx.dn dT
          have by_ := bx.dn dT
          have fr1 := ry.fr
          obtain ⟨m0, m1, m2, m3, m4, m5⟩ := ry.open
          obtain ⟨c0, c1, c2, c3, c4, c5⟩ := by_.open
          have dnT := dn.trans dT
          go_wp2
          refine bodyPost_ret (by simp [results, Tryz.results12, go_sem, m0, m1, m2, m3, m4]; try rfl) rfl ?_
          refine ⟨⟨op, _, _, _, _, L, HW.out, HOP.out, PRD.out.symm, PRA.out.symm, PRB.out.symm, PIM.out.symm, ?_⟩, ((((dnT.setCell hWr _).setCell hWr _).setCell hWr _).setCell hWr _).setCell hWr _⟩
          exact .inr ⟨fun hh => by rw [hk] at hh; exact absurd hh.1 (by decide), rfl⟩
        · by_cases ht : M.text (op : Int) (0) (0) (0) (0) = s
          · refine (refText_yes (op : Int) (0) (0) (0) (0) _ hk).mono ?_
            rintro e y ⟨rfl, dT⟩
            have ry := rx.dn dT
            have by_ := bx.dn dT
            have fr1 := ry.fr
            obtain ⟨m0, m1, m2, m3, m4, m5⟩ := ry.open
            obtain ⟨c0, c1, c2, c3, c4, c5⟩ := by_.open
            have dnT := dn.trans dT
            go_wp2
            refine bodyPost_ret (by simp [results, Tryz.results12, go_sem, m0, m1, m2, m3, m4]; try rfl) rfl ?_
            refine ⟨⟨op, _, _, _, _, L, HW.out, HOP.out, PRD.out.symm, PRA.out.symm, PRB.out.symm, PIM.out.symm, ?_⟩, ((((dnT.setCell hWr _).setCell hWr _).setCell hWr _).setCell hWr _).setCell hWr _⟩
            exact .inl ⟨hk, ht, rfl⟩
          · have htb : (M.text (op : Int) (0) (0) (0) (0) == s) = false := by simpa using ht
            refine (refText_yes (op : Int) (0) (0) (0) (0) _ hk).mono ?_
            rintro e y ⟨rfl, dT⟩
            have ry := rx.dn dT
            have by_ := bx.dn dT
            have fr1 := ry.fr
            obtain ⟨m0, m1, m2, m3, m4, m5⟩ := ry.open
            obtain ⟨c0, c1, c2, c3, c4, c5⟩ := by_.open
            have dnT := dn.trans dT
            go_wp2
            refine bodyPost_ret (by simp [results, Tryz.results12, go_sem, m0, m1, m2, m3, m4]; try rfl) rfl ?_
            refine ⟨⟨op, _, _, _, _, L, HW.out, HOP.out, PRD.out.symm, PRA.out.symm, PRB.out.symm, PIM.out.symm, ?_⟩, ((((dnT.setCell hWr _).setCell hWr _).setCell hWr _).setCell hWr _).setCell hWr _⟩
            exact .inr ⟨fun hh => ht hh.2, rfl⟩
      · have PRD : Hid (M.pRd L (M.form (op : Int)) = M.numV (M.fld L 1) false) := Lib.hid (by rw [hf]; unfold M.pRd; simp)
        have PRA : Hid (M.pRa L (M.form (op : Int)) = 0) := Lib.hid (by rw [hf]; unfold M.pRa; simp)
        have PRB : Hid (M.pRb L (M.form (op : Int)) = 0) := Lib.hid (by rw [hf]; unfold M.pRb; simp)
        have PIM : Hid (M.pIm L (M.form (op : Int)) = M.numV (M.fld L 2) false) := Lib.hid (by rw [hf]; unfold M.pIm; simp)
        have fj := fc 1 (by decide)
        obtain ⟨c0, c1, c2, c3, c4, c5⟩ := bx.open
        go_wp2_with fail
        refine (refForm op _).mono ?_
        rintro e w ⟨rfl, rfl⟩
        go_wp2_with fail
        clear fj c0 c1 c2 c3 c4 c5
        refine (num_v1 (M.fld L 1) _ (hfl 1)).mono ?_
        rintro e x1 ⟨rfl, d1⟩
        have nr1 := numV_rng (M.fld L 1) false
        have bo := bx.dn d1
        have bx1 := bo.put1 (.int .i64 (M.numV (M.fld L 1) false))
        have rx1 := (rx.dn d1).apart hbr 1 (.int .i64 (M.numV (M.fld L 1) false))
        have fo := fc.dn d1
        have fc1 := fo.put hbg 1 (.int .i64 (M.numV (M.fld L 1) false))
        have dn1 := (dn.trans d1).setCell (p := ⟨b, 1, none⟩) hWb (.int .i64 (M.numV (M.fld L 1) false))
        have fr0 := bo.fr
        obtain ⟨c0, c1, c2, c3, c4, c5⟩ := bo.open
        have fj := fo 2 (by decide)
        go_wp2_with fail
        clear fr0 c0 c1 c2 c3 c4 c5 bo fo fj
        refine (num_v1 (M.fld L 2) _ (hfl 2)).mono ?_
        rintro e x2 ⟨rfl, d2⟩
        have nr2 := numV_rng (M.fld L 2) false
        have bo := bx1.dn d2
        have bx2 := bo.put4 (.int .i32 (M.numV (M.fld L 2) false))
        have rx2 := (rx1.dn d2).apart hbr 4 (.int .i32 (M.numV (M.fld L 2) false))
        have fo := fc1.dn d2
        have fc2 := fo.put hbg 4 (.int .i32 (M.numV (M.fld L 2) false))
        have dn2 := (dn1.trans d2).setCell (p := ⟨b, 4, none⟩) hWb (.int .i32 (M.numV (M.fld L 2) false))
        have fr0 := bo.fr
        obtain ⟨c0, c1, c2, c3, c4, c5⟩ := bo.open
        go_wp2_with fail
        clear fr0 c0 c1 c2 c3 c4 c5 bo fo
        cases hk : M.ok (op : Int) (M.numV (M.fld L 1) false) (0) (0) (M.numV (M.fld L 2) false)
        · refine (refText_no (op : Int) (M.numV (M.fld L 1) false) (0) (0) (M.numV (M.fld L 2) false) _ hk (by omega) (by omega)).mono ?_
          rintro e y ⟨rfl, dT⟩
          have ry := rx2.dn dT
          have by_ := bx2.dn dT
          have fr1 := ry.fr
          obtain ⟨m0, m1, m2, m3, m4, m5⟩ := ry.open
          obtain ⟨c0, c1, c2, c3, c4, c5⟩ := by_.open
          have dnT := dn2.trans dT
          go_wp2
          refine bodyPost_ret (by simp [results, Tryz.results12, go_sem, m0, m1, m2, m3, m4]; try rfl) rfl ?_
          refine ⟨⟨op, _, _, _, _, L, HW.out, HOP.out, PRD.out.symm, PRA.out.symm, PRB.out.symm, PIM.out.symm, ?_⟩, ((((dnT.setCell hWr _).setCell hWr _).setCell hWr _).setCell hWr _).setCell hWr _⟩
          exact .inr ⟨fun hh => by rw [hk] at hh; exact absurd hh.1 (by decide), rfl⟩
        · by_cases ht : M.text (op : Int) (M.numV (M.fld L 1) false) (0) (0) (M.numV (M.fld L 2) false) = s
          · refine (refText_yes (op : Int) (M.numV (M.fld L 1) false) (0) (0) (M.numV (M.fld L 2) false) _ hk).mono ?_
            rintro e y ⟨rfl, dT⟩
            have ry := rx2.dn dT
            have by_ := bx2.dn dT
            have fr1 := ry.fr
            obtain ⟨m0, m1, m2, m3, m4, m5⟩ := ry.open
            obtain ⟨c0, c1, c2, c3, c4, c5⟩ := by_.open
            have dnT := dn2.trans dT
            go_wp2
            refine bodyPost_ret (by simp [results, Tryz.results12, go_sem, m0, m1, m2, m3, m4]; try rfl) rfl ?_
            refine ⟨⟨op, _, _, _, _, L, HW.out, HOP.out, PRD.out.symm, PRA.out.symm, PRB.out.symm, PIM.out.symm, ?_⟩, ((((dnT.setCell hWr _).setCell hWr _).setCell hWr _).setCell hWr _).setCell hWr _⟩
            exact .inl ⟨hk, ht, rfl⟩
          · have htb : (M.text (op : Int) (M.numV (M.fld L 1) false) (0) (0) (M.numV (M.fld L 2) false) == s) = false := by simpa using ht
            refine (refText_yes (op : Int) (M.numV (M.fld L 1) false) (0) (0) (M.numV (M.fld L 2) false) _ hk).mono ?_
            rintro e y ⟨rfl, dT⟩
            have ry := rx2.dn dT
            have by_ := bx2.dn dT
            have fr1 := ry.fr
            obtain ⟨m0, m1, m2, m3, m4, m5⟩ := ry.open
            obtain ⟨c0, c1, c2, c3, c4, c5⟩ := by_.open
            have dnT := dn2.trans dT
            go_wp2
            refine bodyPost_ret (by simp [results, Tryz.results12, go_sem, m0, m1, m2, m3, m4]; try rfl) rfl ?_
            refine ⟨⟨op, _, _, _, _, L, HW.out, HOP.out, PRD.out.symm, PRA.out.symm, PRB.out.symm, PIM.out.symm, ?_⟩, ((((dnT.setCell hWr _).setCell hWr _).setCell hWr _).setCell hWr _).setCell hWr _⟩
            exact .inr ⟨fun hh => ht hh.2, rfl⟩
      · have PRD : Hid (M.pRd L (M.form (op : Int)) = 0) := Lib.hid (by rw [hf]; unfold M.pRd; simp)
        have PRA : Hid (M.pRa L (M.form (op : Int)) = M.numV (M.fld L 2) false) := Lib.hid (by rw [hf]; unfold M.pRa; simp)
        have PRB : Hid (M.pRb L (M.form (op : Int)) = 0) := Lib.hid (by rw [hf]; unfold M.pRb; simp)
        have PIM : Hid (M.pIm L (M.form (op : Int)) = M.numV (M.fld L 1) false) := Lib.hid (by rw [hf]; unfold M.pIm; simp)
        have fj := fc 1 (by decide)
        obtain ⟨c0, c1, c2, c3, c4, c5⟩ := bx.open
        go_wp2_with fail
        refine (refForm op _).mono ?_
        rintro e w ⟨rfl, rfl⟩
        go_wp2_with fail
        clear fj c0 c1 c2 c3 c4 c5
        refine (num_v1 (M.fld L 1) _ (hfl 1)).mono ?_
        rintro e x1 ⟨rfl, d1⟩
        have nr1 := numV_rng (M.fld L 1) false
        have bo := bx.dn d1
        have bx1 := bo.put4 (.int .i32 (M.numV (M.fld L 1) false))
        have rx1 := (rx.dn d1).apart hbr 4 (.int .i32 (M.numV (M.fld L 1) false))
        have fo := fc.dn d1
        have fc1 := fo.put hbg 4 (.int .i32 (M.numV (M.fld L 1) false))
        have dn1 := (dn.trans d1).setCell (p := ⟨b, 4, none⟩) hWb (.int .i32 (M.numV (M.fld L 1) false))
        have fr0 := bo.fr
        obtain ⟨c0, c1, c2, c3, c4, c5⟩ := bo.open
        have fj := fo 2 (by decide)
        go_wp2_with fail
        clear fr0 c0 c1 c2 c3 c4 c5 bo fo fj
        refine (num_v1 (M.fld L 2) _ (hfl 2)).mono ?_
        rintro e x2 ⟨rfl, d2⟩
        have nr2 := numV_rng (M.fld L 2) false
        have bo := bx1.dn d2
        have bx2 := bo.put2 (.int .i64 (M.numV (M.fld L 2) false))
        have rx2 := (rx1.dn d2).apart hbr 2 (.int .i64 (M.numV (M.fld L 2) false))
        have fo := fc1.dn d2
        have fc2 := fo.put hbg 2 (.int .i64 (M.numV (M.fld L 2) false))
        have dn2 := (dn1.trans d2).setCell (p := ⟨b, 2, none⟩) hWb (.int .i64 (M.numV (M.fld L 2) false))
        have fr0 := bo.fr
        obtain ⟨c0, c1, c2, c3, c4, c5⟩ := bo.open
        go_wp2_with fail
        clear fr0 c0 c1 c2 c3 c4 c5 bo fo
        cases hk : M.ok (op : Int) (0) (M.numV (M.fld L 2) false) (0) (M.numV (M.fld L 1) false)
        · refine (refText_no (op : Int) (0) (M.numV (M.fld L 2) false) (0) (M.numV (M.fld L 1) false) _ hk (by omega) (by omega)).mono ?_
          rintro e y ⟨rfl, dT⟩
          have ry := rx2.dn dT
          have by_ := bx2.dn dT
          have fr1 := ry.fr
          obtain ⟨m0, m1, m2, m3, m4, m5⟩ := ry.open
          obtain ⟨c0, c1, c2, c3, c4, c5⟩ := by_.open
          have dnT := dn2.trans dT
          go_wp2
          refine bodyPost_ret (by simp [results, Tryz.results12, go_sem, m0, m1, m2, m3, m4]; try rfl) rfl ?_
          refine ⟨⟨op, _, _, _, _, L, HW.out, HOP.out, PRD.out.symm, PRA.out.symm, PRB.out.symm, PIM.out.symm, ?_⟩, ((((dnT.setCell hWr _).setCell hWr _).setCell hWr _).setCell hWr _).setCell hWr _⟩
          exact .inr ⟨fun hh => by rw [hk] at hh; exact absurd hh.1 (by decide), rfl⟩
        · by_cases ht : M.text (op : Int) (0) (M.numV (M.fld L 2) false) (0) (M.numV (M.fld L 1) false) = s
          · refine (refText_yes (op : Int) (0) (M.numV (M.fld L 2) false) (0) (M.numV (M.fld L 1) false) _ hk).mono ?_
            rintro e y ⟨rfl, dT⟩
            have ry := rx2.dn dT
            have by_ := bx2.dn dT
            have fr1 := ry.fr
            obtain ⟨m0, m1, m2, m3, m4, m5⟩ := ry.open
            obtain ⟨c0, c1, c2, c3, c4, c5⟩ := by_.open
            have dnT := dn2.trans dT
            go_wp2
            refine bodyPost_ret (by simp [results, Tryz.results12, go_sem, m0, m1, m2, m3, m4]; try rfl) rfl ?_
            refine ⟨⟨op, _, _, _, _, L, HW.out, HOP.out, PRD.out.symm, PRA.out.symm, PRB.out.symm, PIM.out.symm, ?_⟩, ((((dnT.setCell hWr _).setCell hWr _).setCell hWr _).setCell hWr _).setCell hWr _⟩
            exact .inl ⟨hk, ht, rfl⟩
          · have htb : (M.text (op : Int) (0) (M.numV (M.fld L 2) false) (0) (M.numV (M.fld L 1) false) == s) = false := by simpa using ht
            refine (refText_yes (op : Int) (0) (M.numV (M.fld L 2) false) (0) (M.numV (M.fld L 1) false) _ hk).mono ?_
            rintro e y ⟨rfl, dT⟩
            have ry := rx2.dn dT
            have by_ := bx2.dn dT
            have fr1 := ry.fr
            obtain ⟨m0, m1, m2, m3, m4, m5⟩ := ry.open
            obtain ⟨c0, c1, c2, c3, c4, c5⟩ := by_.open
            have dnT := dn2.trans dT
            go_wp2
            refine bodyPost_ret (by simp [results, Tryz.results12, go_sem, m0, m1, m2, m3, m4]; try rfl) rfl ?_
            refine ⟨⟨op, _, _, _, _, L, HW.out, HOP.out, PRD.out.symm, PRA.out.symm, PRB.out.symm, PIM.out.symm, ?_⟩, ((((dnT.setCell hWr _).setCell hWr _).setCell hWr _).setCell hWr _).setCell hWr _⟩
            exact .inr ⟨fun hh => ht hh.2, rfl⟩
      · have PRD : Hid (M.pRd L (M.form (op : Int)) = 0) := Lib.hid (by rw [hf]; unfold M.pRd; simp)
        have PRA : Hid (M.pRa L (M.form (op : Int)) = M.numV (M.fld L 1) false) := Lib.hid (by rw [hf]; unfold M.pRa; simp)
        have PRB : Hid (M.pRb L (M.form (op : Int)) = 0) := Lib.hid (by rw [hf]; unfold M.pRb; simp)
        have PIM : Hid (M.pIm L (M.form (op : Int)) = 0) := Lib.hid (by rw [hf]; unfold M.pIm; simp)
        have fj := fc 1 (by decide)
        obtain ⟨c0, c1, c2, c3, c4, c5⟩ := bx.open
        go_wp2_with fail
        refine (refForm op _).mono ?_
        rintro e w ⟨rfl, rfl⟩
        go_wp2_with fail
        clear fj c0 c1 c2 c3 c4 c5
        refine (num_v1 (M.fld L 1) _ (hfl 1)).mono ?_
        rintro e x1 ⟨rfl, d1⟩
        have nr1 := numV_rng (M.fld L 1) false
        have bo := bx.dn d1
        have bx1 := bo.put2 (.int .i64 (M.numV (M.fld L 1) false))
        have rx1 := (rx.dn d1).apart hbr 2 (.int .i64 (M.numV (M.fld L 1) false))
        have fo := fc.dn d1
        have fc1 := fo.put hbg 2 (.int .i64 (M.numV (M.fld L 1) false))
        have dn1 := (dn.trans d1).setCell (p := ⟨b, 2, none⟩) hWb (.int .i64 (M.numV (M.fld L 1) false))
        have fr0 := bo.fr
        obtain ⟨c0, c1, c2, c3, c4, c5⟩ := bo.open
        go_wp2_with fail
        clear fr0 c0 c1 c2 c3 c4 c5 bo fo
        cases hk : M.ok (op : Int) (0) (M.numV (M.fld L 1) false) (0) (0)
        · refine (refText_no (op : Int) (0) (M.numV (M.fld L 1) false) (0) (0) _ hk (by omega) (by omega)).mono ?_
          rintro e y ⟨rfl, dT⟩
          have ry := rx1.dn dT
          have by_ := bx1.dn dT
          have fr1 := ry.fr
          obtain ⟨m0, m1, m2, m3, m4, m5⟩ := ry.open
          obtain ⟨c0, c1, c2, c3, c4, c5⟩ := by_.open
          have dnT := dn1.trans dT
          go_wp2
          refine bodyPost_ret (by simp [results, Tryz.results12, go_sem, m0, m1, m2, m3, m4]; try rfl) rfl ?_
          refine ⟨⟨op, _, _, _, _, L, HW.out, HOP.out, PRD.out.symm, PRA.out.symm, PRB.out.symm, PIM.out.symm, ?_⟩, ((((dnT.setCell hWr _).setCell hWr _).setCell hWr _).setCell hWr _).setCell hWr _⟩
          exact .inr ⟨fun hh => by rw [hk] at hh; exact absurd hh.1 (by decide), rfl⟩
        · by_cases ht : M.text (op : Int) (0) (M.numV (M.fld L 1) false) (0) (0) = s
          · refine (refText_yes (op : Int) (0) (M.numV (M.fld L 1) false) (0) (0) _ hk).mono ?_
            rintro e y ⟨rfl, dT⟩
            have ry := rx1.dn dT
            have by_ := bx1.dn dT
            have fr1 := ry.fr
            obtain ⟨m0, m1, m2, m3, m4, m5⟩ := ry.open
            obtain ⟨c0, c1, c2, c3, c4, c5⟩ := by_.open
            have dnT := dn1.trans dT
            go_wp2
            refine bodyPost_ret (by simp [results, Tryz.results12, go_sem, m0, m1, m2, m3, m4]; try rfl) rfl ?_
            refine ⟨⟨op, _, _, _, _, L, HW.out, HOP.out, PRD.out.symm, PRA.out.symm, PRB.out.symm, PIM.out.symm, ?_⟩, ((((dnT.setCell hWr _).setCell hWr _).setCell hWr _).setCell hWr _).setCell hWr _⟩
            exact .inl ⟨hk, ht, rfl⟩
          · have htb : (M.text (op : Int) (0) (M.numV (M.fld L 1) false) (0) (0) == s) = false := by simpa using ht
            refine (refText_yes (op : Int) (0) (M.numV (M.fld L 1) false) (0) (0) _ hk).mono ?_
            rintro e y ⟨rfl, dT⟩
            have ry := rx1.dn dT
            have by_ := bx1.dn dT
            have fr1 := ry.fr
            obtain ⟨m0, m1, m2, m3, m4, m5⟩ := ry.open
            obtain ⟨c0, c1, c2, c3, c4, c5⟩ := by_.open
            have dnT := dn1.trans dT
            go_wp2
            refine bodyPost_ret (by simp [results, Tryz.results12, go_sem, m0, m1, m2, m3, m4]; try rfl) rfl ?_
            refine ⟨⟨op, _, _, _, _, L, HW.out, HOP.out, PRD.out.symm, PRA.out.symm, PRB.out.symm, PIM.out.symm, ?_⟩, ((((dnT.setCell hWr _).setCell hWr _).setCell hWr _).setCell hWr _).setCell hWr _⟩
            exact .inr ⟨fun hh => ht hh.2, rfl⟩
end Go.Proofs.YtokhipjpppfkgaaGreatDoor
