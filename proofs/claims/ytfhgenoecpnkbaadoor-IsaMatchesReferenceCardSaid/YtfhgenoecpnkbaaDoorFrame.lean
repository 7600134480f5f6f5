/-
  What the row's condition on the two listed tables gives (Tabs), the start that meets it, and how an instruction among the arguments is read: no statement of the program by itself.
-/
import Derived.Test.YtfhgenoecpnkbaaDoorRows
import Derived.Test.YtfhgenoecpnkbaaDoorIsaCalls
import Derived.ProofKit
import Derived.LaidMore
import Derived.OpenShut
import Derived.Stop.Joined
namespace Go.Proofs.YtfhgenoecpnkbaaDoor
open Go.ChangeShapes Go.WideShapes Go.ChangeAt Go.RowKit
set_option linter.unusedVariables false

theorem own : ownKnob Tryd.prog.godebug = none := by kernel_rfl
theorem gForm : Tryd.prog.globalNamed "gaoler/isa.formats" = some 0 := by kernel_rfl
theorem gOper : Tryd.prog.globalNamed "gaoler/isa.operandsOf" = some 1 := by kernel_rfl
theorem tForm : (Tryd.prog.globals[0]?).map (·.type) = some 46 := by kernel_rfl
theorem tOper : (Tryd.prog.globals[1]?).map (·.type) = some 49 := by kernel_rfl
theorem cells3 : Tryd.prog.cellsOf 3 = 1 := by kernel_rfl
theorem cells4 : Tryd.prog.cellsOf 4 = 1 := by kernel_rfl
theorem cells21 : Tryd.prog.cellsOf 21 = 1 := by kernel_rfl
theorem cells23 : Tryd.prog.cellsOf 23 = 5 := by kernel_rfl
theorem cells48 : Tryd.prog.cellsOf 48 = 5 := by kernel_rfl

def laid2 : List (String × DataW Unit) := [("gaoler/isa.formats", Rows.laid_gaoler_isa_formats), ("gaoler/isa.operandsOf", Rows.laid_gaoler_isa_operandsOf)]

set_option maxRecDepth 100000 in
theorem door_met (os : Os) (args : Array Value) : laidMetH Tryd.prog laid2 ((World.doorLaid Tryd.prog 26 os).forCall (fun _ _ => 0) ⟨#[], args, []⟩).memory :=
  laidMetH_of_parts3 (fuel := 8) (laidMet_of_run' 8 (by kernel_rfl) (by kernel_rfl)) (by kernel_rfl) (by kernel_rfl)

section
variable {H : Type} {enc : TypeId × Value → H} {P : Program} {w : World} {base : Nat} {spare : Nat → Bool} {held : Bool}

/-- a cell of an array of integers that was read -/
theorem arr_int {m n : Nat} {e : TypeId} {cs : List Value} {xs : List (DataW H × List MemPlace)} {k : IntKind} (he : P.underlying e = some (.int k)) (hc : P.cellsOf e = 1)
    (hel : ∀ i, i < n → DataW.trod enc P w base spare held m e ((cs.drop (i * P.cellsOf e)).take (P.cellsOf e)) = xs[i]?) {i : Nat} (hi : i < n) {z : Int}
    (hz : (xs.map (·.1))[i]? = some (.lit (.int k z))) : cs[i]? = some (.int k z) := by
  have h := hel i hi
  rw [hc, Nat.mul_one] at h
  rw [List.getElem?_map] at hz
  cases hx : xs[i]? with
  | none => rw [hx] at hz; simp at hz
  | some y =>
    rw [hx] at hz h
    obtain ⟨q, e1, e2, _⟩ := DataW.trod_int he h
    rw [e2] at hz
    have hq : q = z := by simpa using hz
    have h2 : cs[i]? = ((cs.drop i).take 1)[0]? := by simp [List.getElem?_drop]
    rw [h2, e1, hq]; rfl

/-- a cell of an array of structs of one-cell bools that was read -/
theorem arr_bools {m n c j : Nat} {e : TypeId} {fs : Array Field} {g : Field} {cs : List Value} {xs : List (DataW H × List MemPlace)} (he : P.underlying e = some (.struct fs)) (hc : P.cellsOf e = c)
    (hg : fs[j]? = some g) (ho : g.offset = j) (ht : P.underlying g.type = some .bool) (h1 : P.cellsOf g.type = 1) (hj : j < c)
    (hel : ∀ i, i < n → DataW.trod enc P w base spare held m e ((cs.drop (i * P.cellsOf e)).take (P.cellsOf e)) = xs[i]?) {i : Nat} (hi : i < n) {L : List (DataW H)} {b : Bool}
    (hL : (xs.map (·.1))[i]? = some (.agg L)) (hb : L[j]? = some (.lit (.bool b))) : cs[i * c + j]? = some (.bool b) := by
  have h := hel i hi
  rw [hc] at h
  rw [List.getElem?_map] at hL
  cases hx : xs[i]? with
  | none => rw [hx] at hL; simp at hL
  | some y =>
    rw [hx] at hL h
    obtain ⟨ys, n', _, hy, _, _, hf⟩ := DataW.trod_struct he h
    have h3 := hf j g hg
    rw [ho, h1] at h3
    have hL2 : ys.map (·.1) = L := by rw [hy] at hL; simpa using hL
    rw [← hL2, List.getElem?_map] at hb
    cases hz : ys[j]? with
    | none => rw [hz] at hb; simp at hb
    | some z =>
      rw [hz] at hb h3
      obtain ⟨q, e1, e2⟩ := DataW.trod_bool ht h3
      rw [e2] at hb
      have hq : q = b := by simpa using hb
      have h2 : cs[i * c + j]? = ((((cs.drop (i * c)).take c).drop j).take 1)[0]? := by
        simp [List.getElem?_drop, hj]
      rw [h2, e1, hq]; rfl
end

theorem forms_laid (i : Int) (h0 : 0 ≤ i) (h : i ≤ 25) (L : List (DataW Unit)) (hL : Rows.laid_gaoler_isa_formats = .agg L) : L[i.toNat]? = some (.lit (.int .i64 (M.form i))) := by
  unfold Rows.laid_gaoler_isa_formats at hL
  injection hL with hL
  subst hL
  have : i = 0 ∨ i = 1 ∨ i = 2 ∨ i = 3 ∨ i = 4 ∨ i = 5 ∨ i = 6 ∨ i = 7 ∨ i = 8 ∨ i = 9 ∨ i = 10 ∨ i = 11 ∨ i = 12 ∨ i = 13 ∨ i = 14 ∨ i = 15 ∨ i = 16 ∨ i = 17 ∨ i = 18 ∨ i = 19 ∨ i = 20 ∨ i = 21 ∨ i = 22 ∨ i = 23 ∨ i = 24 ∨ i = 25 := by omega
  rcases this with rfl | rfl | rfl | rfl | rfl | rfl | rfl | rfl | rfl | rfl | rfl | rfl | rfl | rfl | rfl | rfl | rfl | rfl | rfl | rfl | rfl | rfl | rfl | rfl | rfl | rfl <;> rfl

theorem opers_laid (f : Int) (h0 : 0 ≤ f) (h : f ≤ 7) (L : List (DataW Unit)) (hL : Rows.laid_gaoler_isa_operandsOf = .agg L) :
    L[f.toNat]? = some (.agg [.lit (.bool (M.hasRd f)), .lit (.bool (M.hasRa f)), .lit (.bool (M.hasRb f)), .lit (.bool (M.hasImm f)), .lit (.bool (M.hasCsr f))]) := by
  unfold Rows.laid_gaoler_isa_operandsOf at hL
  injection hL with hL
  subst hL
  have : f = 0 ∨ f = 1 ∨ f = 2 ∨ f = 3 ∨ f = 4 ∨ f = 5 ∨ f = 6 ∨ f = 7 := by omega
  rcases this with rfl | rfl | rfl | rfl | rfl | rfl | rfl | rfl <;> rfl

/-- WHAT THE CONDITION GIVES: the two tables. -/
theorem tabs_of_laid {W : World} (h : laidMetH Tryd.prog laid2 W) : Tabs W := by
  rw [MakeChecks.laidMetH_plain _ _ _ (by kernel_rfl)] at h
  obtain ⟨ps, ⟨g0, t0, cs0, f0, p0, q0, hg0, ht0, hv0, hd0, ⟨g1, t1, cs1, f1, p1, q1, hg1, ht1, hv1, hd1, _, _⟩, _⟩, _, _⟩ := h
  obtain rfl := Option.some.inj (gForm.symm.trans hg0)
  obtain rfl := Option.some.inj (gOper.symm.trans hg1)
  obtain rfl := Option.some.inj (tForm.symm.trans ht0)
  obtain rfl := Option.some.inj (tOper.symm.trans ht1)
  obtain ⟨xs, m0, _, hx0, _, hn0, hel0⟩ := DataW.trod_array Tryd.underlying46 hd0
  obtain ⟨ys, m1, _, hx1, _, hn1, hel1⟩ := DataW.trod_array Tryd.underlying49 hd1
  simp only [Prod.mk.injEq] at hx0 hx1
  have hf : ∀ i : Int, 0 ≤ i → i ≤ 25 → W.cell? ⟨0, i.toNat, none⟩ = some (.int .i64 (M.form i)) := fun i a b => by
    rw [World.var?_cell hg0 hv0 i.toNat, ← Array.getElem?_toList]
    exact arr_int Tryd.underlying3 cells3 hel0 (by omega) (forms_laid i a b _ hx0.1)
  have h0 : ∀ f : Int, 0 ≤ f → f ≤ 7 → W.cell? ⟨1, f.toNat * 5, none⟩ = some (.bool (M.hasRd f)) := fun f a c => by
      rw [World.var?_cell hg1 hv1 (f.toNat * 5), ← Array.getElem?_toList]
      exact arr_bools (j := 0) Tryd.underlying48 cells48 rfl rfl Tryd.underlying4 cells4 (by decide) hel1 (i := f.toNat) (by omega) (opers_laid f a c _ hx1.1) rfl
  exact ⟨Nat.succ_le_of_lt (lt_of_cell (h0 0 (by decide) (by decide))), hf, h0,
    fun f a c => by
      rw [World.var?_cell hg1 hv1 (f.toNat * 5 + 1), ← Array.getElem?_toList]
      exact arr_bools (j := 1) Tryd.underlying48 cells48 rfl rfl Tryd.underlying4 cells4 (by decide) hel1 (i := f.toNat) (by omega) (opers_laid f a c _ hx1.1) rfl,
    fun f a c => by
      rw [World.var?_cell hg1 hv1 (f.toNat * 5 + 2), ← Array.getElem?_toList]
      exact arr_bools (j := 2) Tryd.underlying48 cells48 rfl rfl Tryd.underlying4 cells4 (by decide) hel1 (i := f.toNat) (by omega) (opers_laid f a c _ hx1.1) rfl,
    fun f a c => by
      rw [World.var?_cell hg1 hv1 (f.toNat * 5 + 3), ← Array.getElem?_toList]
      exact arr_bools (j := 3) Tryd.underlying48 cells48 rfl rfl Tryd.underlying4 cells4 (by decide) hel1 (i := f.toNat) (by omega) (opers_laid f a c _ hx1.1) rfl,
    fun f a c => by
      rw [World.var?_cell hg1 hv1 (f.toNat * 5 + 4), ← Array.getElem?_toList]
      exact arr_bools (j := 4) Tryd.underlying48 cells48 rfl rfl Tryd.underlying4 cells4 (by decide) hel1 (i := f.toNat) (by omega) (opers_laid f a c _ hx1.1) rfl⟩

section
variable {H : Type} {enc : TypeId × Value → H} {w : World} {base : Nat} {spare : Nat → Bool} {held : Bool}

/-- an instruction among the arguments -/
theorem open_instr {b0 : Nat} {v : Value} {d : DataW H} {p : List MemPlace} (hv : Value.okWide Tryd.prog w .any b0 23 v) (h : DataW.Trod enc Tryd.prog w base spare held 23 v d p) :
    ∃ op rd ra rb imm : Int, v = .agg #[.int .i64 op, .int .i64 rd, .int .i64 ra, .int .i64 rb, .int .i32 imm] ∧ d = .agg [.lit (.int .i64 op), .lit (.int .i64 rd), .lit (.int .i64 ra), .lit (.int .i64 rb), .lit (.int .i32 imm)] ∧ p = [] ∧
      (Lit.int .i64 op).wf = true ∧ (Lit.int .i64 rd).wf = true ∧ (Lit.int .i64 ra).wf = true ∧ (Lit.int .i64 rb).wf = true ∧ (Lit.int .i32 imm).wf = true := by
  obtain ⟨cs, rfl, hsz⟩ := okWide_struct Tryd.underlying23 hv
  obtain ⟨fuel, hf⟩ := h
  obtain ⟨xs, n, _, hx, _, hlen, hg⟩ := DataW.trod_struct Tryd.underlying23 hf
  obtain ⟨l⟩ := cs
  match l, hsz.trans cells23 with
  | [c0, c1, c2, c3, c4], _ =>
    match xs, hlen with
    | [y0, y1, y2, y3, y4], _ =>
      have g0 := hg 0 _ rfl
      have g1 := hg 1 _ rfl
      have g2 := hg 2 _ rfl
      have g3 := hg 3 _ rfl
      have g4 := hg 4 _ rfl
      simp only [Value.cells] at g0 g1 g2 g3 g4
      obtain ⟨op, e0, z0, w0⟩ := DataW.trod_int (cs := [c0]) Tryd.underlying3 g0
      obtain ⟨rd, e1, z1, w1⟩ := DataW.trod_int (cs := [c1]) Tryd.underlying3 g1
      obtain ⟨ra, e2, z2, w2⟩ := DataW.trod_int (cs := [c2]) Tryd.underlying3 g2
      obtain ⟨rb, e3, z3, w3⟩ := DataW.trod_int (cs := [c3]) Tryd.underlying3 g3
      obtain ⟨imm, e4, z4, w4⟩ := DataW.trod_int (cs := [c4]) Tryd.underlying21 g4
      injection e0 with e0; injection e1 with e1; injection e2 with e2; injection e3 with e3; injection e4 with e4
      subst e0 e1 e2 e3 e4 z0 z1 z2 z3 z4
      simp only [Prod.mk.injEq] at hx
      exact ⟨op, rd, ra, rb, imm, rfl, hx.1, hx.2, w0, w1, w2, w3, w4⟩

theorem shut_instr {op rd ra rb imm : Int} (w0 : (Lit.int .i64 op).wf = true) (w1 : (Lit.int .i64 rd).wf = true) (w2 : (Lit.int .i64 ra).wf = true) (w3 : (Lit.int .i64 rb).wf = true) (w4 : (Lit.int .i32 imm).wf = true) :
    DataW.Trod enc Tryd.prog w base spare held 23 (.agg #[.int .i64 op, .int .i64 rd, .int .i64 ra, .int .i64 rb, .int .i32 imm]) (.agg [.lit (.int .i64 op), .lit (.int .i64 rd), .lit (.int .i64 ra), .lit (.int .i64 rb), .lit (.int .i32 imm)]) [] :=
  ⟨2, trod_struct_mk (xs := [(.lit (.int .i64 op), []), (.lit (.int .i64 rd), []), (.lit (.int .i64 ra), []), (.lit (.int .i64 rb), []), (.lit (.int .i32 imm), [])]) Tryd.underlying23 (by rw [cells23]; rfl) (by
    simp only [List.mapM_cons, List.mapM_nil, cells3, cells21]
    have t0 := trod_int_mk (enc := enc) (P := Tryd.prog) (w := w) (base := base) (spare := spare) (held := held) 0 Tryd.underlying3 w0
    have t1 := trod_int_mk (enc := enc) (P := Tryd.prog) (w := w) (base := base) (spare := spare) (held := held) 0 Tryd.underlying3 w1
    have t2 := trod_int_mk (enc := enc) (P := Tryd.prog) (w := w) (base := base) (spare := spare) (held := held) 0 Tryd.underlying3 w2
    have t3 := trod_int_mk (enc := enc) (P := Tryd.prog) (w := w) (base := base) (spare := spare) (held := held) 0 Tryd.underlying3 w3
    have t4 := trod_int_mk (enc := enc) (P := Tryd.prog) (w := w) (base := base) (spare := spare) (held := held) 0 Tryd.underlying21 w4
    simp [Value.cells] at t0 t1 t2 t3 t4 ⊢
    simp [t0, t1, t2, t3, t4])⟩
end

end Go.Proofs.YtfhgenoecpnkbaaDoor
