/-
  What the row's condition on the listed variables gives (Env), the start that meets it, how the arguments are read and that they read as they did: no statement of the program by itself.
-/
import Derived.Test.YtokhipjpppfkgaaGreatDoorRows
import Derived.Test.YtokhipjpppfkgaaGreatDoorAsmEnv
import Derived.Test.YtokhipjpppfkgaaGreatDoorAsmDis
import Derived.ProofKit
import Derived.LaidMore
import Derived.OpenShut
import Derived.Stop.Joined
import Derived.Lay
import Derived.Lib.LaidU8
import Derived.Shelf.Vars
import Derived.WideKeyArgs
import Derived.ChangeSame
import Derived.ChangeCalls
namespace Go.Proofs.YtokhipjpppfkgaaGreatDoor
open Go.ChangeShapes Go.WideShapes Go.ChangeAt Go.RowKit
set_option linter.unusedVariables false

theorem own : ownKnob Tryz.prog.godebug = none := by kernel_rfl
theorem cellsInt : Tryz.prog.cellsOf 3 = 1 := by kernel_rfl
theorem cellsBool : Tryz.prog.cellsOf 4 = 1 := by kernel_rfl
theorem cellsI32 : Tryz.prog.cellsOf 21 = 1 := by kernel_rfl
theorem cellsU32 : Tryz.prog.cellsOf 45 = 1 := by kernel_rfl
theorem cellsU8 : Tryz.prog.cellsOf 5 = 1 := by kernel_rfl
theorem cellsU64 : Tryz.prog.cellsOf 94 = 1 := by kernel_rfl
theorem cellsStr : Tryz.prog.cellsOf 9 = 1 := by kernel_rfl
theorem cellsInstr : Tryz.prog.cellsOf 23 = 5 := by kernel_rfl
theorem cellsOpers : Tryz.prog.cellsOf 78 = 5 := by kernel_rfl
theorem cellsPow : Tryz.prog.cellsOf 141 = 20 := by kernel_rfl

def laidL : List (String × DataW Unit) := [("gaoler/isa.formats", Rows.laid_gaoler_isa_formats), ("gaoler/isa.operandsOf", Rows.laid_gaoler_isa_operandsOf), ("math/bits.deBruijn32tab", Rows.laid_math_bits_deBruijn32tab), ("math/bits.deBruijn64tab", Rows.laid_math_bits_deBruijn64tab), ("internal/strconv.uint64pow10", Rows.laid_internal_strconv_uint64pow10), ("unicode/utf8.acceptRanges", Rows.laid_unicode_utf8_acceptRanges), ("strconv.ErrRange", Rows.laid_strconv_ErrRange), ("strconv.ErrSyntax", Rows.laid_strconv_ErrSyntax), ("gaoler/asm.mnemonics", Rows.laid_gaoler_asm_mnemonics), ("unicode/utf8.first", Rows.laid_unicode_utf8_first)]

set_option maxRecDepth 100000 in
theorem start_shaped (os : Os) (args : Array Value) : ((World.laidAll Tryz.prog os laidL).forCall (fun _ _ => 0) ⟨#[], args, []⟩).Shaped Tryz.prog := World.shaped_of_ZipB (by kernel_rfl) (by kernel_rfl)
set_option maxRecDepth 100000 in
theorem start_met (os : Os) (args : Array Value) : laidMetH Tryz.prog laidL ((World.laidAll Tryz.prog os laidL).forCall (fun _ _ => 0) ⟨#[], args, []⟩).memory := by
  rw [MakeChecks.laidMetH_plain _ _ _ (by kernel_rfl)]
  exact laidMet_laidAll _ (by kernel_rfl) (by kernel_rfl)

section
variable {H : Type} {enc : TypeId × Value → H} {P : Program} {w : World} {base : Nat} {spare : Nat → Bool} {held : Bool}

/-- a cell of an array of integers that was read -/
theorem arr_int {m n : Nat} {e : TypeId} {cs : List Value} {xs : List (DataW H × List MemPlace)} {k : IntKind} (he : P.underlying e = some (.int k)) (hc : P.cellsOf e = 1)
    (hel : ∀ i, i < n → DataW.trod enc P w base spare held m e ((cs.drop (i * P.cellsOf e)).take (P.cellsOf e)) = xs[i]?) {i : Nat} (hi : i < n) {z : Int}
    (hz : (xs.map (·.1))[i]? = some (.lit (.int k z))) : cs[i]? = some (.int k z) := by
  have h := hel i hi
  rw [hc, Nat.mul_one] at h
  rw [List.getElem?_map] at hz
  cases hx : xs[i]? with
  | none => rw [hx] at hz; simp at hz
  | some y =>
    rw [hx] at hz h
    obtain ⟨q, e1, e2, _⟩ := DataW.trod_int he h
    rw [e2] at hz
    have hq : q = z := by simpa using hz
    have h2 : cs[i]? = ((cs.drop i).take 1)[0]? := by simp [List.getElem?_drop]
    rw [h2, e1, hq]; rfl

/-- a cell of an array of structs of one-cell bools that was read -/
theorem arr_bools {m n c j : Nat} {e : TypeId} {fs : Array Field} {g : Field} {cs : List Value} {xs : List (DataW H × List MemPlace)} (he : P.underlying e = some (.struct fs)) (hc : P.cellsOf e = c)
    (hg : fs[j]? = some g) (ho : g.offset = j) (ht : P.underlying g.type = some .bool) (h1 : P.cellsOf g.type = 1) (hj : j < c)
    (hel : ∀ i, i < n → DataW.trod enc P w base spare held m e ((cs.drop (i * P.cellsOf e)).take (P.cellsOf e)) = xs[i]?) {i : Nat} (hi : i < n) {L : List (DataW H)} {b : Bool}
    (hL : (xs.map (·.1))[i]? = some (.agg L)) (hb : L[j]? = some (.lit (.bool b))) : cs[i * c + j]? = some (.bool b) := by
  have h := hel i hi
  rw [hc] at h
  rw [List.getElem?_map] at hL
  cases hx : xs[i]? with
  | none => rw [hx] at hL; simp at hL
  | some y =>
    rw [hx] at hL h
    obtain ⟨ys, n', _, hy, _, _, hf⟩ := DataW.trod_struct he h
    have h3 := hf j g hg
    rw [ho, h1] at h3
    have hL2 : ys.map (·.1) = L := by rw [hy] at hL; simpa using hL
    rw [← hL2, List.getElem?_map] at hb
    cases hz : ys[j]? with
    | none => rw [hz] at hb; simp at hb
    | some z =>
      rw [hz] at hb h3
      obtain ⟨q, e1, e2⟩ := DataW.trod_bool ht h3
      rw [e2] at hb
      have hq : q = b := by simpa using hb
      have h2 : cs[i * c + j]? = ((((cs.drop (i * c)).take c).drop j).take 1)[0]? := by
        simp [List.getElem?_drop, hj]
      rw [h2, e1, hq]; rfl
end

theorem forms_laid (i : Int) (h0 : 0 ≤ i) (h : i ≤ 25) (L : List (DataW Unit)) (hL : Rows.laid_gaoler_isa_formats = .agg L) : L[i.toNat]? = some (.lit (.int .i64 (M.form i))) := by
  unfold Rows.laid_gaoler_isa_formats at hL
  injection hL with hL
  subst hL
  have : i = 0 ∨ i = 1 ∨ i = 2 ∨ i = 3 ∨ i = 4 ∨ i = 5 ∨ i = 6 ∨ i = 7 ∨ i = 8 ∨ i = 9 ∨ i = 10 ∨ i = 11 ∨ i = 12 ∨ i = 13 ∨ i = 14 ∨ i = 15 ∨ i = 16 ∨ i = 17 ∨ i = 18 ∨ i = 19 ∨ i = 20 ∨ i = 21 ∨ i = 22 ∨ i = 23 ∨ i = 24 ∨ i = 25 := by omega
  rcases this with rfl | rfl | rfl | rfl | rfl | rfl | rfl | rfl | rfl | rfl | rfl | rfl | rfl | rfl | rfl | rfl | rfl | rfl | rfl | rfl | rfl | rfl | rfl | rfl | rfl | rfl <;> rfl

theorem opers_laid (f : Int) (h0 : 0 ≤ f) (h : f ≤ 7) (L : List (DataW Unit)) (hL : Rows.laid_gaoler_isa_operandsOf = .agg L) :
    L[f.toNat]? = some (.agg [.lit (.bool (M.hasRd f)), .lit (.bool (M.hasRa f)), .lit (.bool (M.hasRb f)), .lit (.bool (M.hasImm f)), .lit (.bool (M.hasCsr f))]) := by
  unfold Rows.laid_gaoler_isa_operandsOf at hL
  injection hL with hL
  subst hL
  have : f = 0 ∨ f = 1 ∨ f = 2 ∨ f = 3 ∨ f = 4 ∨ f = 5 ∨ f = 6 ∨ f = 7 := by omega
  rcases this with rfl | rfl | rfl | rfl | rfl | rfl | rfl | rfl <;> rfl


section
variable {H : Type} {enc : TypeId × Value → H} {P : Program} {w : World} {base : Nat} {spare : Nat → Bool} {held : Bool}
/-- a cell of an array of strings that was read -/
theorem arr_str {m n : Nat} {e : TypeId} {cs : List Value} {xs : List (DataW H × List MemPlace)} (he : P.underlying e = some .string) (hc : P.cellsOf e = 1)
    (hel : ∀ i, i < n → DataW.trod enc P w base spare held m e ((cs.drop (i * P.cellsOf e)).take (P.cellsOf e)) = xs[i]?) {i : Nat} (hi : i < n) {z : List UInt8}
    (hz : (xs.map (·.1))[i]? = some (.lit (.string z))) : cs[i]? = some (.string ⟨z.toArray⟩) := by
  have h := hel i hi
  rw [hc, Nat.mul_one] at h
  rw [List.getElem?_map] at hz
  cases hx : xs[i]? with
  | none => rw [hx] at hz; simp at hz
  | some y =>
    rw [hx] at hz h
    obtain ⟨q, e1, e2, _⟩ := DataW.trod_string he h
    rw [e2] at hz
    have hq : q.data.toList = z := by simpa using hz
    have h2 : cs[i]? = ((cs.drop i).take 1)[0]? := by simp [List.getElem?_drop]
    rw [h2, e1, ← hq]
    rfl
end

theorem mnem_laid (i : Int) (h0 : 0 ≤ i) (h : i ≤ 25) (L : List (DataW Unit)) (hL : Rows.laid_gaoler_asm_mnemonics = .agg L) : L[i.toNat]? = some (.lit (.string (M.mnem i))) := by
  unfold Rows.laid_gaoler_asm_mnemonics at hL
  injection hL with hL
  subst hL
  have : i = 0 ∨ i = 1 ∨ i = 2 ∨ i = 3 ∨ i = 4 ∨ i = 5 ∨ i = 6 ∨ i = 7 ∨ i = 8 ∨ i = 9 ∨ i = 10 ∨ i = 11 ∨ i = 12 ∨ i = 13 ∨ i = 14 ∨ i = 15 ∨ i = 16 ∨ i = 17 ∨ i = 18 ∨ i = 19 ∨ i = 20 ∨ i = 21 ∨ i = 22 ∨ i = 23 ∨ i = 24 ∨ i = 25 := by omega
  rcases this with rfl | rfl | rfl | rfl | rfl | rfl | rfl | rfl | rfl | rfl | rfl | rfl | rfl | rfl | rfl | rfl | rfl | rfl | rfl | rfl | rfl | rfl | rfl | rfl | rfl | rfl <;> rfl

theorem tForm : (Tryz.prog.globals[2]?).map (·.type) = some 98 := by kernel_rfl
theorem tOper : (Tryz.prog.globals[1]?).map (·.type) = some 79 := by kernel_rfl
theorem tMnem : (Tryz.prog.globals[0]?).map (·.type) = some 50 := by kernel_rfl
theorem tPow : (Tryz.prog.globals[4]?).map (·.type) = some 141 := by kernel_rfl
theorem tTz : (Tryz.prog.globals[10]?).map (·.type) = some 159 := by kernel_rfl
theorem tErrS : (Tryz.prog.globals[5]?).map (·.type) = some 68 := by kernel_rfl
theorem tErrR : (Tryz.prog.globals[6]?).map (·.type) = some 68 := by kernel_rfl
theorem gForm : Tryz.prog.globalNamed "gaoler/isa.formats" = some 2 := by kernel_rfl
theorem gOper : Tryz.prog.globalNamed "gaoler/isa.operandsOf" = some 1 := by kernel_rfl
theorem gMnem : Tryz.prog.globalNamed "gaoler/asm.mnemonics" = some 0 := by kernel_rfl
theorem gTz : Tryz.prog.globalNamed "math/bits.deBruijn64tab" = some 10 := by kernel_rfl
theorem gErrS : Tryz.prog.globalNamed "strconv.ErrSyntax" = some 5 := by kernel_rfl
theorem gErrR : Tryz.prog.globalNamed "strconv.ErrRange" = some 6 := by kernel_rfl

theorem tabs_of {W : World} (r0 : Lib.VarReads Tryz.prog W "gaoler/isa.formats" Rows.laid_gaoler_isa_formats) (r1 : Lib.VarReads Tryz.prog W "gaoler/isa.operandsOf" Rows.laid_gaoler_isa_operandsOf) : Tabs W := by
  obtain ⟨g0, t0, cs0, f0, p0, hg0, ht0, hv0, hd0⟩ := r0
  obtain ⟨g1, t1, cs1, f1, p1, hg1, ht1, hv1, hd1⟩ := r1
  obtain rfl := Option.some.inj (gForm.symm.trans hg0)
  obtain rfl := Option.some.inj (gOper.symm.trans hg1)
  obtain rfl := Option.some.inj (tForm.symm.trans ht0)
  obtain rfl := Option.some.inj (tOper.symm.trans ht1)
  obtain ⟨xs, m0, _, hx0, _, hn0, hel0⟩ := DataW.trod_array Tryz.underlying98 hd0
  obtain ⟨ys, m1, _, hx1, _, hn1, hel1⟩ := DataW.trod_array Tryz.underlying79 hd1
  simp only [Prod.mk.injEq] at hx0 hx1
  have hf : ∀ i : Int, 0 ≤ i → i ≤ 25 → W.cell? ⟨2, i.toNat, none⟩ = some (.int .i64 (M.form i)) := fun i a b => by
    rw [World.var?_cell hg0 hv0 i.toNat, ← Array.getElem?_toList]
    exact arr_int Tryz.underlying3 cellsInt hel0 (by omega) (forms_laid i a b _ hx0.1)
  have h0 : ∀ f : Int, 0 ≤ f → f ≤ 7 → W.cell? ⟨1, f.toNat * 5, none⟩ = some (.bool (M.hasRd f)) := fun f a c => by
      rw [World.var?_cell hg1 hv1 (f.toNat * 5), ← Array.getElem?_toList]
      exact arr_bools (j := 0) Tryz.underlying78 cellsOpers rfl rfl Tryz.underlying4 cellsBool (by decide) hel1 (i := f.toNat) (by omega) (opers_laid f a c _ hx1.1) rfl
  exact ⟨lt_of_cell (hf 0 (by decide) (by decide)), lt_of_cell (h0 0 (by decide) (by decide)), hf, h0,
    fun f a c => by
      rw [World.var?_cell hg1 hv1 (f.toNat * 5 + 1), ← Array.getElem?_toList]
      exact arr_bools (j := 1) Tryz.underlying78 cellsOpers rfl rfl Tryz.underlying4 cellsBool (by decide) hel1 (i := f.toNat) (by omega) (opers_laid f a c _ hx1.1) rfl,
    fun f a c => by
      rw [World.var?_cell hg1 hv1 (f.toNat * 5 + 2), ← Array.getElem?_toList]
      exact arr_bools (j := 2) Tryz.underlying78 cellsOpers rfl rfl Tryz.underlying4 cellsBool (by decide) hel1 (i := f.toNat) (by omega) (opers_laid f a c _ hx1.1) rfl,
    fun f a c => by
      rw [World.var?_cell hg1 hv1 (f.toNat * 5 + 3), ← Array.getElem?_toList]
      exact arr_bools (j := 3) Tryz.underlying78 cellsOpers rfl rfl Tryz.underlying4 cellsBool (by decide) hel1 (i := f.toNat) (by omega) (opers_laid f a c _ hx1.1) rfl,
    fun f a c => by
      rw [World.var?_cell hg1 hv1 (f.toNat * 5 + 4), ← Array.getElem?_toList]
      exact arr_bools (j := 4) Tryz.underlying78 cellsOpers rfl rfl Tryz.underlying4 cellsBool (by decide) hel1 (i := f.toNat) (by omega) (opers_laid f a c _ hx1.1) rfl⟩

theorem mnem_of {W : World} (r : Lib.VarReads Tryz.prog W "gaoler/asm.mnemonics" Rows.laid_gaoler_asm_mnemonics) : ∀ op : Int, 0 ≤ op → op ≤ 25 → W.cell? ⟨0, op.toNat, none⟩ = some (.string ⟨(M.mnem op).toArray⟩) := fun i a b => by
  obtain ⟨g0, t0, cs0, f0, p0, hg0, ht0, hv0, hd0⟩ := r
  obtain rfl := Option.some.inj (gMnem.symm.trans hg0)
  obtain rfl := Option.some.inj (tMnem.symm.trans ht0)
  obtain ⟨xs, m0, _, hx0, _, hn0, hel0⟩ := DataW.trod_array Tryz.underlying50 hd0
  simp only [Prod.mk.injEq] at hx0
  rw [World.var?_cell hg0 hv0 i.toNat, ← Array.getElem?_toList]
  exact arr_str Tryz.underlying9 cellsStr hel0 (by omega) (mnem_laid i a b _ hx0.1)

set_option maxRecDepth 100000 in
theorem tz_of {W : World} (r : Lib.VarReads Tryz.prog W "math/bits.deBruijn64tab" Rows.laid_math_bits_deBruijn64tab) : W.cell? ⟨10, 15, none⟩ = some (.int .u8 4) := by
  obtain ⟨g0, t0, cs0, f0, p0, hg0, ht0, hv0, hd0⟩ := r
  obtain rfl := Option.some.inj (gTz.symm.trans hg0)
  obtain rfl := Option.some.inj (tTz.symm.trans ht0)
  obtain ⟨xs, m0, _, hx0, _, hn0, hel0⟩ := DataW.trod_array Tryz.underlying159 hd0
  simp only [Prod.mk.injEq] at hx0
  rw [World.var?_cell hg0 hv0 15, ← Array.getElem?_toList]
  refine arr_int Tryz.underlying5 cellsU8 hel0 (by omega) ?_
  have hL := hx0.1
  unfold Rows.laid_math_bits_deBruijn64tab at hL
  injection hL with hL
  rw [← hL]
  rfl

theorem pow_of {W : World} (r : Lib.VarReads Tryz.prog W "internal/strconv.uint64pow10" Rows.laid_internal_strconv_uint64pow10) : Lib.TabIs Tryz.prog W "internal/strconv.uint64pow10" .u64 Lib.pow10Tab := by
  obtain ⟨g0, t0, cs0, f0, p0, hg0, ht0, hv0, hd0⟩ := r
  obtain rfl := Option.some.inj (gPow.symm.trans hg0)
  obtain rfl := Option.some.inj (tPow.symm.trans ht0)
  unfold Lib.TabIs
  have hd1 : DataW.trod (fun _ => ()) Tryz.prog W 0 (fun _ => true) false f0 141 cs0.toList = some (Lib.tabData .u64 Lib.pow10Tab, p0) := hd0
  rw [hv0, ← Lib.cells_of_tab Tryz.underlying141 Tryz.underlying94 cellsU64 cellsPow hd1]

theorem errS_of {W : World} (r : Lib.VarReads Tryz.prog W "strconv.ErrSyntax" Rows.laid_strconv_ErrSyntax) : ∃ t p, W.cell? ⟨5, 0, none⟩ = some (.iface t p) := by
  obtain ⟨g0, t0, cs0, f0, p0, hg0, ht0, hv0, hd0⟩ := r
  obtain rfl := Option.some.inj (gErrS.symm.trans hg0)
  obtain rfl := Option.some.inj (tErrS.symm.trans ht0)
  obtain ⟨_, u, v, hcs, _, _⟩ := iface_of_trod Tryz.underlying68 hd0
  exact ⟨u, v, by rw [World.var?_cell hg0 hv0 0, ← Array.getElem?_toList, hcs]; rfl⟩
theorem errR_of {W : World} (r : Lib.VarReads Tryz.prog W "strconv.ErrRange" Rows.laid_strconv_ErrRange) : ∃ t p, W.cell? ⟨6, 0, none⟩ = some (.iface t p) := by
  obtain ⟨g0, t0, cs0, f0, p0, hg0, ht0, hv0, hd0⟩ := r
  obtain rfl := Option.some.inj (gErrR.symm.trans hg0)
  obtain rfl := Option.some.inj (tErrR.symm.trans ht0)
  obtain ⟨_, u, v, hcs, _, _⟩ := iface_of_trod Tryz.underlying68 hd0
  exact ⟨u, v, by rw [World.var?_cell hg0 hv0 0, ← Array.getElem?_toList, hcs]; rfl⟩

set_option maxRecDepth 100000 in
/-- WHAT THE CONDITION GIVES -/
theorem env_of {W : World} (h : laidMetH Tryz.prog laidL W) (hs : W.ShapedOpen Tryz.prog) : Env W := by
  rw [MakeChecks.laidMetH_plain _ _ _ (by kernel_rfl)] at h
  have tz := tz_of (Lib.laidMet.reads h (.tail _ (.tail _ (.tail _ (.head _)))))
  exact ⟨tabs_of (Lib.laidMet.reads h (.head _)) (Lib.laidMet.reads h (.tail _ (.head _))), lt_of_cell tz, mnem_of (Lib.laidMet.reads h (.tail _ (.tail _ (.tail _ (.tail _ (.tail _ (.tail _ (.tail _ (.tail _ (.head _)))))))))),
    cell_of_shapedOpen_int (zero := #[.int .i64 0]) (t := 3) hs (of_decide_eq_true (by kernel_rfl)) (by kernel_rfl) rfl (by kernel_rfl) (by kernel_rfl) Tryz.underlying3,
    pow_of (Lib.laidMet.reads h (.tail _ (.tail _ (.tail _ (.tail _ (.head _)))))), errS_of (Lib.laidMet.reads h (.tail _ (.tail _ (.tail _ (.tail _ (.tail _ (.tail _ (.tail _ (.head _))))))))), errR_of (Lib.laidMet.reads h (.tail _ (.tail _ (.tail _ (.tail _ (.tail _ (.tail _ (.head _)))))))), tz⟩

section
variable {H : Type} {enc : TypeId × Value → H} {w : World} {base : Nat} {spare : Nat → Bool} {held : Bool}

set_option maxRecDepth 100000 in
/-- an instruction among the arguments -/
theorem open_instr {b0 : Nat} {v : Value} {d : DataW H} {p : List MemPlace} (hv : Value.okWide Tryz.prog w .any b0 23 v) (h : DataW.Trod enc Tryz.prog w base spare held 23 v d p) :
    ∃ op rd ra rb imm : Int, v = .agg #[.int .i64 op, .int .i64 rd, .int .i64 ra, .int .i64 rb, .int .i32 imm] ∧ d = .agg [.lit (.int .i64 op), .lit (.int .i64 rd), .lit (.int .i64 ra), .lit (.int .i64 rb), .lit (.int .i32 imm)] ∧ p = [] ∧
      (Lit.int .i64 op).wf = true ∧ (Lit.int .i64 rd).wf = true ∧ (Lit.int .i64 ra).wf = true ∧ (Lit.int .i64 rb).wf = true ∧ (Lit.int .i32 imm).wf = true := by
  obtain ⟨cs, rfl, hsz⟩ := okWide_struct Tryz.underlying23 hv
  obtain ⟨fuel, hf⟩ := h
  obtain ⟨xs, n, _, hx, _, hlen, hg⟩ := DataW.trod_struct Tryz.underlying23 hf
  obtain ⟨l⟩ := cs
  match l, hsz.trans cellsInstr with
  | [c0, c1, c2, c3, c4], _ =>
    match xs, hlen with
    | [y0, y1, y2, y3, y4], _ =>
      have g0 := hg 0 _ rfl
      have g1 := hg 1 _ rfl
      have g2 := hg 2 _ rfl
      have g3 := hg 3 _ rfl
      have g4 := hg 4 _ rfl
      simp only [Value.cells] at g0 g1 g2 g3 g4
      obtain ⟨op, e0, z0, w0⟩ := DataW.trod_int (cs := [c0]) Tryz.underlying3 g0
      obtain ⟨rd, e1, z1, w1⟩ := DataW.trod_int (cs := [c1]) Tryz.underlying3 g1
      obtain ⟨ra, e2, z2, w2⟩ := DataW.trod_int (cs := [c2]) Tryz.underlying3 g2
      obtain ⟨rb, e3, z3, w3⟩ := DataW.trod_int (cs := [c3]) Tryz.underlying3 g3
      obtain ⟨imm, e4, z4, w4⟩ := DataW.trod_int (cs := [c4]) Tryz.underlying21 g4
      injection e0 with e0; injection e1 with e1; injection e2 with e2; injection e3 with e3; injection e4 with e4
      subst e0 e1 e2 e3 e4 z0 z1 z2 z3 z4
      simp only [Prod.mk.injEq] at hx
      exact ⟨op, rd, ra, rb, imm, rfl, hx.1, hx.2, w0, w1, w2, w3, w4⟩


theorem laidOut : laidOutB Tryz.prog = true := by kernel_rfl


set_option maxRecDepth 100000 in
/-- a list of words among the arguments -/
theorem open_words {b0 : Nat} {v : Value} {d : DataW H} {p : List MemPlace} (hv : Value.okWide Tryz.prog w .any b0 24 v) (h : DataW.Trod enc Tryz.prog w base (fun _ => true) held 24 v d p) :
    ∃ (A : Option Addr) (c : Nat) (xs : List Int), v = .slice A xs.length c ∧ Words w A xs ∧ xs.length ≤ 9223372036854775807 := by
  obtain ⟨A, n, c, rfl⟩ := okWide_slice Tryz.underlying24 hv
  obtain ⟨fuel, hf⟩ := h
  rcases open_ints Tryz.underlying24 Tryz.underlying45 cellsU32 hf with ⟨hcs, _⟩ | ⟨a, len, cap, zs, hcs, _, hl, hmax, hlen, _, hc, hw⟩
  · simp [Value.cells] at hcs
    obtain ⟨rfl, rfl, rfl⟩ := hcs
    exact ⟨none, 0, [], rfl, ⟨fun x hx => absurd hx (by simp), fun hx => absurd rfl hx⟩, by simp⟩
  · simp [Value.cells] at hcs
    obtain ⟨rfl, rfl, rfl⟩ := hcs
    simp only [if_true] at hlen
    have ht : (zs.take n).length = n := by rw [List.length_take]; omega
    have hmx : c ≤ 9223372036854775807 := hmax
    refine ⟨some a, c, zs.take n, by rw [ht], ⟨fun x hx => ?_, fun hx => ⟨a, rfl, ?_, fun j x hj => ?_⟩⟩, by omega⟩
    · have hb := bounds_u32 (hw x (List.mem_of_mem_take hx))
      omega
    · have : 0 < zs.length := by
        rcases Nat.eq_zero_or_pos zs.length with h0 | h0
        · exfalso; apply hx; rw [List.length_eq_zero_iff.1 h0]; simp
        · exact h0
      have hc0 := hc 0 this
      have := lt_of_cell hc0
      rwa [block_add] at this
    · have hj' := List.getElem?_eq_some_iff.1 hj
      obtain ⟨hj1, hj2⟩ := hj'
      rw [ht] at hj1
      rw [hc j (by omega)]
      rw [List.getElem_take] at hj2
      rw [← hj2]
      simp [List.getD, show j < zs.length by omega]

theorem str_short {l : List UInt8} (h : (⟨l.toArray⟩ : ByteArray).size ≤ maxLen) : l.length ≤ 9223372036854775807 := by
  have h1 : (⟨l.toArray⟩ : ByteArray).size ≤ 9223372036854775807 := h
  have h2 : (⟨l.toArray⟩ : ByteArray).size = l.length := by show l.toArray.size = _; simp
  omega

/-- what was read reads as it did -/
theorem arg_stays {W W' : World} (hb : Dn W W') {t : TypeId} (hr : Tryz.prog.readableRec t = true) (hrow : t < Tryz.prog.types.size) {sp' : Nat → Bool} {v : Value} {d : DataW H} {ps : List MemPlace}
    (h : DataW.Trod enc Tryz.prog W 0 (fun _ => true) true t v d ps) (hlt : ∀ p ∈ ps, p.block < W.heap.size) (hs : ∀ p ∈ ps, sp' p.block = true) : DataW.Trod enc Tryz.prog W' 0 sp' true t v d ps := by
  refine WideElems.Trod_stays laidOut hr hrow h (fun p hp => ?_) hs
  have := hlt p hp
  cases p with
  | cell b off => exact hb.cell this
  | map b => exact hb.block b this

theorem args_stay {W W' : World} (hb : Dn W W') : ∀ {ts : List TypeId} {vs : List Value} {ds : List (DataW H)} {ps : List MemPlace} {sp' : Nat → Bool}, (∀ t ∈ ts, Tryz.prog.readableRec t = true ∧ t < Tryz.prog.types.size) →
    DataW.TrodAll enc Tryz.prog W 0 (fun _ => true) true ts vs ds ps → (∀ p ∈ ps, p.block < W.heap.size) → (∀ p ∈ ps, sp' p.block = true) → DataW.TrodAll enc Tryz.prog W' 0 sp' true ts vs ds ps
  | [], vs, ds, ps, sp', _, h, _, _ => by
    cases vs <;> cases ds <;> first | exact h | (simp [DataW.TrodAll] at h)
  | t :: ts, vs, ds, ps, sp', ht, h, hlt, hs => by
    obtain ⟨v, vs', d, ds', p, q, rfl, rfl, rfl, h1, h2⟩ := trodAll_cons h
    exact trodAll_cons_mk (arg_stays hb (ht t List.mem_cons_self).1 (ht t List.mem_cons_self).2 h1 (fun x hx => hlt x (List.mem_append_left _ hx)) (fun x hx => hs x (List.mem_append_left _ hx)))
      (args_stay hb (fun u hu => ht u (List.mem_cons_of_mem _ hu)) h2 (fun x hx => hlt x (List.mem_append_right _ hx)) (fun x hx => hs x (List.mem_append_right _ hx)))

/-- the wrap: the listed variables and the world's shape are handed on, and of what was there nothing turns -/
theorem returns_of_walk {a : Assume} {C : Checked} (hC : C.prog = Tryz.prog) {os : Os} {f : FuncId} {fn : Func} {s : ChangeSpec} {fresh handsOn : Bool}
    (own : ownKnob C.prog.godebug = none) (started : os.Started) (noInit : C.prog.inits.idxOf? f = none) (hfn : C.prog.funcs[f]? = some fn) (hvars : s.vars = [])
    (hread : ∀ t ∈ fn.params.toList, Tryz.prog.readableRec t = true ∧ t < Tryz.prog.types.size) (hres : fn.resultTypes = #[4])
    (hspec : ∀ (H : Type) (ds : List (DataW H)), ds.length = fn.params.size → (s.fn H ds).results = [.lit (.bool true)] ∧ (s.fn H ds).args = ds ∧ (s.fn H ds).vars = [])
    (witness : ∃ (w : World) (tape : Tape) (i : Input), w.os = os ∧ (w.forCall tape i).Shaped C.prog ∧ i.vars = [] ∧ Input.okWide C.prog (w.forCall tape i) .any w.heap.size f i ∧
      ((s.pre enc C.prog fn [] false (w.forCall tape i).memory i.args ∧ laidMetH C.prog laidL (w.forCall tape i).memory) ∧ sizedMet enc C.prog fn (OpenSpec.ofChange s) false (w.forCall tape i).memory i.args) ∧ a.holds C.prog (lone (Frame.enter C.prog f i.args .normal) [] (w.forCall tape i)))
    (walk : ∀ (W : World) (base : Nat) (args : Array Value) (ds : List (DataW H)) (ps : List MemPlace), Env W →
      (∀ (j : Nat) t v, fn.params[j]? = some t → args[j]? = some v → Value.okWide C.prog W .any base t v) →
      DataW.TrodAll enc C.prog W 0 (fun _ => true) true fn.params.toList args.toList ds ps →
      Calls C.prog f args W fun e W' => e = .returned (.bool true) ∧ Dn W W') :
    ReturnsInHanded a C os f .any (fun w args => (s.pre enc C.prog fn [] false w args ∧ laidMetH C.prog laidL w) ∧ sizedMet enc C.prog fn (OpenSpec.ofChange s) false w args) (s.post enc C.prog fn false fresh handsOn false) := by
  refine returnsInHanded_of_calls own started noInit witness ?_
  intro w tape i _ hsh _ hok hpre _
  obtain ⟨_, _, _, fn', hfn', _, _, _, _, hval⟩ := hok
  have e : fn' = fn := Option.some.inj (hfn'.symm.trans hfn)
  subst e
  obtain ⟨⟨⟨ds, gs, before, hw, _⟩, hx⟩, _⟩ := hpre
  have hw' := DataW.Whole.of_heap (w' := w.forCall tape i) (by rfl) hw
  have hE : Env (w.forCall tape i) := env_of (hC ▸ laidMetH.of_heap (w' := w.forCall tape i) (by rfl) hx) (hC ▸ hsh)
  generalize w.forCall tape i = W at *
  have hlt : ∀ p ∈ before, p.block < W.heap.size := fun p hp => hw'.lt p hp
  have hWh := hw'
  obtain ⟨p, q, hA, hV, rfl, hfz, hnd⟩ := hw'
  rw [hvars] at hV
  obtain ⟨rfl, rfl⟩ := trodVars_none hV
  have hlen : ds.length = fn'.params.size := by rw [(trodAll_length hA).2]; simp
  obtain ⟨s1, s2, s3⟩ := hspec H ds hlen
  simp only [List.append_nil] at hlt hWh
  refine (walk W _ i.args ds p hE hval hA).mono fun e W' ⟨he, hb⟩ => ?_
  subst he
  refine ChangeSpec.post_blind ?_
  exact ⟨ds, [], p, [], p, [], hWh, by rw [List.append_nil, s1, hres, hC]; exact trodAll_mk1 (shut_bool Tryz.underlying4 _),
    by rw [List.append_nil, s2, hC]; exact args_stay hb hread (hC ▸ hA) hlt (fun x hx => by simpa using hlt x hx),
    by rw [List.append_nil, s3, hvars]; trivial, hb.frame _, fun h => by cases h⟩
end

end Go.Proofs.YtokhipjpppfkgaaGreatDoor
