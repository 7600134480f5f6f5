/-
  What the row's condition on the listed variables of package csr gives, the start that meets it, how the arguments are read and that they read as they did: no statement of the program by itself.
-/
import Derived.Test.YthfhidgahdoglaaDoorRows
import Derived.Test.YthfhidgahdoglaaDoorCsrCalls
import Derived.ProofKit
import Derived.LaidMore
import Derived.OpenShut
import Derived.Stop.Joined
import Derived.Lay
import Derived.Lib.LaidU8
import Derived.Shelf.Vars
import Derived.WideKeyArgs
import Derived.ChangeSame
import Derived.ChangeCalls
namespace Go.Proofs.YthfhidgahdoglaaDoor
open Go.ChangeShapes Go.WideShapes Go.ChangeAt Go.RowKit
set_option linter.unusedVariables false

theorem own : ownKnob Tryd.prog.godebug = none := by kernel_rfl
theorem cellsU32 : Tryd.prog.cellsOf 22 = 1 := by kernel_rfl
theorem cellsStr : Tryd.prog.cellsOf 9 = 1 := by kernel_rfl
theorem cellsArr : Tryd.prog.cellsOf 23 = 12 := by kernel_rfl
theorem cellsNames : Tryd.prog.cellsOf 39 = 12 := by kernel_rfl
theorem laidOut : laidOutB Tryd.prog = true := by kernel_rfl

def laidL : List (String × DataW Unit) := [("gaoler/csr.names", Rows.laid_gaoler_csr_names), ("gaoler/csr.masks", Rows.laid_gaoler_csr_masks)]

set_option maxRecDepth 100000 in
theorem start_shaped (os : Os) (args : Array Value) : ((World.laidAll Tryd.prog os laidL).forCall (fun _ _ => 0) ⟨#[], args, []⟩).Shaped Tryd.prog := World.shaped_of_ZipB (by kernel_rfl) (by kernel_rfl)
set_option maxRecDepth 100000 in
theorem start_met (os : Os) (args : Array Value) : laidMetH Tryd.prog laidL ((World.laidAll Tryd.prog os laidL).forCall (fun _ _ => 0) ⟨#[], args, []⟩).memory := by
  rw [MakeChecks.laidMetH_plain _ _ _ (by kernel_rfl)]
  exact laidMet_laidAll _ (by kernel_rfl) (by kernel_rfl)

section
variable {H : Type} {enc : TypeId × Value → H} {P : Program} {w : World} {base : Nat} {spare : Nat → Bool} {held : Bool}

/-- a cell of an array of integers that was read -/
theorem arr_int {m n : Nat} {e : TypeId} {cs : List Value} {xs : List (DataW H × List MemPlace)} {k : IntKind} (he : P.underlying e = some (.int k)) (hc : P.cellsOf e = 1)
    (hel : ∀ i, i < n → DataW.trod enc P w base spare held m e ((cs.drop (i * P.cellsOf e)).take (P.cellsOf e)) = xs[i]?) {i : Nat} (hi : i < n) {z : Int}
    (hz : (xs.map (·.1))[i]? = some (.lit (.int k z))) : cs[i]? = some (.int k z) := by
  have h := hel i hi
  rw [hc, Nat.mul_one] at h
  rw [List.getElem?_map] at hz
  cases hx : xs[i]? with
  | none => rw [hx] at hz; simp at hz
  | some y =>
    rw [hx] at hz h
    obtain ⟨q, e1, e2, _⟩ := DataW.trod_int he h
    rw [e2] at hz
    have hq : q = z := by simpa using hz
    have h2 : cs[i]? = ((cs.drop i).take 1)[0]? := by simp [List.getElem?_drop]
    rw [h2, e1, hq]; rfl

/-- a cell of an array of structs of one-cell bools that was read -/
theorem arr_bools {m n c j : Nat} {e : TypeId} {fs : Array Field} {g : Field} {cs : List Value} {xs : List (DataW H × List MemPlace)} (he : P.underlying e = some (.struct fs)) (hc : P.cellsOf e = c)
    (hg : fs[j]? = some g) (ho : g.offset = j) (ht : P.underlying g.type = some .bool) (h1 : P.cellsOf g.type = 1) (hj : j < c)
    (hel : ∀ i, i < n → DataW.trod enc P w base spare held m e ((cs.drop (i * P.cellsOf e)).take (P.cellsOf e)) = xs[i]?) {i : Nat} (hi : i < n) {L : List (DataW H)} {b : Bool}
    (hL : (xs.map (·.1))[i]? = some (.agg L)) (hb : L[j]? = some (.lit (.bool b))) : cs[i * c + j]? = some (.bool b) := by
  have h := hel i hi
  rw [hc] at h
  rw [List.getElem?_map] at hL
  cases hx : xs[i]? with
  | none => rw [hx] at hL; simp at hL
  | some y =>
    rw [hx] at hL h
    obtain ⟨ys, n', _, hy, _, _, hf⟩ := DataW.trod_struct he h
    have h3 := hf j g hg
    rw [ho, h1] at h3
    have hL2 : ys.map (·.1) = L := by rw [hy] at hL; simpa using hL
    rw [← hL2, List.getElem?_map] at hb
    cases hz : ys[j]? with
    | none => rw [hz] at hb; simp at hb
    | some z =>
      rw [hz] at hb h3
      obtain ⟨q, e1, e2⟩ := DataW.trod_bool ht h3
      rw [e2] at hb
      have hq : q = b := by simpa using hb
      have h2 : cs[i * c + j]? = ((((cs.drop (i * c)).take c).drop j).take 1)[0]? := by
        simp [List.getElem?_drop, hj]
      rw [h2, e1, hq]; rfl
end

section
variable {H : Type} {enc : TypeId × Value → H} {P : Program} {w : World} {base : Nat} {spare : Nat → Bool} {held : Bool}
/-- a cell of an array of strings that was read -/
theorem arr_str {m n : Nat} {e : TypeId} {cs : List Value} {xs : List (DataW H × List MemPlace)} (he : P.underlying e = some .string) (hc : P.cellsOf e = 1)
    (hel : ∀ i, i < n → DataW.trod enc P w base spare held m e ((cs.drop (i * P.cellsOf e)).take (P.cellsOf e)) = xs[i]?) {i : Nat} (hi : i < n) {z : List UInt8}
    (hz : (xs.map (·.1))[i]? = some (.lit (.string z))) : cs[i]? = some (.string ⟨z.toArray⟩) := by
  have h := hel i hi
  rw [hc, Nat.mul_one] at h
  rw [List.getElem?_map] at hz
  cases hx : xs[i]? with
  | none => rw [hx] at hz; simp at hz
  | some y =>
    rw [hx] at hz h
    obtain ⟨q, e1, e2, _⟩ := DataW.trod_string he h
    rw [e2] at hz
    have hq : q.data.toList = z := by simpa using hz
    have h2 : cs[i]? = ((cs.drop i).take 1)[0]? := by simp [List.getElem?_drop]
    rw [h2, e1, ← hq]
    rfl
end


theorem gNames : Tryd.prog.globalNamed "gaoler/csr.names" = some 0 := by kernel_rfl
theorem gMasks : Tryd.prog.globalNamed "gaoler/csr.masks" = some 1 := by kernel_rfl
theorem tNames : (Tryd.prog.globals[0]?).map (·.type) = some 39 := by kernel_rfl
theorem tMasks : (Tryd.prog.globals[1]?).map (·.type) = some 23 := by kernel_rfl

theorem block_of_var {P : Program} {w : World} {n : String} {g : Nat} {cs : Array Value} (hg : P.globalNamed n = some g) (h : w.var? P n = some cs) : ∃ t fr, w.heap[g]? = some (.cells cs t fr) := by
  simp only [World.var?, hg, Option.bind_some] at h
  split at h
  · rename_i e; simp at h; subst h; exact ⟨_, _, e⟩
  · simp at h

theorem array_ints {cs : Array Value} {k : IntKind} {l : List Int} (hs : cs.size = l.length) (h : ∀ i, i < l.length → cs[i]? = some (.int k (l.getD i 0))) : cs = ints k l := by
  apply Array.ext_getElem?
  intro i
  by_cases hi : i < l.length
  · rw [h i hi, ints_get _ _ _ hi]
  · rw [Array.getElem?_eq_none (by omega), Array.getElem?_eq_none (by rw [ints_size]; omega)]
theorem array_strs {cs : Array Value} {l : List (List UInt8)} (hs : cs.size = l.length) (h : ∀ i, i < l.length → cs[i]? = some (.string ⟨(l.getD i []).toArray⟩)) : cs = strs l := by
  apply Array.ext_getElem?
  intro i
  by_cases hi : i < l.length
  · rw [h i hi, strs_get _ _ hi]
  · rw [Array.getElem?_eq_none (by omega), Array.getElem?_eq_none (by simp [strs]; omega)]

theorem laid_names : Rows.laid_gaoler_csr_names = (.agg (M.nameL.map fun s => .lit (.string s)) : DataW Unit) := rfl
theorem laid_masks : Rows.laid_gaoler_csr_masks = (.agg (M.maskL.map fun x => .lit (.int .u32 x)) : DataW Unit) := rfl

theorem masks_of {W : World} (r : Lib.VarReads Tryd.prog W "gaoler/csr.masks" Rows.laid_gaoler_csr_masks) : ∃ t fr, W.heap[(1 : Nat)]? = some (.cells (ints .u32 M.maskL) t fr) := by
  obtain ⟨g0, t0, cs0, f0, p0, hg0, ht0, hv0, hd0⟩ := r
  obtain rfl := Option.some.inj (gMasks.symm.trans hg0)
  obtain rfl := Option.some.inj (tMasks.symm.trans ht0)
  obtain ⟨xs, m0, _, hx0, hsz, hn0, hel0⟩ := DataW.trod_array Tryd.underlying23 hd0
  simp only [Prod.mk.injEq] at hx0
  have hm : xs.map (·.1) = M.maskL.map fun x => .lit (.int .u32 x) := by
    have := hx0.1.symm.trans laid_masks
    injection this
  have e : cs0 = ints .u32 M.maskL := array_ints (by rw [← Array.length_toList, hsz]; exact cellsArr) fun i hi => by
    rw [← Array.getElem?_toList]
    refine arr_int Tryd.underlying22 cellsU32 hel0 (show i < 12 from hi) ?_
    rw [hm, List.getElem?_map, List.getElem?_eq_getElem hi]
    simp [List.getD, hi]
  rw [← e]
  exact block_of_var hg0 hv0
theorem names_of {W : World} (r : Lib.VarReads Tryd.prog W "gaoler/csr.names" Rows.laid_gaoler_csr_names) : ∃ t fr, W.heap[(0 : Nat)]? = some (.cells (strs M.nameL) t fr) := by
  obtain ⟨g0, t0, cs0, f0, p0, hg0, ht0, hv0, hd0⟩ := r
  obtain rfl := Option.some.inj (gNames.symm.trans hg0)
  obtain rfl := Option.some.inj (tNames.symm.trans ht0)
  obtain ⟨xs, m0, _, hx0, hsz, hn0, hel0⟩ := DataW.trod_array Tryd.underlying39 hd0
  simp only [Prod.mk.injEq] at hx0
  have hm : xs.map (·.1) = M.nameL.map fun x => .lit (.string x) := by
    have := hx0.1.symm.trans laid_names
    injection this
  have e : cs0 = strs M.nameL := array_strs (by rw [← Array.length_toList, hsz]; exact cellsNames) fun i hi => by
    rw [← Array.getElem?_toList]
    refine arr_str Tryd.underlying9 cellsStr hel0 (show i < 12 from hi) ?_
    rw [hm, List.getElem?_map, List.getElem?_eq_getElem hi]
    simp [List.getD, hi]
  rw [← e]
  exact block_of_var hg0 hv0

abbrev Env := CsrTabs
set_option maxRecDepth 100000 in
/-- WHAT THE CONDITION GIVES -/
theorem env_of {W : World} (h : laidMetH Tryd.prog laidL W) (hs : W.ShapedOpen Tryd.prog) : Env W := by
  rw [MakeChecks.laidMetH_plain _ _ _ (by kernel_rfl)] at h
  exact ⟨names_of (Lib.laidMet.reads h (.head _)), masks_of (Lib.laidMet.reads h (.tail _ (.head _)))⟩

section
variable {H : Type} {enc : TypeId × Value → H} {w : World} {base : Nat} {spare : Nat → Bool} {held : Bool}

theorem okWide_array {P : Program} {r : Reach} {n : Nat} {e t : TypeId} {b0 : Nat} {v : Value} (ht : P.underlying t = some (.array n e)) (h : Value.okWide P w r b0 t v) : ∃ cs, v = .agg cs ∧ cs.size = P.cellsOf t := by
  simp only [Value.okWide, ht] at h
  obtain ⟨cs, h1, h2, _⟩ := h
  exact ⟨cs, h1, h2⟩

/-- twelve words among the arguments -/
theorem open12 {b0 : Nat} {v : Value} {d : DataW H} {p : List MemPlace} (hv : Value.okWide Tryd.prog w .any b0 23 v) (h : DataW.Trod enc Tryd.prog w base spare held 23 v d p) :
    ∃ c : List Int, v = .agg (ints .u32 c) ∧ M.Ok c := by
  obtain ⟨cs, rfl, hsz⟩ := okWide_array Tryd.underlying23 hv
  obtain ⟨fuel, hf⟩ := h
  obtain ⟨xs, m0, _, hx, _, hn, hel⟩ := DataW.trod_array Tryd.underlying23 hf
  have key : ∀ i, i < 12 → ∃ z : Int, cs[i]? = some (.int .u32 z) ∧ (0 ≤ z ∧ z < 4294967296) := fun i hi => by
    have h1 := hel i hi
    rw [cellsU32, Nat.mul_one] at h1
    have hi2 : i < xs.length := by omega
    rw [List.getElem?_eq_getElem hi2] at h1
    obtain ⟨q, e1, e2, e3⟩ := DataW.trod_int Tryd.underlying22 h1
    have hb := bounds_u32 e3
    refine ⟨q, ?_, by omega⟩
    have h2 : cs[i]? = ((cs.toList.drop i).take 1)[0]? := by simp [List.getElem?_drop]
    rw [h2]
    simp only [Value.cells] at e1
    rw [e1]; rfl
  have hsz2 : cs.size = 12 := hsz.trans cellsArr
  have hc : cs = ints .u32 (cs.toList.map intOf) := by
    refine array_ints (by simp) fun i hi => ?_
    have hi2 : i < 12 := by simpa [hsz2] using hi
    obtain ⟨z, hz, _⟩ := key i hi2
    rw [hz]
    have : (cs.toList.map intOf)[i]? = some z := by rw [List.getElem?_map, Array.getElem?_toList, hz]; rfl
    rw [List.getD_eq_getElem?_getD, this]; rfl
  refine ⟨cs.toList.map intOf, by rw [← hc], M.ok_of (by simp [hsz2]) fun x hx => ?_⟩
  obtain ⟨i, hi, rfl⟩ := List.getElem_of_mem hx
  have hi2 : i < 12 := by simpa [hsz2] using hi
  obtain ⟨z, hz, hb⟩ := key i hi2
  have : (cs.toList.map intOf)[i]? = some z := by rw [List.getElem?_map, Array.getElem?_toList, hz]; rfl
  rw [List.getElem?_eq_getElem hi] at this
  have e : (cs.toList.map intOf)[i] = z := Option.some.inj this
  rw [e]; exact hb

theorem str_short {l : List UInt8} (h : (⟨l.toArray⟩ : ByteArray).size ≤ maxLen) : l.length ≤ 9223372036854775807 := by
  have h1 : (⟨l.toArray⟩ : ByteArray).size ≤ 9223372036854775807 := h
  have h2 : (⟨l.toArray⟩ : ByteArray).size = l.length := by show l.toArray.size = _; simp
  omega

/-- what was read reads as it did -/
theorem arg_stays {W W' : World} (hb : Dn W W') {t : TypeId} (hr : Tryd.prog.readableRec t = true) (hrow : t < Tryd.prog.types.size) {sp' : Nat → Bool} {v : Value} {d : DataW H} {ps : List MemPlace}
    (h : DataW.Trod enc Tryd.prog W 0 (fun _ => true) true t v d ps) (hlt : ∀ p ∈ ps, p.block < W.heap.size) (hs : ∀ p ∈ ps, sp' p.block = true) : DataW.Trod enc Tryd.prog W' 0 sp' true t v d ps := by
  refine WideElems.Trod_stays laidOut hr hrow h (fun p hp => ?_) hs
  have := hlt p hp
  cases p with
  | cell b off => exact hb.cell this
  | map b => exact hb.block b this

theorem args_stay {W W' : World} (hb : Dn W W') : ∀ {ts : List TypeId} {vs : List Value} {ds : List (DataW H)} {ps : List MemPlace} {sp' : Nat → Bool}, (∀ t ∈ ts, Tryd.prog.readableRec t = true ∧ t < Tryd.prog.types.size) →
    DataW.TrodAll enc Tryd.prog W 0 (fun _ => true) true ts vs ds ps → (∀ p ∈ ps, p.block < W.heap.size) → (∀ p ∈ ps, sp' p.block = true) → DataW.TrodAll enc Tryd.prog W' 0 sp' true ts vs ds ps
  | [], vs, ds, ps, sp', _, h, _, _ => by
    cases vs <;> cases ds <;> first | exact h | (simp [DataW.TrodAll] at h)
  | t :: ts, vs, ds, ps, sp', ht, h, hlt, hs => by
    obtain ⟨v, vs', d, ds', p, q, rfl, rfl, rfl, h1, h2⟩ := trodAll_cons h
    exact trodAll_cons_mk (arg_stays hb (ht t List.mem_cons_self).1 (ht t List.mem_cons_self).2 h1 (fun x hx => hlt x (List.mem_append_left _ hx)) (fun x hx => hs x (List.mem_append_left _ hx)))
      (args_stay hb (fun u hu => ht u (List.mem_cons_of_mem _ hu)) h2 (fun x hx => hlt x (List.mem_append_right _ hx)) (fun x hx => hs x (List.mem_append_right _ hx)))

/-- the wrap: the listed variables and the world's shape are handed on, and of what was there nothing turns -/
theorem returns_of_walk {a : Assume} {C : Checked} (hC : C.prog = Tryd.prog) {os : Os} {f : FuncId} {fn : Func} {s : ChangeSpec} {fresh handsOn : Bool}
    (own : ownKnob C.prog.godebug = none) (started : os.Started) (noInit : C.prog.inits.idxOf? f = none) (hfn : C.prog.funcs[f]? = some fn) (hvars : s.vars = [])
    (hread : ∀ t ∈ fn.params.toList, Tryd.prog.readableRec t = true ∧ t < Tryd.prog.types.size) (hres : fn.resultTypes = #[4])
    (hspec : ∀ (H : Type) (ds : List (DataW H)), ds.length = fn.params.size → (s.fn H ds).results = [.lit (.bool true)] ∧ (s.fn H ds).args = ds ∧ (s.fn H ds).vars = [])
    (witness : ∃ (w : World) (tape : Tape) (i : Input), w.os = os ∧ (w.forCall tape i).Shaped C.prog ∧ i.vars = [] ∧ Input.okWide C.prog (w.forCall tape i) .any w.heap.size f i ∧
      ((s.pre enc C.prog fn [] false (w.forCall tape i).memory i.args ∧ laidMetH C.prog laidL (w.forCall tape i).memory) ∧ sizedMet enc C.prog fn (OpenSpec.ofChange s) false (w.forCall tape i).memory i.args) ∧ a.holds C.prog (lone (Frame.enter C.prog f i.args .normal) [] (w.forCall tape i)))
    (walk : ∀ (W : World) (base : Nat) (args : Array Value) (ds : List (DataW H)) (ps : List MemPlace), Env W →
      (∀ (j : Nat) t v, fn.params[j]? = some t → args[j]? = some v → Value.okWide C.prog W .any base t v) →
      DataW.TrodAll enc C.prog W 0 (fun _ => true) true fn.params.toList args.toList ds ps →
      Calls C.prog f args W fun e W' => e = .returned (.bool true) ∧ Dn W W') :
    ReturnsInHanded a C os f .any (fun w args => (s.pre enc C.prog fn [] false w args ∧ laidMetH C.prog laidL w) ∧ sizedMet enc C.prog fn (OpenSpec.ofChange s) false w args) (s.post enc C.prog fn false fresh handsOn false) := by
  refine returnsInHanded_of_calls own started noInit witness ?_
  intro w tape i _ hsh _ hok hpre _
  obtain ⟨_, _, _, fn', hfn', _, _, _, _, hval⟩ := hok
  have e : fn' = fn := Option.some.inj (hfn'.symm.trans hfn)
  subst e
  obtain ⟨⟨⟨ds, gs, before, hw, _⟩, hx⟩, _⟩ := hpre
  have hw' := DataW.Whole.of_heap (w' := w.forCall tape i) (by rfl) hw
  have hE : Env (w.forCall tape i) := env_of (hC ▸ laidMetH.of_heap (w' := w.forCall tape i) (by rfl) hx) (hC ▸ hsh)
  generalize w.forCall tape i = W at *
  have hlt : ∀ p ∈ before, p.block < W.heap.size := fun p hp => hw'.lt p hp
  have hWh := hw'
  obtain ⟨p, q, hA, hV, rfl, hfz, hnd⟩ := hw'
  rw [hvars] at hV
  obtain ⟨rfl, rfl⟩ := trodVars_none hV
  have hlen : ds.length = fn'.params.size := by rw [(trodAll_length hA).2]; simp
  obtain ⟨s1, s2, s3⟩ := hspec H ds hlen
  simp only [List.append_nil] at hlt hWh
  refine (walk W _ i.args ds p hE hval hA).mono fun e W' ⟨he, hb⟩ => ?_
  subst he
  refine ChangeSpec.post_blind ?_
  exact ⟨ds, [], p, [], p, [], hWh, by rw [List.append_nil, s1, hres, hC]; exact trodAll_mk1 (shut_bool Tryd.underlying4 _),
    by rw [List.append_nil, s2, hC]; exact args_stay hb hread (hC ▸ hA) hlt (fun x hx => by simpa using hlt x hx),
    by rw [List.append_nil, s3, hvars]; trivial, hb.frame _, fun h => by cases h⟩
end

end Go.Proofs.YthfhidgahdoglaaDoor
