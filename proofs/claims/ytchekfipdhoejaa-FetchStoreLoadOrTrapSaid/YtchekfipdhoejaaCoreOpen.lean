/-
  How a processor and a partition that came in as arguments are read. No statement of the program by itself.
-/
import Derived.Test.YtchekfipdhoejaaPlainFrame
import Derived.Test.YtchekfipdhoejaaCore
import Derived.Test.YtchekfipdhoejaaWordsOpen
namespace Go.Proofs.Ytchekfipdhoejaa
open Go.ChangeShapes Go.WideShapes Go.ChangeAt Go.RowKit
set_option linter.unusedVariables false

theorem cellsCore : Try.prog.cellsOf 26 = 29 := by kernel_rfl
theorem cells12 : Try.prog.cellsOf 24 = 12 := by kernel_rfl
theorem cellsTrap : Try.prog.cellsOf 35 = 2 := by kernel_rfl

section
variable {H : Type} {enc : TypeId × Value → H} {w : World} {base : Nat} {spare : Nat → Bool} {held : Bool}

set_option maxRecDepth 100000 in
/-- the cells of a processor -/
theorem core_cells {m : Nat} {cs : List Value} {x : DataW H × List MemPlace} (h : DataW.trod enc Try.prog w base spare held m 26 cs = some x) : ∃ c : List Int, cs = (ints .u32 c).toList ∧ M.Core c := by
  obtain ⟨xs, n, _, hx, hl, hlen, hg⟩ := DataW.trod_struct Try.underlying26 h
  rw [cellsCore] at hl
  have g0 : DataW.trod enc Try.prog w base spare held n 23 ((cs.drop 0).take (Try.prog.cellsOf 23)) = xs[0]? := hg 0 _ rfl
  have g1 : DataW.trod enc Try.prog w base spare held n 22 ((cs.drop 16).take (Try.prog.cellsOf 22)) = xs[1]? := hg 1 _ rfl
  have g2 : DataW.trod enc Try.prog w base spare held n 24 ((cs.drop 17).take (Try.prog.cellsOf 24)) = xs[2]? := hg 2 _ rfl
  have hlen : xs.length = 3 := hlen
  rw [List.getElem?_eq_getElem (by omega)] at g0 g1 g2
  rw [cells16] at g0
  rw [cellsU32] at g1
  rw [cells12] at g2
  have k0 := words_array Try.underlying23 cells16 g0
  have k2 := words_array Try.underlying24 cells12 g2
  obtain ⟨z, k1, hz⟩ := word_cell g1
  have hall : ∀ v ∈ cs, Wd v := by
    intro v hv
    have e : cs = (cs.drop 0).take 16 ++ ((cs.drop 16).take 1 ++ (cs.drop 17).take 12) := by
      have e1 : (cs.drop 17).take 12 = cs.drop 17 := List.take_of_length_le (by simp; omega)
      have e2 : (cs.drop 16).take 1 ++ cs.drop 17 = cs.drop 16 := by
        have := List.take_append_drop 1 (cs.drop 16)
        rwa [List.drop_drop] at this
      rw [e1, e2]
      simp
    rw [e] at hv
    rcases List.mem_append.1 hv with hv | hv
    · exact k0 v hv
    · rcases List.mem_append.1 hv with hv | hv
      · rw [k1] at hv
        simp at hv
        exact ⟨z, hv, hz⟩
      · exact k2 v hv
  obtain ⟨c, e, hcl, hc⟩ := words_of hall
  exact ⟨c, e, M.core_of (by omega) hc⟩

/-- a processor among the arguments -/
theorem open29 {b0 : Nat} {v : Value} {d : DataW H} {p : List MemPlace} (hv : Value.okWide Try.prog w .any b0 26 v) (h : DataW.Trod enc Try.prog w base spare held 26 v d p) :
    ∃ c : List Int, v = .agg (ints .u32 c) ∧ M.Core c := by
  obtain ⟨cs, rfl, hsz⟩ := okWide_struct Try.underlying26 hv
  obtain ⟨fuel, hf⟩ := h
  obtain ⟨c, e, hc⟩ := core_cells hf
  simp only [Value.cells] at e
  exact ⟨c, by rw [Array.toList_inj.1 e], hc⟩
theorem int_cell {m : Nat} {cs : List Value} {x : DataW H × List MemPlace} (h : DataW.trod enc Try.prog w base spare held m 3 cs = some x) : ∃ z : Int, cs = [.int .i64 z] ∧ -9223372036854775808 ≤ z ∧ z < 9223372036854775808 := by
  obtain ⟨q, e1, e2, e3⟩ := DataW.trod_int Try.underlying3 h
  have hb := bounds_i64 e3
  exact ⟨q, e1, by omega, by omega⟩
set_option maxRecDepth 100000 in
/-- a trap among the arguments -/
theorem open_trap {b0 : Nat} {v : Value} {d : DataW H} {p : List MemPlace} (hv : Value.okWide Try.prog w .any b0 35 v) (h : DataW.Trod enc Try.prog w base spare held 35 v d p) :
    ∃ x y : Int, v = .agg #[.int .i64 x, .int .u32 y] ∧ (-9223372036854775808 ≤ x ∧ x < 9223372036854775808) ∧ (0 ≤ y ∧ y < 4294967296) := by
  obtain ⟨cs, rfl, hsz⟩ := okWide_struct Try.underlying35 hv
  obtain ⟨fuel, hf⟩ := h
  obtain ⟨xs, n, _, hx, hl, hlen, hg⟩ := DataW.trod_struct Try.underlying35 hf
  obtain ⟨l⟩ := cs
  match l, hsz.trans cellsTrap with
  | [c0, c1], _ =>
    match xs, hlen with
    | [y0, y1], _ =>
      have g0 := hg 0 _ rfl
      have g1 := hg 1 _ rfl
      simp only [Value.cells] at g0 g1
      obtain ⟨x, e0, hx⟩ := int_cell (cs := [c0]) g0
      obtain ⟨y, e1, hy⟩ := word_cell (cs := [c1]) g1
      injection e0 with e0
      injection e1 with e1
      subst e0 e1
      exact ⟨x, y, rfl, hx, hy⟩
end
end Go.Proofs.Ytchekfipdhoejaa
