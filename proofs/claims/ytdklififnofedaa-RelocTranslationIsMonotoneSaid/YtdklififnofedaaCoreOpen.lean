/-
  How a processor and a partition that came in as arguments are read. No statement of the program by itself.
-/
import Derived.Test.YtdklififnofedaaPlainFrame
import Derived.Test.YtdklififnofedaaCore
namespace Go.Proofs.Ytdklififnofedaa
open Go.ChangeShapes Go.WideShapes Go.ChangeAt Go.RowKit
set_option linter.unusedVariables false

theorem cellsU32 : Try.prog.cellsOf 22 = 1 := by kernel_rfl
theorem cellsCore : Try.prog.cellsOf 26 = 29 := by kernel_rfl
theorem cells16 : Try.prog.cellsOf 23 = 16 := by kernel_rfl
theorem cells12 : Try.prog.cellsOf 24 = 12 := by kernel_rfl
theorem cellsPart : Try.prog.cellsOf 28 = 2 := by kernel_rfl

/-- a word -/
def Wd (v : Value) : Prop := ∃ z : Int, v = .int .u32 z ∧ 0 ≤ z ∧ z < 4294967296
theorem words_of {l : List Value} (h : ∀ v ∈ l, Wd v) : ∃ c : List Int, l = (ints .u32 c).toList ∧ c.length = l.length ∧ ∀ x ∈ c, 0 ≤ x ∧ x < 4294967296 := by
  induction l with
  | nil => exact ⟨[], rfl, rfl, fun x hx => by cases hx⟩
  | cons v l ih =>
    obtain ⟨c, e, hl, hc⟩ := ih fun v hv => h v (List.mem_cons_of_mem _ hv)
    obtain ⟨z, rfl, hz⟩ := h v List.mem_cons_self
    refine ⟨z :: c, by rw [e]; simp [ints], by simp [hl], fun x hx => ?_⟩
    rcases List.mem_cons.1 hx with rfl | hx
    · exact hz
    · exact hc x hx

section
variable {H : Type} {enc : TypeId × Value → H} {w : World} {base : Nat} {spare : Nat → Bool} {held : Bool}

theorem word_cell {m : Nat} {cs : List Value} {x : DataW H × List MemPlace} (h : DataW.trod enc Try.prog w base spare held m 22 cs = some x) : ∃ z : Int, cs = [.int .u32 z] ∧ 0 ≤ z ∧ z < 4294967296 := by
  obtain ⟨q, e1, e2, e3⟩ := DataW.trod_int Try.underlying22 h
  have hb := bounds_u32 e3
  exact ⟨q, e1, by omega, by omega⟩
/-- an array of words -/
theorem words_array {m n : Nat} {t : TypeId} {cs : List Value} {x : DataW H × List MemPlace} (hu : Try.prog.underlying t = some (.array n 22)) (hn : Try.prog.cellsOf t = n) (h : DataW.trod enc Try.prog w base spare held m t cs = some x) : ∀ v ∈ cs, Wd v := by
  obtain ⟨xs, m0, _, hx, hl, hxn, hel⟩ := DataW.trod_array hu h
  intro v hv
  obtain ⟨i, hi, rfl⟩ := List.getElem_of_mem hv
  have hin : i < n := by omega
  have h1 := hel i hin
  rw [cellsU32, Nat.mul_one, List.getElem?_eq_getElem (by omega)] at h1
  obtain ⟨z, e, hz⟩ := word_cell h1
  refine ⟨z, ?_, hz⟩
  have h2 : cs[i]? = ((cs.drop i).take 1)[0]? := by simp [List.getElem?_drop]
  rw [e, List.getElem?_eq_getElem hi] at h2
  exact Option.some.inj h2

set_option maxRecDepth 100000 in
/-- the cells of a processor -/
theorem core_cells {m : Nat} {cs : List Value} {x : DataW H × List MemPlace} (h : DataW.trod enc Try.prog w base spare held m 26 cs = some x) : ∃ c : List Int, cs = (ints .u32 c).toList ∧ M.Core c := by
  obtain ⟨xs, n, _, hx, hl, hlen, hg⟩ := DataW.trod_struct Try.underlying26 h
  rw [cellsCore] at hl
  have g0 : DataW.trod enc Try.prog w base spare held n 23 ((cs.drop 0).take (Try.prog.cellsOf 23)) = xs[0]? := hg 0 _ rfl
  have g1 : DataW.trod enc Try.prog w base spare held n 22 ((cs.drop 16).take (Try.prog.cellsOf 22)) = xs[1]? := hg 1 _ rfl
  have g2 : DataW.trod enc Try.prog w base spare held n 24 ((cs.drop 17).take (Try.prog.cellsOf 24)) = xs[2]? := hg 2 _ rfl
  have hlen : xs.length = 3 := hlen
  rw [List.getElem?_eq_getElem (by omega)] at g0 g1 g2
  rw [cells16] at g0
  rw [cellsU32] at g1
  rw [cells12] at g2
  have k0 := words_array Try.underlying23 cells16 g0
  have k2 := words_array Try.underlying24 cells12 g2
  obtain ⟨z, k1, hz⟩ := word_cell g1
  have hall : ∀ v ∈ cs, Wd v := by
    intro v hv
    have e : cs = (cs.drop 0).take 16 ++ ((cs.drop 16).take 1 ++ (cs.drop 17).take 12) := by
      have e1 : (cs.drop 17).take 12 = cs.drop 17 := List.take_of_length_le (by simp; omega)
      have e2 : (cs.drop 16).take 1 ++ cs.drop 17 = cs.drop 16 := by
        have := List.take_append_drop 1 (cs.drop 16)
        rwa [List.drop_drop] at this
      rw [e1, e2]
      simp
    rw [e] at hv
    rcases List.mem_append.1 hv with hv | hv
    · exact k0 v hv
    · rcases List.mem_append.1 hv with hv | hv
      · rw [k1] at hv
        simp at hv
        exact ⟨z, hv, hz⟩
      · exact k2 v hv
  obtain ⟨c, e, hcl, hc⟩ := words_of hall
  exact ⟨c, e, M.core_of (by omega) hc⟩

/-- a processor among the arguments -/
theorem open29 {b0 : Nat} {v : Value} {d : DataW H} {p : List MemPlace} (hv : Value.okWide Try.prog w .any b0 26 v) (h : DataW.Trod enc Try.prog w base spare held 26 v d p) :
    ∃ c : List Int, v = .agg (ints .u32 c) ∧ M.Core c := by
  obtain ⟨cs, rfl, hsz⟩ := okWide_struct Try.underlying26 hv
  obtain ⟨fuel, hf⟩ := h
  obtain ⟨c, e, hc⟩ := core_cells hf
  simp only [Value.cells] at e
  exact ⟨c, by rw [Array.toList_inj.1 e], hc⟩
set_option maxRecDepth 100000 in
/-- a partition among the arguments -/
theorem open_part {b0 : Nat} {v : Value} {d : DataW H} {p : List MemPlace} (hv : Value.okWide Try.prog w .any b0 28 v) (h : DataW.Trod enc Try.prog w base spare held 28 v d p) :
    ∃ x y : Int, v = .agg #[.int .u32 x, .int .u32 y] ∧ (0 ≤ x ∧ x < 4294967296) ∧ (0 ≤ y ∧ y < 4294967296) := by
  obtain ⟨cs, rfl, hsz⟩ := okWide_struct Try.underlying28 hv
  obtain ⟨fuel, hf⟩ := h
  obtain ⟨xs, n, _, hx, hl, hlen, hg⟩ := DataW.trod_struct Try.underlying28 hf
  obtain ⟨l⟩ := cs
  match l, hsz.trans cellsPart with
  | [c0, c1], _ =>
    match xs, hlen with
    | [y0, y1], _ =>
      have g0 := hg 0 _ rfl
      have g1 := hg 1 _ rfl
      simp only [Value.cells] at g0 g1
      obtain ⟨x, e0, hx⟩ := word_cell (cs := [c0]) g0
      obtain ⟨y, e1, hy⟩ := word_cell (cs := [c1]) g1
      injection e0 with e0
      injection e1 with e1
      subst e0 e1
      exact ⟨x, y, rfl, hx, hy⟩
end
end Go.Proofs.Ytdklififnofedaa
