/-
  How an array of words that came in as an argument is read. No statement of the program by itself.
-/
import Derived.Test.YtchekfipdhoejaaPlainFrame
import Derived.Test.YtchekfipdhoejaaRegMath
namespace Go.Proofs.Ytchekfipdhoejaa
open Go.ChangeShapes Go.WideShapes Go.ChangeAt Go.RowKit
set_option linter.unusedVariables false

theorem cellsU32 : Try.prog.cellsOf 22 = 1 := by kernel_rfl
theorem cells16 : Try.prog.cellsOf 23 = 16 := by kernel_rfl

/-- a word -/
def Wd (v : Value) : Prop := ∃ z : Int, v = .int .u32 z ∧ 0 ≤ z ∧ z < 4294967296
theorem words_of {l : List Value} (h : ∀ v ∈ l, Wd v) : ∃ c : List Int, l = (ints .u32 c).toList ∧ c.length = l.length ∧ ∀ x ∈ c, 0 ≤ x ∧ x < 4294967296 := by
  induction l with
  | nil => exact ⟨[], rfl, rfl, fun x hx => by cases hx⟩
  | cons v l ih =>
    obtain ⟨c, e, hl, hc⟩ := ih fun v hv => h v (List.mem_cons_of_mem _ hv)
    obtain ⟨z, rfl, hz⟩ := h v List.mem_cons_self
    refine ⟨z :: c, by rw [e]; simp [ints], by simp [hl], fun x hx => ?_⟩
    rcases List.mem_cons.1 hx with rfl | hx
    · exact hz
    · exact hc x hx

section
variable {H : Type} {enc : TypeId × Value → H} {w : World} {base : Nat} {spare : Nat → Bool} {held : Bool}

theorem word_cell {m : Nat} {cs : List Value} {x : DataW H × List MemPlace} (h : DataW.trod enc Try.prog w base spare held m 22 cs = some x) : ∃ z : Int, cs = [.int .u32 z] ∧ 0 ≤ z ∧ z < 4294967296 := by
  obtain ⟨q, e1, e2, e3⟩ := DataW.trod_int Try.underlying22 h
  have hb := bounds_u32 e3
  exact ⟨q, e1, by omega, by omega⟩
/-- an array of words -/
theorem words_array {m n : Nat} {t : TypeId} {cs : List Value} {x : DataW H × List MemPlace} (hu : Try.prog.underlying t = some (.array n 22)) (hn : Try.prog.cellsOf t = n) (h : DataW.trod enc Try.prog w base spare held m t cs = some x) : ∀ v ∈ cs, Wd v := by
  obtain ⟨xs, m0, _, hx, hl, hxn, hel⟩ := DataW.trod_array hu h
  intro v hv
  obtain ⟨i, hi, rfl⟩ := List.getElem_of_mem hv
  have hin : i < n := by omega
  have h1 := hel i hin
  rw [cellsU32, Nat.mul_one, List.getElem?_eq_getElem (by omega)] at h1
  obtain ⟨z, e, hz⟩ := word_cell h1
  refine ⟨z, ?_, hz⟩
  have h2 : cs[i]? = ((cs.drop i).take 1)[0]? := by simp [List.getElem?_drop]
  rw [e, List.getElem?_eq_getElem hi] at h2
  exact Option.some.inj h2

/-- sixteen words among the arguments -/
theorem open16 {b0 : Nat} {v : Value} {d : DataW H} {p : List MemPlace} (hv : Value.okWide Try.prog w .any b0 23 v) (h : DataW.Trod enc Try.prog w base spare held 23 v d p) :
    ∃ c : List Int, v = .agg (ints .u32 c) ∧ M.Regs c := by
  obtain ⟨cs, rfl, hsz⟩ := okWide_array Try.underlying23 hv
  obtain ⟨fuel, hf⟩ := h
  obtain ⟨c, e, hl, hc⟩ := words_of (words_array Try.underlying23 cells16 hf)
  simp only [Value.cells] at e hl
  exact ⟨c, by rw [Array.toList_inj.1 e], M.regs_of (by rw [hl]; simpa using hsz.trans cells16) hc⟩
end
end Go.Proofs.Ytchekfipdhoejaa
