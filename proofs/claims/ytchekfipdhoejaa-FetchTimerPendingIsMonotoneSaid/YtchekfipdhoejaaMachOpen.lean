/-
  How a machine that came in as an argument is read. No statement of the program by itself.
-/
import Derived.Test.YtchekfipdhoejaaCoreOpen
import Derived.Test.YtchekfipdhoejaaMach
import Derived.Test.YtchekfipdhoejaaMemOpen
namespace Go.Proofs.Ytchekfipdhoejaa
open Go.ChangeShapes Go.WideShapes Go.ChangeAt Go.RowKit
set_option linter.unusedVariables false

theorem cells33 : Try.prog.cellsOf 30 = 33 := by kernel_rfl
theorem cellsSl : Try.prog.cellsOf 27 = 1 := by kernel_rfl
theorem cellsU64 : Try.prog.cellsOf 28 = 1 := by kernel_rfl
theorem cellsBool : Try.prog.cellsOf 4 = 1 := by kernel_rfl

section
variable {H : Type} {enc : TypeId × Value → H} {w : World} {base : Nat} {held : Bool}
/-- the cell of a slice of bytes -/
theorem bytes_cell {m : Nat} {cs : List Value} {x : DataW H × List MemPlace} (h : DataW.trod enc Try.prog w base (fun _ => true) held m 27 cs = some x) :
    ∃ (A : Option Addr) (k : Nat) (xs : List Int), cs = [.slice A xs.length k] ∧ Bs w A k xs ∧ xs.length ≤ 9223372036854775807 := by
  rcases open_ints Try.underlying27 Try.underlying5 (by kernel_rfl) h with ⟨hcs, _⟩ | ⟨a, l, c, zs, hcs, _, hl, hm, hz, _, hcell, hwz⟩
  · exact ⟨none, 0, [], hcs, bs_nil w, by simp⟩
  · obtain ⟨xs, e, hx, hxl⟩ := Go.Proofs.Ytchekfipdhoejaa.open_row (w := w) (a := some a) (len := l) (cap := c) (zs := zs) (.inr ⟨a, rfl, hl, hm, by simpa using hz, hcell, hwz⟩)
    exact ⟨some a, c, xs, by rw [hcs, e], hx.out, hxl⟩
set_option maxRecDepth 100000 in
/-- a machine among the arguments -/
theorem open33 {b0 : Nat} {v : Value} {d : DataW H} {p : List MemPlace} (hv : Value.okWide Try.prog w .any b0 30 v) (h : DataW.Trod enc Try.prog w base (fun _ => true) held 30 v d p) :
    ∃ m : Mc, v = .agg (mach m) ∧ m.Ok w ∧ m.xs.length ≤ 9223372036854775807 ∧ m.ys.length ≤ 9223372036854775807 := by
  obtain ⟨cs, rfl, hsz⟩ := okWide_struct Try.underlying30 hv
  obtain ⟨fuel, hf⟩ := h
  obtain ⟨xs, n, _, hx, hl, hlen, hg⟩ := DataW.trod_struct Try.underlying30 hf
  simp only [Value.cells] at hl hg
  rw [cells33] at hl
  have g0 : DataW.trod enc Try.prog w base (fun _ => true) held n 26 ((cs.toList.drop 0).take (Try.prog.cellsOf 26)) = xs[0]? := hg 0 _ rfl
  have g1 : DataW.trod enc Try.prog w base (fun _ => true) held n 27 ((cs.toList.drop 29).take (Try.prog.cellsOf 27)) = xs[1]? := hg 1 _ rfl
  have g2 : DataW.trod enc Try.prog w base (fun _ => true) held n 28 ((cs.toList.drop 30).take (Try.prog.cellsOf 28)) = xs[2]? := hg 2 _ rfl
  have g3 : DataW.trod enc Try.prog w base (fun _ => true) held n 27 ((cs.toList.drop 31).take (Try.prog.cellsOf 27)) = xs[3]? := hg 3 _ rfl
  have g4 : DataW.trod enc Try.prog w base (fun _ => true) held n 4 ((cs.toList.drop 32).take (Try.prog.cellsOf 4)) = xs[4]? := hg 4 _ rfl
  have hlen : xs.length = 5 := hlen
  rw [List.getElem?_eq_getElem (by omega)] at g0 g1 g2 g3 g4
  rw [cellsCore] at g0
  rw [cellsSl] at g1 g3
  rw [cellsU64] at g2
  rw [cellsBool] at g4
  obtain ⟨c, k0, hc⟩ := core_cells g0
  obtain ⟨A, k, ms, k1, hA, lA⟩ := bytes_cell g1
  obtain ⟨t, k2, _, ht⟩ := DataW.trod_int Try.underlying28 g2
  obtain ⟨B, q, os, k3, hB, lB⟩ := bytes_cell g3
  obtain ⟨hh, k4, _⟩ := DataW.trod_bool Try.underlying4 g4
  have bt := bounds_u64 ht
  refine ⟨⟨c, A, k, ms, t, B, q, os, hh⟩, ?_, ⟨hc, hA, hB, (show 0 ≤ t by omega), (show t < 18446744073709551616 by omega)⟩, lA, lB⟩
  congr 1
  apply Array.toList_inj.1
  have cut : ∀ i, (cs.toList.drop i).take 1 ++ cs.toList.drop (i + 1) = cs.toList.drop i := fun i => by
    have := List.take_append_drop 1 (cs.toList.drop i)
    rwa [List.drop_drop] at this
  have e32 : cs.toList.drop 33 = [] := List.drop_of_length_le (by omega)
  have e : cs.toList = cs.toList.take 29 ++ ((cs.toList.drop 29).take 1 ++ ((cs.toList.drop 30).take 1 ++ ((cs.toList.drop 31).take 1 ++ ((cs.toList.drop 32).take 1 ++ cs.toList.drop 33)))) := by
    rw [cut 32, cut 31, cut 30, cut 29, List.take_append_drop]
  rw [List.drop_zero] at k0
  rw [e, k0, k1, k2, k3, k4, e32]
  simp [mach]
end
end Go.Proofs.Ytchekfipdhoejaa
