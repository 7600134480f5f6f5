/-
  What SplitN of package strings returns at a space and 4, and the memory in which readInstr of package asm works. Conditions: those that stand in each theorem.
-/
import Derived.Test.YtokhipjpppfkgaaGreatDoorAsmOp
namespace Go.Proofs.YtokhipjpppfkgaaGreatDoor
open Go.ChangeShapes Go.WideShapes Go.ChangeAt Go.RowKit Go.Sort
set_option linter.unusedVariables false

/-- the fields of a line -/
def M.fields (s : List UInt8) : List (List UInt8) := Lib.splitN s [32] 4

theorem splitK_ne (sep : List UInt8) (k : Nat) (s : List UInt8) : ∃ f r, Lib.splitK sep 0 k s = f :: r := by
  cases k with
  | zero => exact ⟨s, [], rfl⟩
  | succ k =>
    unfold Lib.splitK
    split
    · exact ⟨s, [], rfl⟩
    · exact ⟨_, _, rfl⟩
theorem fields_ne (s : List UInt8) : ∃ f r, M.fields s = f :: r := splitK_ne _ _ _

theorem splitK_len (sep : List UInt8) : ∀ (k : Nat) (s : List UInt8), (Lib.splitK sep 0 k s).length ≤ k + 1
  | 0, s => by simp [Lib.splitK]
  | k + 1, s => by
    unfold Lib.splitK
    split
    · simp
    · have := splitK_len sep k (s.drop ((Lib.index s sep).toNat + sep.length))
      simp only [List.length_cons]; omega
theorem fields_len (s : List UInt8) : (M.fields s).length ≤ 4 := by
  have := splitK_len [32] (min 4 (s.length + 1) - 1) s
  unfold M.fields Lib.splitN
  omega

theorem splitK_mem (sep : List UInt8) : ∀ (k : Nat) (s : List UInt8), ∀ f ∈ Lib.splitK sep 0 k s, f.length ≤ s.length
  | 0, s => by simp [Lib.splitK]
  | k + 1, s => by
    unfold Lib.splitK
    split
    · simp
    · intro f hf
      rcases List.mem_cons.1 hf with rfl | hf
      · simp only [List.length_take]; omega
      · have := splitK_mem sep k _ f hf
        simp only [List.length_drop] at this; omega
theorem fields_mem (s : List UInt8) : ∀ f ∈ M.fields s, f.length ≤ s.length := splitK_mem _ _ _

def SplitRet (W : World) (s f : List UInt8) (r : List (List UInt8)) (e : Ending) (W' : World) : Prop :=
  ∃ c, e = .returned (.slice (some ⟨W.heap.size, 0, none⟩) (r.length + 1) c) ∧ r.length + 1 ≤ c ∧ c = min 4 (s.length + 1) ∧ (∀ (j : Nat) t, (f :: r)[j]? = some t → W'.cell? ⟨W.heap.size, j, none⟩ = some (.string ⟨t.toArray⟩)) ∧ Dn W W' ∧ W'.heap.size = W.heap.size + 1

theorem splitN (s f : List UInt8) (r : List (List UInt8)) (W : World) (hs : s.length ≤ 100000) (E : Env W) (hP : M.fields s = f :: r) :
    Calls Tryz.prog 48 #[.string ⟨s.toArray⟩, .string ⟨#[32]⟩, .int .i64 4] W (SplitRet W s f r) := by
  obtain ⟨m, hm⟩ := E.maxLen
  have hsz : (⟨s.toArray⟩ : ByteArray).size = s.length := by show s.toArray.size = _; simp
  refine (Tryz.strings_SplitN ⟨s.toArray⟩ ⟨#[32]⟩ 4 m W (by rw [hsz]; omega) hm (by decide) (by decide) (by decide)).mono fun e w' ⟨he, hw⟩ => ?_
  have hd := Lib.splitB_data ⟨#[32]⟩ 0 (min 4 (s.length + 1) - 1) ⟨s.toArray⟩
  have hP' : Lib.splitK [32] 0 (min 4 (s.length + 1) - 1) s = f :: r := hP
  have hd2 : (Lib.splitB ⟨#[32]⟩ 0 (min 4 (s.length + 1) - 1) ⟨s.toArray⟩).map (·.data.toList) = f :: r := hd.trans hP'
  rw [hsz] at he hw
  have hl := Lib.splitB_length_le ⟨#[32]⟩ 0 (min 4 (s.length + 1) - 1) ⟨s.toArray⟩
  generalize Lib.splitB ⟨#[32]⟩ 0 (min 4 (s.length + 1) - 1) ⟨s.toArray⟩ = PB at *
  have hlen : PB.length = r.length + 1 := by
    have := congrArg List.length hd2
    simpa using this
  subst hw
  refine ⟨min 4 (s.length + 1), by rw [he, hlen], by omega, rfl, fun j t ht => ?_, (Dn.refl _).alloc _, by simp⟩
  rw [World.cell?_alloc_new]
  rw [← hd2, List.getElem?_map] at ht
  cases hx : PB[j]? with
  | none => rw [hx] at ht; cases ht
  | some x =>
    rw [hx] at ht
    injection ht with ht
    subst ht
    unfold Lib.cellsOf
    obtain ⟨hj, he2⟩ := List.getElem?_eq_some_iff.1 hx
    simp [List.getElem?_append, hj, he2]

/-- the memory in which readInstr works behind its first statements: the result's block, the instruction's, that of the fields, that of the variable next -/
structure RS (W w : World) (I B N : Nat) (op : Int) (l : List (List UInt8)) : Prop where
  dn : Dn W w
  hI : W.heap.size < I
  hB : I < B
  hN : B < N
  fr : FRs w B l
  bi : Box w I (.int .i64 op) (.int .i64 0) (.int .i64 0) (.int .i64 0) (.int .i32 0)
  br : Box w W.heap.size (.int .i64 0) (.int .i64 0) (.int .i64 0) (.int .i64 0) (.int .i32 0)
  nx : w.cell? ⟨N, 0, none⟩ = some (.func (.func 68) #[] #[.pointer (some ⟨B, 0, none⟩)])

theorem grown_cell {w w' : World} {B : Nat} (h : w.grownBy w' (some B)) {p : Addr} {v : Value} (hc : w.cell? p = some v) (hp : p.block ≠ B) : w'.cell? p = some v :=
  (World.cell?_of_block (h.block p.block (lt_of_cell hc) (fun e => hp (by injection e)))).trans hc

theorem Box.grown {w w' : World} {B b : Nat} {v0 v1 v2 v3 v4 : Value} (h : Box w b v0 v1 v2 v3 v4) (g : w.grownBy w' (some B)) (hb : b ≠ B) : Box w' b v0 v1 v2 v3 v4 :=
  ⟨grown_cell g h.c0 hb, grown_cell g h.c1 hb, grown_cell g h.c2 hb, grown_cell g h.c3 hb, grown_cell g h.c4 hb, Nat.lt_of_lt_of_le h.lt g.size, fun j => (World.frozen?_of_block (a := ⟨b, j, none⟩) (g.block b h.lt (fun e => hb (by injection e)))).trans (h.fr j)⟩

theorem RS.step {W w w' : World} {I B N : Nat} {op : Int} {l l' : List (List UInt8)} (h : RS W w I B N op l) (f : FRs w' B l') (g : w.grownBy w' (some B)) : RS W w' I B N op l' :=
  have h1 := h.hI
  have h2 := h.hB
  have h3 := h.hN
  ⟨Below.grown h.dn g h.dn.size (fun k hk => by injection hk with hk; omega), h1, h2, h3, f, h.bi.grown g (by omega), h.br.grown g (by omega), grown_cell g h.nx (by show N ≠ _; omega)⟩

theorem RS.drew {W w : World} {I B N : Nat} {op : Int} {l : List (List UInt8)} (h : RS W w I B N op l) : RS W w.drew I B N op l :=
  ⟨h.dn.drew, h.hI, h.hB, h.hN, by obtain ⟨A, c, f⟩ := h.fr; exact ⟨A, c, f.dn (Dn.refl _).drew⟩, h.bi.dn (Dn.refl _).drew, h.br.dn (Dn.refl _).drew, h.nx⟩

theorem run_store_func (P : Program) (w : World) (a : Addr) (m : Mode) (f : Fn) (x y : Array Value) : (store a (.func f x y) m).run P w = stored P w a (.func f x y) m := run_store P w a _ m rfl

end Go.Proofs.YtokhipjpppfkgaaGreatDoor
