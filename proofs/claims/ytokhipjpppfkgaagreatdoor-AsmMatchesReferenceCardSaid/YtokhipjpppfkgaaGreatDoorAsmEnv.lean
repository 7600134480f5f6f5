/-
  What the package variables that the assembler's code reads hold, and how that is kept from call to call: no statement of the program by itself.
-/
import Derived.Test.YtokhipjpppfkgaaGreatDoorIsaRefs2
import Derived.Test.YtokhipjpppfkgaaGreatDoorAsmText
import Derived.Test.YtokhipjpppfkgaaGreatDoorShelf
import Derived.Lib.SmallJoins
import Derived.Lib.QuietBelow
import Derived.Lib.AppendIntMem
namespace Go.Proofs.YtokhipjpppfkgaaGreatDoor
open Go.ChangeShapes Go.WideShapes Go.ChangeAt Go.RowKit Go.Sort
set_option linter.unusedVariables false

/-- of what was there nothing has turned -/
abbrev Dn (W W' : World) : Prop := Below W.heap.size W W'
theorem Dn.refl (W : World) : Dn W W := Below.refl _ _
theorem Dn.trans {a b c : World} (h : Dn a b) (k : Dn b c) : Dn a c := Below.trans h (Below.mono k h.size)
theorem Dn.alloc {a w : World} (h : Dn a w) (o : Obj) : Dn a (w.alloc o) := Below.alloc h h.size o
theorem Dn.setCell {a w : World} (h : Dn a w) {p : Addr} (hp : a.heap.size ≤ p.block) (u : Value) : Dn a (w.setCell p u) := Below.setCell h hp u
theorem Dn.drew {a w : World} (h : Dn a w) : Dn a w.drew := Below.drew h
theorem Dn.drewN {a w : World} (h : Dn a w) (n : Nat) : Dn a (w.drewN n) := ⟨h.os, h.tape, h.output, h.size, h.block⟩
theorem Up.dn {a w : World} (h : Up a w) : Dn a w := h.below
theorem Dn.of_grow (w : World) (k : Nat) (os : Array Obj) : Dn w (grow (w.drewN k) os) := Lib.below_grow _ w (Nat.le_refl _) k os
theorem Dn.keep {w w' : World} (h : Dn w w') {p : Addr} {v : Value} (hc : w.cell? p = some v) : w'.cell? p = some v := (h.cell (lt_of_cell hc)).trans hc
theorem Box.dn {w w' : World} {b : Nat} {v0 v1 v2 v3 v4 : Value} (h : Box w b v0 v1 v2 v3 v4) (k : Dn w w') : Box w' b v0 v1 v2 v3 v4 :=
  ⟨k.keep h.c0, k.keep h.c1, k.keep h.c2, k.keep h.c3, k.keep h.c4, Nat.lt_of_lt_of_le h.lt k.size, fun j => (Below.frozen k (p := ⟨b, j, none⟩) h.lt).trans (h.fr j)⟩

theorem gPow : Tryz.prog.globalNamed "internal/strconv.uint64pow10" = some 4 := by kernel_rfl

/-- the package variables -/
structure Env (W : World) : Prop where
  tabs : Tabs W
  sz : 10 < W.heap.size
  mnem : ∀ op : Int, 0 ≤ op → op ≤ 25 → W.cell? ⟨0, op.toNat, none⟩ = some (.string ⟨(M.mnem op).toArray⟩)
  maxLen : ∃ m : Int, W.cell? ⟨3, 0, none⟩ = some (.int .i64 m)
  pow10 : Lib.TabIs Tryz.prog W "internal/strconv.uint64pow10" .u64 Lib.pow10Tab
  errS : ∃ t p, W.cell? ⟨5, 0, none⟩ = some (.iface t p)
  errR : ∃ t p, W.cell? ⟨6, 0, none⟩ = some (.iface t p)
  tz : W.cell? ⟨10, 15, none⟩ = some (.int .u8 4)

theorem Env.dn {W W' : World} (h : Env W) (k : Dn W W') : Env W' :=
  ⟨h.tabs.upb k, Nat.lt_of_lt_of_le h.sz k.size, fun op a b => k.keep (h.mnem op a b), h.maxLen.imp fun _ hm => k.keep hm, Go.Joins.tab_stays gPow h.pow10 k (Nat.le_refl _), h.errS.imp fun _ ⟨p, hp⟩ => ⟨p, k.keep hp⟩, h.errR.imp fun _ ⟨p, hp⟩ => ⟨p, k.keep hp⟩, k.keep h.tz⟩
theorem Env.lt {W : World} (h : Env W) : 0 < W.heap.size := lt_of_cell (h.mnem 0 (by decide) (by decide))

end Go.Proofs.YtokhipjpppfkgaaGreatDoor
