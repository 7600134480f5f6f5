/-
  Processors and traps where the order is drawn and a new variable is made: no statement of the program by itself.
-/
import Derived.Test.YtnbedmjchgfknaaCoreEq
import Derived.Test.YtnbedmjchgfknaaDrawn
namespace Go.Proofs.Ytnbedmjchgfknaa
open Go.ChangeShapes Go.WideShapes Go.ChangeAt Go.RowKit Go.Sort
set_option linter.unusedVariables false

section
variable {ops : Array Oper} {dst : Option Tmp} {x y : Operand} {ty : TypeId} {pos : String} {aft : Array Edge} {gd : Option (Nat × Bool)} {a : Act} {w0 : World} {b : Nat} {c : List Int}
theorem calm29 (r : Row w0 b 26 .u32 c) (hl : c.length = 29) (hw : Region.wanted ⟨dst, .load 26 x, ty, pos, aft, gd⟩ (yielded ops a.tmps) = true) (hx : a.eval x = .pointer (some ⟨b, 0, none⟩)) :
    Calm Try.prog ops w0 ⟨dst, .load 26 x, ty, pos, aft, gd⟩ (.agg (ints .u32 c)) a := calm_whole r.blk Try.underlying26 rfl (info_core c hl) hw hx
theorem calmTrap {k v : Int} (g : Blk w0 b 28 #[.int .i64 k, .int .u32 v]) (hw : Region.wanted ⟨dst, .load 28 x, ty, pos, aft, gd⟩ (yielded ops a.tmps) = true) (hx : a.eval x = .pointer (some ⟨b, 0, none⟩)) :
    Calm Try.prog ops w0 ⟨dst, .load 28 x, ty, pos, aft, gd⟩ (.agg #[.int .i64 k, .int .u32 v]) a := calm_whole g Try.underlying28 rfl infoTrap hw hx
end
theorem zero29 : (Try.prog.info? 26).map (fun i => (i.zero, i.size)) = some (some (.agg (ints .u32 (zeros 29))), (ints .u32 (zeros 29)).size) := by kernel_rfl
theorem size29 {c : List Int} (h : c.length = 29) : (ints .u32 c).size = (ints .u32 (zeros 29)).size := by rw [ints_size, ints_size, h]; rfl
end Go.Proofs.Ytnbedmjchgfknaa
