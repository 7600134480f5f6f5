/-
  Two processors compared; the general-purpose registers of a processor and a trap loaded and stored: no statement of the program by itself.
-/
import Derived.Test.YtchekfipdhoejaaBlk
import Derived.Test.YtchekfipdhoejaaR16
namespace Go.Proofs.Ytchekfipdhoejaa
open Go.ChangeShapes Go.WideShapes Go.ChangeAt Go.RowKit Go.Sort
set_option linter.unusedVariables false

theorem run_part_row {P : Program} {s : TypeId} {d : TypeDesc} {k : IntKind} (c : List Int) (o n : Nat) (hu : P.underlying s = some d) (hd : d.isRow = true) (hi : (P.info? s).map (·.size) = some n) (w : World) :
    (part s (ints k c) o).run P w = .ok (.agg (ints k ((c.drop o).take n))) w := by
  cases hq : P.info? s with
  | none => simp [hq] at hi
  | some i =>
    have hs : i.size = n := by simpa [hq] using hi
    have hagg : (isAgg s).run P w = .ok true w := by
      unfold isAgg
      rw [Sem.run_bind, run_underlying hu w]
      cases d <;> simp_all
    unfold part
    rw [Sem.run_bind, hagg]
    simp [sizeOf, typeInfo, hq, hs, part_ints]

theorem info12 : (Try.prog.info? 24).map (·.size) = some 12 := by kernel_rfl
theorem core_fields : Try.prog.underlying 26 = some (.struct (Try.prog.fieldsOf 26)) := by
  unfold Program.fieldsOf
  rw [Try.underlying26]
theorem cut_eq (c d : List Int) (hc : c.length = 29) (hd : d.length = 29) :
    (((c.drop 0).take 16 == (d.drop 0).take 16) && ((c.getD 16 0 == d.getD 16 0) && ((c.drop 17).take 12 == (d.drop 17).take 12))) = (c == d) := by
  have key : ∀ e : List Int, e.length = 29 → e = (e.drop 0).take 16 ++ (e.getD 16 0 :: (e.drop 17).take 12) := by
    intro e he
    have h1 : (e.drop 17).take 12 = e.drop 17 := List.take_of_length_le (by simp; omega)
    have h2 : e.getD 16 0 :: e.drop 17 = e.drop 16 := by
      rw [List.drop_eq_getElem_cons (i := 16) (by omega), List.getD_eq_getElem?_getD, List.getElem?_eq_getElem (by omega)]
      rfl
    rw [h1, h2]
    simp
  rw [Bool.eq_iff_iff]
  simp only [Bool.and_eq_true, beq_iff_eq]
  constructor
  · rintro ⟨h1, h2, h3⟩
    rw [key c hc, key d hd, h1, h2, h3]
  · rintro rfl
    exact ⟨rfl, rfl, rfl⟩

set_option maxRecDepth 100000 in
/-- two processors are compared -/
theorem eq29 {c d : List Int} (hc : c.length = 29) (hd : d.length = 29) (w : World) : (Op.equalIn 10000 26 (.agg (ints .u32 c)) (.agg (ints .u32 d))).run Try.prog w = .ok (c == d) w := by
  rw [run_equalIn_struct w 9999 26 (ints .u32 c) (ints .u32 d) core_fields (by kernel_rfl), ← cut_eq c d hc hd]
  have p1 := fun (e : List Int) (w : World) => run_part_row (k := .u32) e 0 16 Try.underlying23 rfl info16 w
  have p3 := fun (e : List Int) (w : World) => run_part_row (k := .u32) e 17 12 Try.underlying24 rfl info12 w
  have p2 := fun (e : List Int) (he : e.length = 29) (w : World) => run_part_int (P := Try.prog) (k := .u32) Try.underlying22 e 16 (by omega) w
  have q1 := equal_ints (k := .u32) 9997 Try.underlying23 Try.underlying22 (by kernel_rfl) ((c.drop 0).take 16) ((d.drop 0).take 16) (by simp; omega) (by simp; omega)
  have q3 := equal_ints (k := .u32) 9997 Try.underlying24 Try.underlying22 (by kernel_rfl) ((c.drop 17).take 12) ((d.drop 17).take 12) (by simp; omega) (by simp; omega)
  have q2 := fun (w : World) => run_equalIn_int (P := Try.prog) w 9998 22 .u32 .u32 (c.getD 16 0) (d.getD 16 0) Try.underlying22
  have hf : (Try.prog.fieldsOf 26).toList.map (fun f => (f.name == "_", f.type, f.offset)) = [(false, 23, 0), (false, 22, 16), (false, 24, 17)] := by kernel_rfl
  generalize (Try.prog.fieldsOf 26).toList = fs at hf ⊢
  have hn : fs.length = 3 := by simpa using congrArg List.length hf
  match fs, hn, hf with
  | [f1, f2, f3], _, hf =>
    simp only [List.map_cons, List.map_nil, List.cons.injEq, Prod.mk.injEq, and_true] at hf
    obtain ⟨⟨n1, t1, o1⟩, ⟨n2, t2, o2⟩, ⟨n3, t3, o3⟩⟩ := hf
    have n1 : f1.name ≠ "_" := by simpa using n1
    have n2 : f2.name ≠ "_" := by simpa using n2
    have n3 : f3.name ≠ "_" := by simpa using n3
    simp only [Op.eqFields, t1, t2, t3, o1, o2, o3, if_pos n1, if_pos n2, if_pos n3, Sem.run_bind, p1, Result.andThen_ok, q1, Sem.run_ite]
    cases h1 : ((c.drop 0).take 16 == (d.drop 0).take 16)
    · simp
    · simp only [Bool.not_true, Bool.false_eq_true, if_false, p2 c hc, p2 d hd, Result.andThen_ok, q2, Bool.true_and]
      cases h2 : (c.getD 16 0 == d.getD 16 0)
      · simp
      · simp only [Bool.not_true, Bool.false_eq_true, if_false, p3, Result.andThen_ok, q3, Bool.true_and]
        cases h3 : ((c.drop 17).take 12 == (d.drop 17).take 12)
        · simp
        · simp
theorem eq29_self {c : List Int} (hc : c.length = 29) (w : World) : (Op.equalIn 10000 26 (.agg (ints .u32 c)) (.agg (ints .u32 c))).run Try.prog w = .ok true w := by
  rw [eq29 hc hc, beq_self_eq_true]

theorem infoTrap : (Try.prog.info? 35).map (·.size) = some 2 := by kernel_rfl
section
variable {ops : Array Oper} {rest : List Oper} {dst : Option Tmp} {x y : Operand} {ty : TypeId} {pos : String} {aft : Array Edge} {gd : Option (Nat × Bool)} {a : Act} {w : World} {Q : Exit → Act → World → Prop} {b : Nat} {c : List Int}
/-- the registers of a processor are loaded -/
theorem load_regs (r : Row w b 26 .u32 c) (hl : c.length = 29) (hw : Region.wanted ⟨dst, .load 23 x, ty, pos, aft, gd⟩ (yielded ops a.tmps) = true) (hx : a.eval x = .pointer (some ⟨b, 0, none⟩))
    (h : wpList Try.prog ops Q rest (a.put dst (.agg (ints .u32 (c.take 16)))) w) : wpList Try.prog ops Q (⟨dst, .load 23 x, ty, pos, aft, gd⟩ :: rest) a w :=
  wpList_load_part r 0 16 Try.underlying23 rfl info16 (by omega) hw hx h
/-- .. and stored -/
theorem store_regs (e : List Int) (he : e.length = 16) (r : Row w b 26 .u32 c) (hl : c.length = 29) (hw : Region.wanted ⟨none, .store 23 x y, ty, pos, aft, gd⟩ (yielded ops a.tmps) = true) (hx : a.eval x = .pointer (some ⟨b, 0, none⟩)) (hy : a.eval y = .agg (ints .u32 e))
    (h : ∀ w', Row w' b 26 .u32 (e ++ c.drop 16) → Trn b w w' → wpList Try.prog ops Q rest a w') : wpList Try.prog ops Q (⟨none, .store 23 x y, ty, pos, aft, gd⟩ :: rest) a w := by
  refine wpList_store_ints e r (by rw [he]; exact info16) hw hx hy (by omega) fun w' r' t' => h w' ?_ t'
  rw [he] at r'
  simpa using r'
/-- a trap is loaded -/
theorem loadTrap {k v : Int} (g : Blk w b 35 #[.int .i64 k, .int .u32 v]) (hw : Region.wanted ⟨dst, .load 35 x, ty, pos, aft, gd⟩ (yielded ops a.tmps) = true) (hx : a.eval x = .pointer (some ⟨b, 0, none⟩))
    (h : wpList Try.prog ops Q rest (a.put dst (.agg #[.int .i64 k, .int .u32 v])) w) : wpList Try.prog ops Q (⟨dst, .load 35 x, ty, pos, aft, gd⟩ :: rest) a w :=
  wpList_load_whole g Try.underlying35 rfl infoTrap hw hx h
end
section
variable {dst : Option Tmp} {x y : Operand} {ty : TypeId} {pos : String} {aft : Array Edge} {gd : Option (Nat × Bool)} {a : Act} {w : World} {b : Nat} {c : List Int} {K : Act → Prop}
theorem qop_regs (r : Row w b 26 .u32 c) (hl : c.length = 29) (hx : a.eval x = .pointer (some ⟨b, 0, none⟩)) (h : K (a.put dst (.agg (ints .u32 (c.take 16))))) : Oper.quiet Try.prog ⟨dst, .load 23 x, ty, pos, aft, gd⟩ a (Later w) K :=
  quiet_part r 0 16 Try.underlying23 rfl info16 (by omega) hx h
theorem qopTrap {k v : Int} (g : Blk w b 35 #[.int .i64 k, .int .u32 v]) (hx : a.eval x = .pointer (some ⟨b, 0, none⟩)) (h : K (a.put dst (.agg #[.int .i64 k, .int .u32 v]))) : Oper.quiet Try.prog ⟨dst, .load 35 x, ty, pos, aft, gd⟩ a (Later w) K :=
  quiet_whole g Try.underlying35 rfl infoTrap hx h
end
end Go.Proofs.Ytchekfipdhoejaa
