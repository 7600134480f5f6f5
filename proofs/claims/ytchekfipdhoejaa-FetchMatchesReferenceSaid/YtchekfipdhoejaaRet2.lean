/-
  Two struct variables are handed back ('return m, t'): two loads and two stores whose order is drawn. No statement of the program by itself.
-/
import Derived.Test.YtchekfipdhoejaaBlk
import Derived.RegionTactic
namespace Go.Proofs.Ytchekfipdhoejaa
open Go.ChangeShapes Go.WideShapes Go.ChangeAt Go.RowKit Go.Sort
set_option linter.unusedVariables false

section
variable {P : Program} {Q : Exit → Act → World → Prop}
theorem wp_store_blk {o : Oper} {s t : TypeId} {x y : Operand} {a : Act} {w : World} {b : Nat} {cs vs : Array Value} {K : Act → World → Prop} (ho : o.op = .store s x y) (hd : o.dst = none) (hb : Blk w b t cs) (hi : (P.info? s).map (·.size) = some vs.size) (hz : cs.size = vs.size) (h1 : vs.all (·.oneCell') = true)
    (hx : a.eval x = .pointer (some ⟨b, 0, none⟩)) (hy : a.eval y = .agg vs) (h : ∀ w', Blk w' b t vs → Trn b w w' → K a w') : o.wp P a w K Q := by
  unfold Oper.wp execOp
  simp only [ho, hx, hy, Instr.storeAt, Instr.sureAddr, Sem.run_bind, Sem.run_pure, Result.andThen_ok, run_storeVar_at 0 (.agg vs) hb hi (by simp only [Value.cells]; omega) h1]
  have e : lay cs 0 (Value.agg vs).cells = vs := lay_all cs vs hz
  rw [e]
  simp only [Oper.upon, hd]
  exact h _ (setRow_heap w b _ _ t _ hb) (Trn.setRow w b _)

theorem wp_load_blk {o : Oper} {s t : TypeId} {x : Operand} {a : Act} {w : World} {b : Nat} {cs : Array Value} {d : TypeDesc} {K : Act → World → Prop} (ho : o.op = .load s x) (hb : Blk w b t cs) (hu : P.underlying s = some d) (hd : d.isRow = true) (hi : (P.info? s).map (·.size) = some cs.size)
    (hx : a.eval x = .pointer (some ⟨b, 0, none⟩)) (h : K (a.put o.dst (.agg cs)) w) : o.wp P a w K Q :=
  wp_load_row s x ho b hx t cs (0, 0) d hb hu (by cases d <;> simp_all) hi h
/-- which operations may come up, at each point -/
def ret2B (ops : Array Oper) : Bool :=
  Region.ready .any ops #[false, false, false, false] == [0, 1] && Region.ready .any ops #[true, false, false, false] == [1, 2] && Region.ready .any ops #[false, true, false, false] == [0] &&
  Region.ready .any ops #[true, true, false, false] == [2] && Region.ready .any ops #[true, false, true, false] == [1] && Region.ready .any ops #[true, true, true, false] == [3] && Region.ready .any ops #[true, true, true, true] == []

theorem wp_region_ret2 {id : Nat} {a : Act} {w : World} {x0 x1 y0 y1 : Operand} {d0 d1 : Tmp} {ta tb : TypeId} {ty0 ty1 ty2 ty3 : TypeId} {p0 p1 p2 p3 : String} {e0 e1 e2 e3 : Array Edge} {bx0 bx1 by0 by1 : Nat} {cs0 cs1 old0 old1 : Array Value} {D0 D1 : TypeDesc}
    (hm : P.follows .mixedOrders = true)
    (hB : ret2B #[⟨some d0, .load ta x0, ty0, p0, e0, none⟩, ⟨some d1, .load tb x1, ty1, p1, e1, none⟩, ⟨none, .store ta y0 (.tmp d0), ty2, p2, e2, none⟩, ⟨none, .store tb y1 (.tmp d1), ty3, p3, e3, none⟩] = true)
    (g0 : Blk w bx0 ta cs0) (g1 : Blk w bx1 tb cs1) (k0 : Blk w by0 ta old0) (k1 : Blk w by1 tb old1) (n1 : bx1 ≠ by0) (n2 : by1 ≠ by0)
    (hu0 : P.underlying ta = some D0) (hr0 : D0.isRow = true) (hi0 : (P.info? ta).map (·.size) = some cs0.size) (hz0 : old0.size = cs0.size) (ho0 : cs0.all (·.oneCell') = true)
    (hu1 : P.underlying tb = some D1) (hr1 : D1.isRow = true) (hi1 : (P.info? tb).map (·.size) = some cs1.size) (hz1 : old1.size = cs1.size) (ho1 : cs1.all (·.oneCell') = true)
    (q1 : a.eval x0 = .pointer (some ⟨bx0, 0, none⟩)) (q2 : a.eval x1 = .pointer (some ⟨bx1, 0, none⟩)) (q3 : (a.put (some d0) (.agg cs0)).eval x1 = .pointer (some ⟨bx1, 0, none⟩)) (q4 : (a.put (some d1) (.agg cs1)).eval x0 = .pointer (some ⟨bx0, 0, none⟩))
    (q5 : (a.put (some d0) (.agg cs0)).eval y0 = .pointer (some ⟨by0, 0, none⟩)) (q6 : (a.put (some d0) (.agg cs0)).eval (.tmp d0) = .agg cs0)
    (q7 : ((a.put (some d0) (.agg cs0)).put (some d1) (.agg cs1)).eval y0 = .pointer (some ⟨by0, 0, none⟩)) (q8 : ((a.put (some d0) (.agg cs0)).put (some d1) (.agg cs1)).eval (.tmp d0) = .agg cs0)
    (q9 : ((a.put (some d0) (.agg cs0)).put (some d1) (.agg cs1)).eval y1 = .pointer (some ⟨by1, 0, none⟩)) (q10 : ((a.put (some d0) (.agg cs0)).put (some d1) (.agg cs1)).eval (.tmp d1) = .agg cs1)
    (hc : (a.put (some d1) (.agg cs1)).put (some d0) (.agg cs0) = (a.put (some d0) (.agg cs0)).put (some d1) (.agg cs1))
    (h : ∀ w1 w2, Blk w1 by0 ta cs0 → Trn by0 { w with drawn := w.drawn + 1 } w1 → Blk w2 by1 tb cs1 → Trn by1 w1 w2 → Q .normal ((a.put (some d0) (.agg cs0)).put (some d1) (.agg cs1)) w2) :
    (Code.region id #[⟨some d0, .load ta x0, ty0, p0, e0, none⟩, ⟨some d1, .load tb x1, ty1, p1, e1, none⟩, ⟨none, .store ta y0 (.tmp d0), ty2, p2, e2, none⟩, ⟨none, .store tb y1 (.tmp d1), ty3, p3, e3, none⟩] true).wp P Q a w := by
  simp only [ret2B, Bool.and_eq_true, beq_iff_eq] at hB
  obtain ⟨⟨⟨⟨⟨⟨r0, r1⟩, r2⟩, r3⟩, r4⟩, r5⟩, r6⟩ := hB
  have hdr : Dn w { w with drawn := w.drawn + 1 } := (Dn.refl w).drew
  have g0 := g0.dn hdr
  have g1 := g1.dn hdr
  have k0 := k0.dn hdr
  have k1 := k1.dn hdr
  clear hdr
  refine wp_region_any hm ?_
  generalize ({ w with drawn := w.drawn + 1 } : World) = v at *
  -- behind both loads
  have both : ∀ fuel, wpAny P .any #[⟨some d0, .load ta x0, ty0, p0, e0, none⟩, ⟨some d1, .load tb x1, ty1, p1, e1, none⟩, ⟨none, .store ta y0 (.tmp d0), ty2, p2, e2, none⟩, ⟨none, .store tb y1 (.tmp d1), ty3, p3, e3, none⟩] Q (fuel + 2) #[true, true, false, false] ((a.put (some d0) (.agg cs0)).put (some d1) (.agg cs1)) v := by
    intro fuel
    refine wpAny_ready r3 (by simp) ?_
    refine AllReady.cons rfl (fun K hK => ?_) AllReady.nil
    refine Eq.mpr (if_pos rfl) ?_
    refine wp_store_blk rfl rfl k0 hi0 hz0 ho0 q7 q8 fun w1 b1 t1 => hK _ _ ?_
    refine wpAny_ready r5 (by simp) ?_
    refine AllReady.cons rfl (fun K hK => ?_) AllReady.nil
    refine Eq.mpr (if_pos rfl) ?_
    refine wp_store_blk rfl rfl (k1.trn t1 n2) hi1 hz1 ho1 q9 q10 fun w2 b2 t2 => hK _ _ ?_
    exact wpAny_done r6 (h w1 w2 b1 t1 b2 t2) _
  refine wpAny_ready r0 (by simp) ?_
  refine AllReady.cons rfl (fun K hK => ?_) (AllReady.cons rfl (fun K hK => ?_) AllReady.nil)
  · refine Eq.mpr (if_pos rfl) ?_
    refine wp_load_blk rfl g0 hu0 hr0 hi0 q1 (hK _ _ ?_)
    refine wpAny_ready r1 (by simp) ?_
    refine AllReady.cons rfl (fun K hK => ?_) (AllReady.cons rfl (fun K hK => ?_) AllReady.nil)
    · refine Eq.mpr (if_pos rfl) ?_
      refine wp_load_blk rfl g1 hu1 hr1 hi1 q3 (hK _ _ ?_)
      exact both 0
    · refine Eq.mpr (if_pos rfl) ?_
      refine wp_store_blk rfl rfl k0 hi0 hz0 ho0 q5 q6 fun w1 b1 t1 => hK _ _ ?_
      refine wpAny_ready r4 (by simp) ?_
      refine AllReady.cons rfl (fun K hK => ?_) AllReady.nil
      refine Eq.mpr (if_pos rfl) ?_
      refine wp_load_blk rfl (g1.trn t1 n1) hu1 hr1 hi1 q3 (hK _ _ ?_)
      refine wpAny_ready r5 (by simp) ?_
      refine AllReady.cons rfl (fun K hK => ?_) AllReady.nil
      refine Eq.mpr (if_pos rfl) ?_
      refine wp_store_blk rfl rfl (k1.trn t1 n2) hi1 hz1 ho1 q9 q10 fun w2 b2 t2 => hK _ _ ?_
      exact wpAny_done r6 (h w1 w2 b1 t1 b2 t2) _
  · refine Eq.mpr (if_pos rfl) ?_
    refine wp_load_blk rfl g1 hu1 hr1 hi1 q2 (hK _ _ ?_)
    refine wpAny_ready r2 (by simp) ?_
    refine AllReady.cons rfl (fun K hK => ?_) AllReady.nil
    refine Eq.mpr (if_pos rfl) ?_
    refine wp_load_blk rfl g0 hu0 hr0 hi0 q4 (hK _ _ ?_)
    have e := both 0
    rw [← hc] at e
    exact e
end
end Go.Proofs.Ytchekfipdhoejaa
