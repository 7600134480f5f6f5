/-
  A region that draws its order, in which calls lay memory and a new variable is made and filled: one walk serves every order. No statement of the program by itself.
-/
import Derived.Test.YtchekfipdhoejaaBlk
import Derived.OrdersHeld
import Derived.Deep.RegionHeld3
namespace Go.Proofs.Ytchekfipdhoejaa
open Go.ChangeShapes Go.WideShapes Go.ChangeAt Go.RowKit Go.Sort
set_option linter.unusedVariables false

section
variable {P : Program} {ops : Array Oper} {Q : Exit → Act → World → Prop} {md : Region.Mode} {w0 : World}

/-- a state in which the operation looks at the same -/
def Like (ops : Array Oper) (o : Oper) (a a' : Act) : Prop := execOp a'.eval o = execOp a.eval o ∧ Region.wanted o (yielded ops a'.tmps) = Region.wanted o (yielded ops a.tmps)
theorem Like.trans {o : Oper} {a b c : Act} (h : Like ops o a b) (k : Like ops o b c) : Like ops o a c := ⟨k.1.trans h.1, k.2.trans h.2⟩

/-- an operation that is apart from another one may come before it -/
theorem swap {j : Nat} {oi oj : Oper} {v : Value} (hj : ops[j]? = some oj) (hap : oi.apart ops oj = true) (hsi : ∀ cs b, oi.op ≠ .select cs b) (hsj : ∀ cs b, oj.op ≠ .select cs b)
    (hQ : ∀ c a w, Q (.panic c) (a.put oi.dst v) w → Q (.panic c) a w) {K : Act → World → Prop} {a : Act} {w : World} (h : wpOp P ops Q j K (a.put oi.dst v) w) :
    wpOp P ops Q j (fun a' w' => Like ops oi a a' ∧ K (a'.put oi.dst v) w') a w := by
  obtain ⟨h1, h2, h3⟩ := Oper.apart_spec hap
  have lk : ∀ (b : Act) (u : Value), Like ops oi b (b.put oj.dst u) := fun b u => ⟨execOp_put oi hsi b oj.dst u h3, wanted_put oi b oj.dst u h3⟩
  have go : ∀ (u : Value) (x : World), K ((a.put oi.dst v).put oj.dst u) x → Like ops oi a (a.put oj.dst u) ∧ K ((a.put oj.dst u).put oi.dst v) x := fun u x hk => ⟨lk a u, by rw [← Act.put_comm a v u h2]; exact hk⟩
  unfold wpOp at h ⊢
  simp only [hj] at h ⊢
  rw [wanted_put oj a oi.dst v h1] at h
  by_cases hw : Region.wanted oj (yielded ops a.tmps) = true
  · rw [if_pos hw] at h ⊢
    rcases h with h | ⟨ha, hl⟩
    · refine .inl ?_
      unfold Oper.wp at h ⊢
      rw [execOp_put oj hsj a oi.dst v h1] at h
      revert h
      generalize (execOp a.eval oj).run P w = r
      intro h
      match r, h with
      | .ok (.value u) x, h => exact go u x h
      | .ok .skip x, h => exact go undef x h
      | .ok (.defer d) x, h =>
        refine ⟨Like.trans (b := { a with defers := d :: a.defers }) ⟨rfl, rfl⟩ (lk _ _), ?_⟩
        rw [← Act.put_comm _ v undef h2, ← Act.put_defers]
        exact h
      | .ok (.enter f args) x, h =>
        refine Calls.mono h fun e y he => ?_
        match e, he with
        | .returned u, he => exact go u y he
        | .panicked c, he => exact hQ _ _ _ he
        | .outgrown, he => exact he
      | .ok (.row row args) x, h => exact Rows.mono h fun u y he => go u y he
      | .halt (.panic u) x, h => exact hQ _ _ _ h
    · refine .inr ⟨?_, hl⟩
      unfold Oper.asks at ha ⊢
      rwa [execOp_put oj hsj a oi.dst v h1] at ha
  · rw [if_neg hw] at h ⊢
    exact go undef w h

/-- what a calm operation has come to: its value in the world that it got, or a call that returns it and turns nothing that was there -/
def CalmUpon (P : Program) (w : World) (v : Value) : Result Next → Prop
  | .ok (.value u) x => x = w ∧ u = v
  | .ok .skip x => x = w ∧ v = undef
  | .ok (.enter f args) x => x = w ∧ Calls P f args w fun e y => e = .returned v ∧ Dn w y
  | _ => False
/-- in every world behind w0 the operation comes to that value -/
def Calm (P : Program) (ops : Array Oper) (w0 : World) (o : Oper) (v : Value) (a : Act) : Prop :=
  (Region.wanted o (yielded ops a.tmps) = true ∧ ∀ x, Dn w0 x → CalmUpon P x v ((execOp a.eval o).run P x)) ∨ (Region.wanted o (yielded ops a.tmps) = false ∧ v = undef)
theorem Calm.like {o : Oper} {v : Value} {a a' : Act} (h : Calm P ops w0 o v a) (k : Like ops o a a') : Calm P ops w0 o v a' := by
  unfold Calm at h ⊢
  rw [k.1, k.2]
  exact h
theorem Calm.wpOp {i : Nat} {o : Oper} {v : Value} {a : Act} (hi : ops[i]? = some o) (h : Calm P ops w0 o v a) {K : Act → World → Prop} {x : World} (hx : Dn w0 x) (hk : ∀ y, Dn x y → K (a.put o.dst v) y) : wpOp P ops Q i K a x := by
  unfold Go.wpOp
  simp only [hi]
  rcases h with ⟨hw, hv⟩ | ⟨hw, rfl⟩
  · rw [if_pos hw]
    refine .inl ?_
    have h1 := hv x hx
    unfold Oper.wp
    revert h1
    generalize (execOp a.eval o).run P x = r
    intro h1
    match r, h1 with
    | .ok (.value u) y, h1 => obtain ⟨rfl, rfl⟩ := h1; exact hk _ (Dn.refl _)
    | .ok .skip y, h1 => obtain ⟨rfl, rfl⟩ := h1; exact hk _ (Dn.refl _)
    | .ok (.enter f args) y, h1 =>
      obtain ⟨rfl, hc⟩ := h1
      refine hc.mono fun e z he => ?_
      obtain ⟨rfl, hd⟩ := he
      exact hk _ hd
  · rw [hw]
    exact hk _ (Dn.refl _)

/-- whatever order is picked from here on, in every later world -/
def wpUp (P : Program) (md : Region.Mode) (ops : Array Oper) (Q : Exit → Act → World → Prop) (w0 : World) : Nat → Array Bool → Act → World → Prop
  | 0, listed, a, w => Region.ready md ops listed = [] ∧ ∀ x, Dn w x → Q .normal a x
  | fuel + 1, listed, a, w => (Region.ready md ops listed = [] → ∀ x, Dn w x → Q .normal a x) ∧ ∀ i ∈ Region.ready md ops listed, ∀ x, Dn w x → Go.wpOp P ops Q i (fun a' y => Dn w0 y ∧ wpUp P md ops Q w0 fuel (listed.setIfInBounds i true) a' y) a x
theorem wpUp.up {fuel : Nat} {listed : Array Bool} {a : Act} {w x : World} (h : wpUp P md ops Q w0 fuel listed a w) (d : Dn w x) : wpUp P md ops Q w0 fuel listed a x := by
  cases fuel with
  | zero => exact ⟨h.1, fun y dy => h.2 y (d.trans dy)⟩
  | succ f => exact ⟨fun h0 y dy => h.1 h0 y (d.trans dy), fun i hi y dy => h.2 i hi y (d.trans dy)⟩
theorem wpUp.any : ∀ {fuel : Nat} {listed : Array Bool} {a : Act} {w : World}, wpUp P md ops Q w0 fuel listed a w → wpAny P md ops Q fuel listed a w
  | 0, _, _, w, h => ⟨h.1, h.2 w (Dn.refl w)⟩
  | f + 1, _, _, w, h => ⟨fun h0 => h.1 h0 w (Dn.refl w), fun i hi => wpOp_mono (fun a' y hy => wpUp.any hy.2) (h.2 i hi w (Dn.refl w))⟩

/-- what may come up waits for nothing that has not come up -/
theorem no_wait {i : Nat} {oj : Oper} {listed : Array Bool} (hi : listed.getD i true = false) (hall : ∀ e ∈ oj.after, Region.binds md e = true → listed.getD e.on false = true) : ∀ e ∈ oj.after, Region.binds md e = true → e.on ≠ i := by
  intro e he hb
  rintro rfl
  have h1 := hall e he hb
  rw [Array.getD_eq_getD_getElem?] at hi h1
  cases hq : listed[e.on]? with
  | none => rw [hq] at hi; cases hi
  | some z => rw [hq] at hi h1; exact absurd (hi.symm.trans h1) (by decide)
theorem wpUp_first {i : Nat} {oi : Oper} {v : Value} (hi : ops[i]? = some oi) (hsel : ∀ (j : Nat) (o : Oper) cs b, ops[j]? = some o → o.op ≠ .select cs b) (hQ : ∀ c a w, Q (.panic c) (a.put oi.dst v) w → Q (.panic c) a w) :
    ∀ (fuel : Nat) (listed : Array Bool) (a : Act) (w : World),
      (∀ j oj, ops[j]? = some oj → j ≠ i → listed.getD j true = false → (∀ e ∈ oj.after, Region.binds md e = true → e.on ≠ i) → oi.apart ops oj = true) →
      i ∈ Region.ready md ops listed → Calm P ops w0 oi v a → Dn w0 w →
      wpUp P md ops Q w0 fuel (listed.setIfInBounds i true) (a.put oi.dst v) w → wpUp P md ops Q w0 (fuel + 1) listed a w := by
  intro fuel
  induction fuel with
  | zero =>
    intro listed a w _ hr hc hw H
    refine ⟨fun h => absurd hr (by rw [h]; simp), fun j hj x dx => ?_⟩
    by_cases hji : j = i
    · subst hji
      exact hc.wpOp hi (hw.trans dx) fun y dy => ⟨(hw.trans dx).trans dy, H.up (dx.trans dy)⟩
    · have := ready_mono hj hji
      rw [H.1] at this
      cases this
  | succ fuel ih =>
    intro listed a w hf hr hc hw H
    refine ⟨fun h => absurd hr (by rw [h]; simp), fun j hj x dx => ?_⟩
    by_cases hji : j = i
    · subst hji
      exact hc.wpOp hi (hw.trans dx) fun y dy => ⟨(hw.trans dx).trans dy, H.up (dx.trans dy)⟩
    · obtain ⟨hjun, oj, hoj, hall⟩ := mem_ready.1 hj
      have hno := no_wait (mem_ready.1 hr).1 hall
      refine wpOp_mono (fun a' y hy => ⟨hy.2.1, ih (listed.setIfInBounds j true) a' y (fun k ok hk hki hun hn => hf k ok hk hki ?_ hn) (ready_mono hr (Ne.symm hji)) (hc.like hy.1) hy.2.1 ?_⟩)
        (swap hoj (hf j oj hoj hji hjun hno) (fun cs b => hsel i oi cs b hi) (fun cs b => hsel j oj cs b hoj) hQ (H.2 j (ready_mono hj hji) x dx))
      · by_cases hjk : j = k
        · subst hjk; exact hjun
        · rw [getD_set_ne true hjk] at hun; exact hun
      · rw [Array.setIfInBounds_comm _ _ hji]
        exact hy.2.2
/-- an operation is taken first -/
theorem wpUp_take (i : Nat) {oi : Oper} {v : Value} {fuel : Nat} {listed : Array Bool} {a : Act} {w : World} (hi : ops[i]? = some oi) (hs : Region.noSelect ops = true) (hf : Region.free md ops listed i = true) (hr : (Region.ready md ops listed).contains i = true)
    (hQ : ∀ c a w, Q (.panic c) (a.put oi.dst v) w → Q (.panic c) a w) (hc : Calm P ops w0 oi v a) (hw : Dn w0 w) (h : wpUp P md ops Q w0 fuel (listed.setIfInBounds i true) (a.put oi.dst v) w) : wpUp P md ops Q w0 (fuel + 1) listed a w :=
  wpUp_first hi (Region.noSelect_spec hs) hQ fuel listed a w (Region.free_spec hi hf) (by simpa using hr) hc hw h
/-- the beginning -/
theorem wp_region_up {id : Nat} {a : Act} {w : World} (hm : P.follows .mixedOrders = true) (h : wpUp P .any ops Q w ops.size (Array.replicate ops.size false) a w.drew) : (Code.region id ops true).wp P Q a w :=
  wp_region_any hm h.any
theorem Dn.drawn (w : World) : Dn w w.drew := (Dn.refl w).drew

/-- n operations in their order, each calm -/
def wpCalm (P : Program) (ops : Array Oper) (w0 : World) (F : Act → Prop) : Nat → List Oper → Act → Prop
  | 0, _, a => F a
  | _ + 1, [], a => F a
  | n + 1, o :: rest, a => ∃ v, Calm P ops w0 o v a ∧ wpCalm P ops w0 F n rest (a.put o.dst v)
/-- .. may come up in that order, and be taken first -/
def headB (md : Region.Mode) (ops : Array Oper) : Nat → Nat → Array Bool → Bool
  | 0, _, _ => true
  | n + 1, k, listed => (Region.ready md ops listed).contains k && Region.free md ops listed k && headB md ops n (k + 1) (listed.setIfInBounds k true)
def done (n k : Nat) (listed : Array Bool) : Array Bool := match n with
  | 0 => listed
  | n + 1 => done n (k + 1) (listed.setIfInBounds k true)
theorem wpUp_lex (hs : Region.noSelect ops = true) (hQ : ∀ c a d v w, Q (.panic c) (a.put d v) w → Q (.panic c) a w) {F : Act → Prop} {w : World} (hw : Dn w0 w) {fuel : Nat} :
    ∀ (n : Nat) (l : List Oper) (k : Nat) (listed : Array Bool) (a : Act), (∀ j, l[j]? = ops[k + j]?) → n ≤ l.length → headB md ops n k listed = true → wpCalm P ops w0 F n l a →
      (∀ a', F a' → wpUp P md ops Q w0 fuel (done n k listed) a' w) → wpUp P md ops Q w0 (fuel + n) listed a w
  | 0, _, _, _, a, _, _, _, h, hF => hF a h
  | n + 1, [], _, _, a, _, hn, _, h, hF => absurd hn (by simp)
  | n + 1, o :: l, k, listed, a, hl, hn, hB, h, hF => by
    simp only [headB, Bool.and_eq_true] at hB
    obtain ⟨⟨hr, hf⟩, hB⟩ := hB
    obtain ⟨v, hc, hk⟩ := h
    have h0 : ops[k]? = some o := by simpa using (hl 0).symm
    exact wpUp_take k h0 hs hf hr (fun c a w => hQ c a _ _ w) hc hw
      (wpUp_lex hs hQ hw n l (k + 1) _ _ (fun j => by have := hl (j + 1); simpa [Nat.add_assoc, Nat.add_comm 1 j] using this) (by simpa using hn) hB hk hF)

/-- the end: a new variable is made and filled -/
theorem wpUp_newvar (n : Nat) {p : Tmp} {t : TypeId} {y : Operand} {ty ty' : TypeId} {pos pos' : String} {aft aft' : Array Edge} {listed : Array Bool} {a : Act} {w : World} {z vs : Array Value}
    (h0 : ops[n]? = some ⟨some p, .alloc t, ty, pos, aft, none⟩) (h1 : ops[n + 1]? = some ⟨none, .store t (.tmp p) y, ty', pos', aft', none⟩)
    (r0 : Region.ready md ops listed = [n]) (r1 : Region.ready md ops (listed.setIfInBounds n true) = [n + 1]) (r2 : Region.ready md ops ((listed.setIfInBounds n true).setIfInBounds (n + 1) true) = [])
    (hz : (P.info? t).map (fun i => (i.zero, i.size)) = some (some (.agg z), z.size)) (hv : vs.size = z.size) (ho : vs.all (·.oneCell') = true)
    (hx : ∀ q, (a.put (some p) q).eval (.tmp p) = q) (hy : ∀ q, (a.put (some p) q).eval y = .agg vs) (hw : Dn w0 w)
    (h : ∀ b x, Dn w0 x → w0.heap.size ≤ b → Blk x b t vs → Q .normal (a.put (some p) (.pointer (some ⟨b, 0, none⟩))) x) : wpUp P md ops Q w0 2 listed a w := by
  have hz1 := (zero_of_info hz).1
  have hi : (P.info? t).map (·.size) = some vs.size := by
    cases hq : P.info? t with
    | none => simp [hq] at hz
    | some i => simp [hq] at hz; simp [hv, hz.2]
  refine ⟨fun e => absurd e (by rw [r0]; simp), fun i hmi x dx => ?_⟩
  rw [r0] at hmi
  obtain rfl : i = n := by simpa using hmi
  unfold wpOp
  simp only [h0]
  rw [if_pos (by rfl)]
  refine .inl ?_
  unfold Oper.wp execOp
  simp only [Instr.alloc, Sem.run_bind, hz1, Result.andThen_ok]
  simp only [newVar, newRow, Value.cells, go_sem]
  have d1 : Dn w0 (x.alloc (.cells z t)) := (hw.trans dx).alloc _
  refine ⟨d1, ⟨fun e => absurd e (by rw [r1]; simp), fun j hmj u du => ?_⟩⟩
  rw [r1] at hmj
  obtain rfl : j = i + 1 := by simpa using hmj
  have g := (Blk.new x t z).dn du
  have hb : w0.heap.size ≤ x.heap.size := (hw.trans dx).size
  unfold wpOp
  simp only [h1]
  rw [if_pos (by rfl)]
  refine .inl ?_
  have st := run_storeVar_at (P := P) (s := t) 0 (.agg vs) g (by simp only [Value.cells]; exact hi) (by simp only [Value.cells]; omega) ho
  rw [show lay z 0 (Value.agg vs).cells = vs from lay_all z vs hv.symm] at st
  unfold Oper.wp execOp
  simp only [hx, hy, Instr.storeAt, Instr.sureAddr, Sem.run_bind, Sem.run_pure, Result.andThen_ok, st]
  have d2 : Dn w0 (u.setRow x.heap.size vs) := (d1.trans du).setRow hb _
  exact ⟨d2, r2, fun s ds => h _ s (d2.trans ds) hb (Blk.dn (setRow_heap u x.heap.size _ _ t _ g) ds)⟩
/-- a region that draws its order: reads and calls, then a new variable is made and filled: one walk of the reads and calls -/
theorem wp_region_newvar {l : List Oper} (n : Nat) {id : Nat} {p : Tmp} {t : TypeId} {y : Operand} {ty ty' : TypeId} {pos pos' : String} {aft aft' : Array Edge} {a : Act} {w : World} {z : Array Value}
    (h0 : l.toArray[n]? = some ⟨some p, .alloc t, ty, pos, aft, none⟩) (h1 : l.toArray[n + 1]? = some ⟨none, .store t (.tmp p) y, ty', pos', aft', none⟩)
    (hm : P.follows .mixedOrders = true) (hs : Region.noSelect l.toArray = true) (hl : l.length = 2 + n) (hB : headB .any l.toArray n 0 (Array.replicate l.length false) = true)
    (r0 : Region.ready .any l.toArray (done n 0 (Array.replicate l.length false)) = [n]) (r1 : Region.ready .any l.toArray ((done n 0 (Array.replicate l.length false)).setIfInBounds n true) = [n + 1])
    (r2 : Region.ready .any l.toArray (((done n 0 (Array.replicate l.length false)).setIfInBounds n true).setIfInBounds (n + 1) true) = [])
    (hz : (P.info? t).map (fun i => (i.zero, i.size)) = some (some (.agg z), z.size))
    (h : wpCalm P l.toArray w (fun a => (∀ q, (a.put (some p) q).eval (.tmp p) = q) ∧ ∃ vs : Array Value, vs.size = z.size ∧ vs.all (·.oneCell') = true ∧ (∀ q, (a.put (some p) q).eval y = .agg vs) ∧
      ∀ b x, Dn w x → w.heap.size ≤ b → Blk x b t vs → Q .normal (a.put (some p) (.pointer (some ⟨b, 0, none⟩))) x) n l a) : (Code.region id l.toArray true).wp P Q a w := by
  refine wp_region_noPanic (wp_region_up hm ?_)
  rw [List.size_toArray, show l.length = 2 + n from hl]
  rw [hl] at hB r0 r1 r2
  refine wpUp_lex hs (fun _ _ _ _ _ h => h) (Dn.drawn w) n l 0 _ a (fun j => by simp) (by omega) hB h fun a' hF => ?_
  obtain ⟨hx, vs, hv, ho, hy, hk⟩ := hF
  exact wpUp_newvar n h0 h1 r0 r1 r2 hz hv ho hx hy (Dn.drawn w) hk
end

section
variable {P : Program} {ops : Array Oper} {dst : Option Tmp} {x y : Operand} {ty : TypeId} {pos : String} {aft : Array Edge} {gd : Option (Nat × Bool)} {a : Act} {w0 : World} {t s : TypeId} {b : Nat} {cs : Array Value} {d : TypeDesc}
/-- a whole block is loaded -/
theorem calm_whole (hb : Blk w0 b t cs) (hu : P.underlying s = some d) (hd : d.isRow = true) (hi : (P.info? s).map (·.size) = some cs.size) (hw : Region.wanted ⟨dst, .load s x, ty, pos, aft, gd⟩ (yielded ops a.tmps) = true) (hx : a.eval x = .pointer (some ⟨b, 0, none⟩)) :
    Calm P ops w0 ⟨dst, .load s x, ty, pos, aft, gd⟩ (.agg cs) a := by
  refine .inl ⟨hw, fun u du => ?_⟩
  unfold execOp
  simp only [hx, Instr.loadAt, Instr.sureAddr, Sem.run_bind, Sem.run_pure, Result.andThen_ok, run_loadVar_row u b t s cs (0, 0) d (hb.dn du) hu (by cases d <;> simp_all) hi]
  exact ⟨rfl, rfl⟩
/-- a function is called -/
theorem calm_call {o : Oper} {f : FuncId} {args : Array Value} {v : Value} (C : ∀ u, Calls P f args u fun e y => e = .returned v ∧ Dn u y) (hw : Region.wanted o (yielded ops a.tmps) = true) (he : ∀ u, (execOp a.eval o).run P u = .ok (.enter f args) u) : Calm P ops w0 o v a :=
  .inl ⟨hw, fun u du => by rw [he u]; exact ⟨rfl, C u⟩⟩
/-- a value that hangs on no memory -/
theorem calm_pure {o : Oper} {v : Value} (hw : Region.wanted o (yielded ops a.tmps) = true) (he : ∀ u, (execOp a.eval o).run P u = .ok (.value v) u) : Calm P ops w0 o v a :=
  .inl ⟨hw, fun u du => by rw [he u]; exact ⟨rfl, rfl⟩⟩
end
end Go.Proofs.Ytchekfipdhoejaa
