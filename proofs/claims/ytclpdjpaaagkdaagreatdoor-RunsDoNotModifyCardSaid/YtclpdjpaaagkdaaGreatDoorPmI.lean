/-
  Contracts over the translated program and the plain facts behind them, of the texts: RnIn, RnMath, StLen, StEq, RnBase, RnCalls, RnRun, RnUn, RnUntil, Orw, RnTr, RnTraps. Conditions: those that stand in each theorem.
-/
import Derived.RangeFuncRecord
import Derived.RangeFuncSeq
import Derived.OrdersIn
import Derived.TacticsIn
import Derived.LoopIn
import Derived.Shelf.Abstract
import Derived.Deep.AppendSrc
import Derived.Laws.OwnMore
import Derived.Test.YtclpdjpaaagkdaaGreatDoorPmA
import Derived.Test.YtclpdjpaaagkdaaGreatDoorPmV
import Derived.Test.YtclpdjpaaagkdaaGreatDoorPmW
import Derived.Test.YtclpdjpaaagkdaaGreatDoorPmG
namespace Go.Proofs.YtclpdjpaaagkdaaGreatDoor
open Go.ChangeShapes Go.WideShapes Go.ChangeAt Go.RowKit Go.Sort
set_option linter.unusedVariables false

structure Wide (F : Fence) : Prop where
 fn : ∀ f, F.fn f
 depth : F.depth = none
 calls : ∀ {m : Nat} {P : Program} {f : FuncId} {args : Array Value} {w : World} {R : Ending → World → Prop}, Calls P f args w R → CallsIn F m P f args w R
 rows : ∀ {m : Nat} {P : Program} {row : String} {args : Array Value} {w : World} {R : Value → World → Prop}, Rows P row args w R → RowsIn F m P row args w R
theorem rows_wide {m : Nat} {P : Program} {row : String} {args : Array Value} {w : World} {R : Value → World → Prop} (h : Rows P row args w R) : RowsIn Fence.wide m P row args w R := by
 intro c cs _
 obtain ⟨v, w', hr, hs⟩ := h c cs
 exact ⟨v, w', hr, stepsIn_wide.2 hs⟩
theorem Wide.out : Wide Fence.wide := ⟨fun _ => trivial, rfl, fun h => callsIn_wide.2 h, fun h => rows_wide h⟩
theorem Wide.round (l : Nat) : Wide (Fence.wide.inRound l) := ⟨fun _ => trivial, rfl, fun {m P f args w R} h => (callsIn_wide.2 h : CallsIn Fence.wide m P f args w R), fun {m P row args w R} h => (rows_wide h : RowsIn Fence.wide m P row args w R)⟩

def plainOp (o : Oper) : Bool := match o.op with | .defer _ => false | _ => true
theorem semAt_plain (r : Option Nat) (ρ : Operand → Value) {o : Oper} (h : plainOp o = true) : Oper.semAt r ρ o = execOp ρ o :=
 Oper.semAt_eq r ρ o fun c hc => by unfold plainOp at h; rw [hc] at h; cases h

section
variable {F : Fence} {n : Nat} {P : Program} {ops : Array Oper} {Q Q1 : Exit → Act → World → Prop} {md : Region.Mode}
theorem op_in (hF : Wide F) {o : Oper} (hd : plainOp o = true) {K K' : Act → World → Prop} (hK : ∀ a w, K a w → K' a w) (hp : ∀ c a w, Q1 (.panic c) a w → Q (.panic c) a w) (ho : LetsOut Q1 → LetsOut Q) {a : Act} {w : World}
   (h : o.wp P a w K Q1) : o.wpIn F n P a w K' Q := by
 have hdn : F.depth.isSome = true → 1 ≤ n := by rw [hF.depth]; simp
 refine ⟨fun f _ => hF.fn f, ?_⟩
 rw [semAt_plain _ _ hd]
 unfold Oper.wp at h
 revert h
 generalize (execOp a.eval o).run P w = r
 intro h
 cases r with
 | ok x w' =>
   cases x with
   | value v => exact hK _ _ h
   | skip => exact hK _ _ h
   | defer d => exact hK _ _ h
   | enter f args =>
     refine ⟨hdn, (hF.calls h).mono fun e w'' he => ?_⟩
     cases e with
     | returned v => exact hK _ _ he
     | panicked c => exact hp _ _ _ he
     | outgrown => exact ho he
   | row row args => exact ⟨hdn, (hF.rows h).mono fun v w'' he => hK _ _ he⟩
   | _ => exact h.elim
 | halt x w' =>
   cases x with
   | panic v => exact hp _ _ _ h
   | _ => exact h.elim
theorem letsOut_then {K : Act → World → Prop} : LetsOut (Exit.then K Q) → LetsOut Q := fun ⟨a, w, h⟩ => ⟨a, w, h⟩
theorem lo_then {K : Act → World → Prop} (h : ¬ LetsOut Q) : ¬ LetsOut (Exit.then K Q) := fun k => h (letsOut_then k)
theorem lo_block {id : Nat} (h : ¬ LetsOut Q) : ¬ LetsOut (Exit.inBlock id Q) := fun ⟨a, w, k⟩ => h ⟨a, w, k⟩
theorem list_in (hF : Wide F) (hQ : ¬ LetsOut Q) (post : List Oper) : ∀ (l : List Oper), l.all plainOp = true → ∀ (a : Act) (w : World), wpList P ops (Exit.then (wpListIn F n P ops Q post) Q) l a w → wpListIn F n P ops Q (l ++ post) a w
 | [], _, a, w, h => h
 | o :: l, hl, a, w, h => by
   simp only [List.all_cons, Bool.and_eq_true] at hl
   unfold wpList at h
   show wpListIn F n P ops Q (o :: (l ++ post)) a w
   unfold wpListIn
   split at h
   · rename_i hw
     rw [if_pos hw]
     rcases h with h | ⟨_, h⟩
     · exact op_in hF hl.1 (fun a w => list_in hF hQ post l hl.2 a w) (fun _ _ _ h => h) letsOut_then h
     · exact absurd (letsOut_then h) hQ
   · rename_i hw
     rw [if_neg hw]
     exact ⟨fun f _ => hF.fn f, list_in hF hQ post l hl.2 _ _ h⟩
theorem list_all (hF : Wide F) (hQ : ¬ LetsOut Q) {l : List Oper} (hl : l.all plainOp = true) {a : Act} {w : World} (h : wpList P ops Q l a w) : wpListIn F n P ops Q l a w := by
 have e : Exit.then (wpListIn F n P ops Q []) Q = Q := by
   funext e a w
   cases e <;> rfl
 have := list_in (n := n) (ops := ops) (P := P) hF hQ [] l hl a w (by rw [e]; exact h)
 rw [List.append_nil] at this
 exact this
theorem list_two (hF : Wide F) (hQ : ¬ LetsOut Q) {o p : Oper} {post : List Oper} (ho : plainOp o = true) (hp : plainOp p = true) {a : Act} {w : World} (h : wpList P ops (Exit.then (wpListIn F n P ops Q post) Q) [o, p] a w) : wpListIn F n P ops Q (o :: p :: post) a w :=
 list_in hF hQ post [o, p] (by simp [ho, hp]) a w h
theorem region_in (hF : Wide F) (hQ : ¬ LetsOut Q) {id : Nat} {l : List Oper} (hl : l.all plainOp = true) {a : Act} {w : World} (h : wpList P l.toArray Q l a w) : (Code.region id l.toArray false).wpIn F n P Q a w :=
 wpIn_region_list (list_all hF hQ hl h)
theorem opk_in (hF : Wide F) (hQ : ¬ LetsOut Q) {i : Nat} (hd : ∀ o, ops[i]? = some o → plainOp o = true) {K K' : Act → World → Prop} (hK : ∀ a w, K a w → K' a w) {a : Act} {w : World} (h : wpOp P ops Q i K a w) : wpOpIn F n P ops Q i K' a w := by
 unfold wpOpIn
 unfold wpOp at h
 cases ho : ops[i]? with
 | none => simp only [ho] at h ⊢; exact hK _ _ h
 | some o =>
   simp only [ho] at h ⊢
   split at h
   · rename_i hw
     rw [if_pos hw]
     rcases h with h | ⟨_, h⟩
     · exact op_in hF (hd o ho) hK (fun _ _ _ h => h) id h
     · exact absurd h hQ
   · rename_i hw
     rw [if_neg hw]
     exact ⟨fun f _ => hF.fn f, hK _ _ h⟩
theorem any_in (hF : Wide F) (hQ : ¬ LetsOut Q) (hd : ∀ (i : Nat) (o : Oper), ops[i]? = some o → plainOp o = true) : ∀ (fuel : Nat) (listed : Array Bool) (a : Act) (w : World), wpAny P md ops Q fuel listed a w → wpAnyIn F n P md ops Q fuel listed a w
 | 0, _, _, _, h => h
 | f + 1, listed, a, w, h => ⟨h.1, fun i hi => opk_in hF hQ (hd i) (fun a w => any_in hF hQ hd f _ a w) (h.2 i hi)⟩
theorem region_any_in (hF : Wide F) (hQ : ¬ LetsOut Q) {id : Nat} {l : List Oper} (hl : l.all plainOp = true) {a : Act} {w : World} (hm : P.follows .mixedOrders = true)
   (h : wpAny P .any l.toArray Q l.toArray.size (Array.replicate l.toArray.size false) a { w with drawn := w.drawn + 1 }) : (Code.region id l.toArray true).wpIn F n P Q a w :=
 wpIn_region_any hm (any_in hF hQ (fun i o ho => (List.all_eq_true.1 hl) o (by
   rw [List.getElem?_toArray] at ho
   exact List.mem_of_getElem? ho)) _ _ _ _ h)
theorem picks_in (hF : Wide F) (hQ : ¬ LetsOut Q) {l : List Oper} {id : Nat} {a : Act} {w : World} (bs : List Nat) (is : List Nat) (fuel : Nat) (hd : l.all plainOp = true) (hm : P.follows .mixedOrders = true) (hs : Region.noSelect l.toArray = true) (hl : l.length = fuel + is.length)
   (hB : picksB .any l.toArray is (Array.replicate l.length false) = true)
   (h : ∃ A, wpCalx P l.toArray bs w A (pickL l is) a ∧ wpX P .any l.toArray (NoPanic Q) bs w fuel (picked is (Array.replicate l.length false)) A w.drew) : (Code.region id l.toArray true).wpIn F n P Q a w := by
 obtain ⟨A, h1, h2⟩ := h
 have h3 := wpX_picks (md := .any) (fuel := fuel) hs (fun _ _ _ _ _ h => h) (Dn.dx (Dn.drawn w)) is (Array.replicate l.length false) a hB h1 h2
 have hQ' : ¬ LetsOut (NoPanic Q) := fun ⟨a, w, h⟩ => hQ ⟨a, w, h⟩
 refine wpIn_mono (region_any_in hF hQ' hd hm ?_) fun e a w h => ?_
 · have h4 := h3.any
   rw [← hl] at h4
   rw [List.size_toArray]
   exact h4
 · cases e <;> first | exact h | exact h.elim
end

def Lp (r : Loop) (w : World) (l : Nat) : Prop := w.heap[l]? = some (.loop r) ∧ w.heap[r.defers]? = some (.deferred (some []))
theorem Lp.lt {r : Loop} {w : World} {l : Nat} (h : Lp r w l) : l < w.heap.size := (Array.getElem?_eq_some_iff.1 h.1).1
theorem Lp.ltD {r : Loop} {w : World} {l : Nat} (h : Lp r w l) : r.defers < w.heap.size := (Array.getElem?_eq_some_iff.1 h.2).1
theorem Lp.ne {r : Loop} {w : World} {l : Nat} (h : Lp r w l) : r.defers ≠ l := fun e => by
 have h2 := h.2
 rw [e, h.1] at h2
 cases h2
theorem Lp.dx {r : Loop} {w w' : World} {l : Nat} {bs : List Nat} (h : Lp r w l) (d : Dx bs w w') (h1 : l ∉ bs) (h2 : r.defers ∉ bs) : Lp r w' l := ⟨(d.block l h.lt h1).trans h.1, (d.block _ h.ltD h2).trans h.2⟩
theorem trn_putObj (w : World) (l : Nat) (o : Obj) : Trn l w (w.putObj l o) := ⟨rfl, rfl, rfl, by simp, fun i hi => World.putObj_heap_other hi⟩
theorem Lp.put {r r' : Loop} {w : World} {l : Nat} (h : Lp r w l) (hd : r'.defers = r.defers) : Lp r' (w.putObj l (.loop r')) l :=
 ⟨World.putObj_heap_same h.lt, by rw [hd, World.putObj_heap_other h.ne]; exact h.2⟩

theorem lp_end {P : Program} {r : Loop} {w : World} {l : Nat} (h : Lp r w l) (hs : r.state ≠ .busy) : ∃ w', (Instr.endLoop l).run P w = .ok r.pending w' ∧ Trn l w w' := ⟨_, run_endLoop h.1 hs, trn_putObj w _ _⟩
section
variable {n : Nat} {P : Program} {Q : Exit → Act → World → Prop} {a : Act} {w : World}
def After (P : Program) (Q : Exit → Act → World → Prop) (a : Act) (D : Nat) (pe : Option Code) (w : World) : Prop :=
 match pe with
 | none => Q .normal { a with defers := { target := .collected D, args := #[] } :: a.defers } w
 | some c => c.wp P Q { a with defers := { target := .collected D, args := #[] } :: a.defers } w
theorem wp_range {g : Operand} {ps : Array Tmp} {assign body : Code} (gf : Nat) (lb : Array Value) (hg : a.eval g = .func (.func gf) #[] lb) (eg : ∀ args w, (callFunc gf args).run P w = .ok (.enter gf args) w)
   (h : ∀ (r : Loop) (l : Nat) (w1 : World), r.state = .ready → r.pending = none → r.tmps = a.tmps → r.params = ps → r.assign = assign → r.body = body → r.defers = w.heap.size → l = w.heap.size + 1 → Dn w w1 → Lp r w1 l →
     Calls P gf (#[.func (.yield l) #[] #[]] ++ lb) w1 fun e w2 => ∃ v st pe, e = .returned v ∧ st ≠ .busy ∧ Lp { r with state := st, pending := pe } w2 l ∧
       ∀ w3, Trn l w2 w3 → w3.heap[w.heap.size]? = some (.deferred (some [])) → After P Q a w.heap.size pe w3) : (Code.rangeFunc g ps assign body).wp P Q a w := by
 refine (wpIn_wide (n := 1)).1 (wpIn_rangeFunc fun fn _ => ?_)
 obtain ⟨r, hr⟩ : ∃ r : Loop, r = { state := .ready, pending := none, fn := fn, tmps := a.tmps, params := ps, assign := assign, body := body, defers := w.heap.size } := ⟨_, rfl⟩
 obtain ⟨w1, hw1⟩ : ∃ w1, w1 = (w.alloc (.deferred (some []))).alloc (.loop r) := ⟨_, rfl⟩
 have hD : r.defers = w.heap.size := by rw [hr]
 have hL1 : Lp r w1 (w.heap.size + 1) := by
   refine ⟨?_, ?_⟩
   · have := World.alloc_heap_new (w.alloc (.deferred (some []))) (.loop r)
     rw [World.size_alloc] at this
     rw [hw1]
     exact this
   · rw [hw1, hD]
     exact (Below.heap_alloc _ _ _ (by simp)).trans (World.alloc_heap_new w _)
 have hd1 : Dn w w1 := by rw [hw1]; exact ((Dn.refl w).alloc _).alloc _
 have hen : (Instr.enterLoop fn a.tmps ps assign body none).run P w = .ok (w.heap.size + 1, [{ target := .collected w.heap.size, args := #[] }]) w1 := by
   rw [hw1, hr]
   exact run_enterLoop_outer fn a.tmps ps assign body
 have hC := h r (w.heap.size + 1) w1 (by rw [hr]) (by rw [hr]) (by rw [hr]) (by rw [hr]) (by rw [hr]) (by rw [hr]) hD rfl hd1 hL1
 clear hw1 h
 obtain ⟨d, hd⟩ : ∃ d : Deferred, d = { target := .fn (.func gf) lb, args := #[.func (.yield (w.heap.size + 1)) #[] #[]] } := ⟨_, rfl⟩
 have hres : (Go.resolve a.eval (rangeCall g (w.heap.size + 1)) 0).run P w1 = .ok d w1 := by
   rw [hd]
   simp only [Go.resolve, hg]
   simp [Deferred.ofValue, Act.eval]
 have hinv : (invoke d.target d.args).run P w1 = .ok (.enter gf (#[.func (.yield (w.heap.size + 1)) #[] #[]] ++ lb)) w1 := by
   rw [hd]
   unfold invoke
   exact eg _ _
 clear hd eg
 have hcall : CallsIn Fence.wide (1 - 1) P gf (#[.func (.yield (w.heap.size + 1)) #[] #[]] ++ lb) w1 (rangePost Fence.wide 1 P (w.heap.size + 1) Q { a with defers := [{ target := .collected w.heap.size, args := #[] }] ++ a.defers }) := by
   refine callsIn_wide.2 (hC.mono ?_)
   rintro e w2 ⟨v, st, pe, rfl, hs, hl, hk⟩
   have hl2 : w2.heap[w.heap.size]? = some (.deferred (some [])) := by
     have := hl.2
     rw [show ({ r with state := st, pending := pe } : Loop).defers = w.heap.size from hD] at this
     exact this
   obtain ⟨w4, he, ht⟩ := lp_end (P := P) hl hs
   have k := hk w4 ht ((ht.block _ (by omega)).trans hl2)
   refine ⟨pe, w4, he, ?_⟩
   cases pe with
   | none => exact k
   | some c => exact wpIn_wide.2 k
 exact ⟨w.heap.size + 1, _, w1, d, w1, gf, _, w1, hen, hres, fun f' _ => trivial, hinv, (by intro hf; cases hf), hcall⟩

def rBusy (r : Loop) : Loop := { r with state := .busy }
def rDone (r : Loop) : Loop := { r with state := .done, pending := some .ret }
theorem loop_ready {r : Loop} (hs : r.state = .ready) (hp : r.pending = none) : ({ r with state := .ready, pending := none } : Loop) = r := by
 cases r
 simp only at hs hp
 subst hs hp
 rfl
def rpost (r : Loop) (l : Nat) (R : Bool → World → Prop) : Exit → Act → World → Prop
 | .normal, _, w => Lp (rBusy r) w l ∧ ∀ w', Trn l w w' → Lp r w' l → R true w'
 | .ret, _, w => Lp (rBusy r) w l ∧ ∀ w', Trn l w w' → Lp (rDone r) w' l → R false w'
 | _, _, _ => False
theorem rpost_out {r : Loop} {l : Nat} {R : Bool → World → Prop} : ¬ LetsOut (rpost r l R) := fun ⟨_, _, h⟩ => h
theorem round_at {r : Loop} {l : Nat} {args : Array Value} (hL : Lp r w l) (hst : r.state = .ready) (hpe : r.pending = none) (hs : args.size = r.params.size) (R : Bool → World → Prop)
   (h : r.assign.wpIn (Fence.wide.inRound l) n P (Exit.then (fun a1 w1 => Lp r w1 l ∧ ∀ w2, Trn l w1 w2 → Lp (rBusy r) w2 l → r.body.wpIn (Fence.wide.inRound l) n P (rpost r l R) a1 w2) (fun _ _ _ => False))
     { tmps := (r.params.zip args).foldl (fun t (p, v) => t.setIfInBounds p v) r.tmps, defers := [] } w) :
   YieldAt Fence.wide n P l args w fun e w' => ∃ b, e = .returned (.bool b) ∧ R b w' := by
 refine ⟨r.fn, _, r.assign, r.body, run_yield hL.1 hs, roundIn_of_wpIn (by trivial) (wpIn_mono h fun e a1 w1 hq => ?_)⟩
 cases e with
 | normal =>
   obtain ⟨h1, h2⟩ := hq
   refine ⟨_, run_beginRound h1.1 hst, wpIn_mono (h2 _ (trn_putObj w1 _ _) (h1.put (r' := rBusy r) rfl)) fun e a2 w2 hq => ?_⟩
   cases e with
   | normal =>
     have e : ({ (rBusy r) with state := .ready, pending := none } : Loop) = r := loop_ready hst hpe
     refine ⟨_, _, run_endRound none hq.1.1, true, rfl, hq.2 _ (trn_putObj w2 _ _) ?_⟩
     exact e ▸ hq.1.put (r' := { (rBusy r) with state := .ready, pending := none }) rfl
   | ret => exact ⟨_, _, run_endRound (some .ret) hq.1.1, false, rfl, hq.2 _ (trn_putObj w2 _ _) (hq.1.put (r' := rDone r) rfl)⟩
   | _ => exact hq.elim
 | _ => exact hq.elim

theorem list_yield {ops : Array Oper} {rest : List Oper} {dst : Option Tmp} {f x : Operand} {ts : Array TypeId} {ty : TypeId} {pos : String} {aft : Array Edge} {l : Nat} {v : Value} {R : Ending → World → Prop}
   (hf : a.eval f = .func (.yield l) #[] #[]) (hx : a.eval x = v) (hY : YieldAt Fence.wide (n - 1) P l #[v] w R)
   (h : ∀ e w', R e w' → ∃ b, e = .returned b ∧ wpListIn Fence.wide n P ops Q rest (a.put dst b) w') : wpListIn Fence.wide n P ops Q (⟨dst, .call { callee := .value f, args := #[x], argTypes := ts }, ty, pos, aft, none⟩ :: rest) a w := by
 obtain ⟨fn, tmps, assign, body, hy, hr⟩ := hY
 refine wpListIn_plain rfl fun K hK => ?_
 refine ⟨fun f _ => trivial, ?_⟩
 have hm : (#[x] : Array Operand).map a.eval = #[v] := by rw [← hx]; simp
 have h1 : (Go.resolve a.eval { callee := .value f, args := #[x], argTypes := ts } ty).run P w = .ok { target := .fn (.yield l) #[], args := #[v] } w := by
   unfold Go.resolve
   simp only [hm, hf]
   simp [Deferred.ofValue]
 have e : (Oper.semAt Fence.wide.round a.eval ⟨dst, .call { callee := .value f, args := #[x], argTypes := ts }, ty, pos, aft, none⟩).run P w = .ok (.round l fn tmps assign body) w := by
   show Sem.run P (do let d ← Go.resolve a.eval { callee := .value f, args := #[x], argTypes := ts } ty; invoke d.target d.args) w = _
   rw [Sem.run_bind, h1]
   simp [Result.andThen, invoke, hy]
 rw [e]
 refine ⟨(by intro hq; cases hq), hr.mono fun e w' he => ?_⟩
 obtain ⟨b, rfl, hk⟩ := h e w' he
 exact hK _ _ hk

def markPost (P : Program) (fn : Func) (R : Ending → World → Prop) : Exit → Act → World → Prop
 | .normal, a, w | .ret, a, w => ∃ D, a.defers = [{ target := .collected D, args := #[] }] ∧ w.heap[D]? = some (.deferred (some [])) ∧ ∀ w', Trn D w w' → bodyPost P fn R .ret { a with defers := [] } w'
 | _, _, _ => False
theorem calls_of_marks {f : FuncId} {fn : Func} {c : Code} {args : Array Value} {R : Ending → World → Prop} (hf : P.funcs[f]? = some fn) (hb : fn.body = some c)
   (h : c.wp P (markPost P fn R) { tmps := args ++ Array.replicate (fn.ntmps - args.size) undef, defers := [] } w) : Calls P f args w R := by
 refine (callsIn_wide (n := 1)).1 (callsIn_of_wp_marks hf hb trivial (wpIn_mono (wpIn_wide.2 h) fun e a w hq => ?_))
 have key : markPost P fn R .ret a w → LeavesInM Fence.wide 1 P fn a.tmps R a.defers .returning w := by
   rintro ⟨D, hd, hD, hk⟩
   rw [hd]
   refine ⟨by simp, .inl ⟨D, _, rfl, run_takeDeferred hD, ?_⟩⟩
   exact (hk _ (trn_putObj w _ _)).2
 cases e with
 | normal => exact key hq
 | ret => exact key hq
 | _ => exact hq.elim
end
end Go.Proofs.YtclpdjpaaagkdaaGreatDoor
namespace Go.Proofs.YtclpdjpaaagkdaaGreatDoor.M
open Go.RowKit
set_option linter.unusedVariables false

def nx (s : SRes) : SRes := stS s.c s.z s.ys s.h s.t
def gon : Nat → SRes → SRes
 | 0, s => s
 | n + 1, s => if s.h = true then s else gon n (nx s)
def cntn : Nat → SRes → Nat
 | 0, _ => 0
 | n + 1, s => if s.h = true then 0 else cntn n (nx s) + 1
def trn : Nat → SRes → List (Int × Int)
 | 0, _ => []
 | n + 1, s => if s.h = true then [] else (if (nx s).k = 0 then [] else [((nx s).k, (nx s).v)]) ++ trn n (nx s)
def unt (p : Int) : Nat → SRes → SRes × Nat × Bool
 | 0, s => (s, 0, decide (pc s.c = p))
 | n + 1, s => if pc s.c = p then (s, 0, true) else if s.h = true then (s, 0, false) else ((unt p n (nx s)).1, (unt p n (nx s)).2.1 + 1, (unt p n (nx s)).2.2)
theorem gon_h {n : Nat} {s : SRes} (h : s.h = true) : gon n s = s := by cases n with | zero => rfl | succ n => unfold gon; rw [if_pos h]
theorem cntn_h {n : Nat} {s : SRes} (h : s.h = true) : cntn n s = 0 := by cases n with | zero => rfl | succ n => unfold cntn; rw [if_pos h]
theorem trn_h {n : Nat} {s : SRes} (h : s.h = true) : trn n s = [] := by cases n with | zero => rfl | succ n => unfold trn; rw [if_pos h]
theorem gon_s {n : Nat} {s : SRes} (h : s.h = false) : gon (n + 1) s = gon n (nx s) := by conv => lhs; unfold gon; rw [if_neg (by rw [h]; decide)]
theorem cntn_s {n : Nat} {s : SRes} (h : s.h = false) : cntn (n + 1) s = cntn n (nx s) + 1 := by conv => lhs; unfold cntn; rw [if_neg (by rw [h]; decide)]
theorem trn_s {n : Nat} {s : SRes} (h : s.h = false) : trn (n + 1) s = (if (nx s).k = 0 then [] else [((nx s).k, (nx s).v)]) ++ trn n (nx s) := by conv => lhs; unfold trn; rw [if_neg (by rw [h]; decide)]
theorem gon_add : ∀ (n k : Nat) (s : SRes), gon (n + k) s = gon k (gon n s)
 | 0, k, s => by rw [Nat.zero_add]; rfl
 | n + 1, k, s => by
   cases h : s.h
   · rw [show n + 1 + k = (n + k) + 1 by omega, gon_s h, gon_s h, gon_add n k]
   · rw [gon_h h, gon_h h, gon_h h]
theorem cntn_add : ∀ (n k : Nat) (s : SRes), cntn (n + k) s = cntn n s + cntn k (gon n s)
 | 0, k, s => by rw [Nat.zero_add]; show cntn k s = 0 + cntn k s; omega
 | n + 1, k, s => by
   cases h : s.h
   · rw [show n + 1 + k = (n + k) + 1 by omega, cntn_s h, cntn_s h, gon_s h, cntn_add n k]; omega
   · rw [cntn_h h, cntn_h h, gon_h h, cntn_h h]
theorem trn_add : ∀ (n k : Nat) (s : SRes), trn (n + k) s = trn n s ++ trn k (gon n s)
 | 0, k, s => by rw [Nat.zero_add]; rfl
 | n + 1, k, s => by
   cases h : s.h
   · rw [show n + 1 + k = (n + k) + 1 by omega, trn_s h, trn_s h, gon_s h, trn_add n k, List.append_assoc]
   · rw [trn_h h, trn_h h, gon_h h, trn_h h]; rfl
theorem cntn_le : ∀ (n : Nat) (s : SRes), cntn n s ≤ n
 | 0, s => Nat.le_refl _
 | n + 1, s => by
   cases h : s.h
   · rw [cntn_s h]; have := cntn_le n (nx s); omega
   · rw [cntn_h h]; omega
theorem cntn_lt : ∀ (n : Nat) (s : SRes), cntn n s < n → (gon n s).h = true
 | 0, s, h => absurd h (by simp)
 | n + 1, s, hl => by
   cases h : s.h
   · rw [cntn_s h] at hl; rw [gon_s h]; exact cntn_lt n (nx s) (by omega)
   · rw [gon_h h]; exact h
theorem gon_cnt : ∀ (n : Nat) (s : SRes), gon (cntn n s) s = gon n s ∧ cntn (cntn n s) s = cntn n s
 | 0, s => ⟨rfl, rfl⟩
 | n + 1, s => by
   cases h : s.h
   · have ih := gon_cnt n (nx s)
     rw [cntn_s h, gon_s h, gon_s h, cntn_s h, ih.1, ih.2]; exact ⟨rfl, rfl⟩
   · rw [cntn_h h, gon_h h, gon_h h, cntn_h h]; exact ⟨rfl, rfl⟩
theorem trn_len : ∀ (n : Nat) (s : SRes), (trn n s).length ≤ cntn n s
 | 0, s => Nat.le_refl _
 | n + 1, s => by
   cases h : s.h
   · rw [cntn_s h, trn_s h, List.length_append]
     have := trn_len n (nx s)
     split <;> simp <;> omega
   · rw [cntn_h h, trn_h h]; exact Nat.le_refl _
theorem unt_run (p : Int) : ∀ (n : Nat) (s : SRes), (unt p n s).2.1 ≤ n ∧ (unt p n s).1 = gon (unt p n s).2.1 s ∧ cntn (unt p n s).2.1 s = (unt p n s).2.1 ∧ (unt p n s).2.2 = decide (pc (unt p n s).1.c = p) ∧ (∀ i, i < (unt p n s).2.1 → pc (gon i s).c ≠ p) ∧ ((unt p n s).2.2 = false → (unt p n s).2.1 = n ∨ (unt p n s).1.h = true)
 | 0, s => ⟨Nat.le_refl _, rfl, rfl, rfl, fun i h => absurd h (by show ¬ i < 0; omega), fun _ => .inl rfl⟩
 | n + 1, s => by
   by_cases hp : pc s.c = p
   · have e : unt p (n + 1) s = (s, 0, true) := by unfold unt; rw [if_pos hp]
     rw [e]
     exact ⟨Nat.zero_le _, rfl, rfl, (decide_eq_true hp).symm, fun i h => absurd h (by show ¬ i < 0; omega), fun h => by cases h⟩
   · cases h : s.h
     · have e : unt p (n + 1) s = ((unt p n (nx s)).1, (unt p n (nx s)).2.1 + 1, (unt p n (nx s)).2.2) := by conv => lhs; unfold unt; rw [if_neg hp, if_neg (by rw [h]; decide)]
       rw [e]
       obtain ⟨h1, h2, h3, h4, h5, h6⟩ := unt_run p n (nx s)
       refine ⟨by show _ + 1 ≤ _ + 1; omega, by show (unt p n (nx s)).1 = gon (_ + 1) s; rw [gon_s h]; exact h2, by show cntn (_ + 1) s = _ + 1; rw [cntn_s h, h3], h4, fun i hi => ?_, fun hf => ?_⟩
       · cases i with
         | zero => exact hp
         | succ i => rw [gon_s h]; exact h5 i (by have : i + 1 < (unt p n (nx s)).2.1 + 1 := hi; omega)
       · rcases h6 hf with h7 | h7
         · exact .inl (by show _ + 1 = _ + 1; rw [h7])
         · exact .inr h7
     · have e : unt p (n + 1) s = (s, 0, false) := by unfold unt; rw [if_neg hp, if_pos h]
       rw [e]
       exact ⟨Nat.zero_le _, rfl, rfl, (decide_eq_false hp).symm, fun i hi => absurd hi (by show ¬ i < 0; omega), fun _ => .inr h⟩
theorem cnt_go : ∀ (n i : Nat) (s : SRes), i ≤ cntn n s → (gon i s).h = false → i < n → i < cntn n s
 | 0, i, s, _, _, h => absurd h (Nat.not_lt_zero _)
 | n + 1, i, s, hi, hh, hl => by
   cases h : s.h
   · cases i with
     | zero => rw [cntn_s h]; omega
     | succ i =>
       rw [cntn_s h] at hi ⊢
       rw [gon_s h] at hh
       have := cnt_go n i (nx s) (by omega) hh (by omega)
       omega
   · rw [gon_h h, h] at hh; cases hh
theorem cnt_h : ∀ (n i : Nat) (s : SRes), i < cntn n s → (gon i s).h = false
 | 0, i, s, h => absurd h (Nat.not_lt_zero _)
 | n + 1, i, s, hi => by
   cases h : s.h
   · cases i with
     | zero => exact h
     | succ i =>
       rw [cntn_s h] at hi
       rw [gon_s h]
       exact cnt_h n i (nx s) (by omega)
   · rw [cntn_h h] at hi; exact absurd hi (Nat.not_lt_zero _)
theorem cnt_stop {n i : Nat} {s : SRes} (hi : i ≤ cntn n s) (h : (gon i s).h = true ∨ n ≤ i) : i = cntn n s := by
 have hle := cntn_le n s
 rcases Nat.lt_or_ge i (cntn n s) with hl | hl
 · rcases h with h | h
   · rw [cnt_h n i s hl] at h; cases h
   · omega
 · omega
theorem gon_next {i : Nat} {s : SRes} (h : (gon i s).h = false) : gon (i + 1) s = nx (gon i s) := by
 rw [gon_add i 1 s, gon_s h]; rfl
theorem trn_next {i n : Nat} {s : SRes} (h : i < cntn n s) : trn (i + 1) s = trn i s ++ (if (gon (i + 1) s).k = 0 then [] else [((gon (i + 1) s).k, (gon (i + 1) s).v)]) := by
 have hh := cnt_h n i s h
 rw [trn_add i 1 s, trn_s hh, gon_next hh]
 show _ ++ (_ ++ []) = _
 rw [List.append_nil]
theorem unt_is (p : Int) : ∀ (n i : Nat) (s : SRes), i ≤ cntn n s → (∀ j, j < i → pc (gon j s).c ≠ p) → pc (gon i s).c = p → unt p n s = (gon i s, i, true)
 | 0, i, s, hi, h, hp => by
   obtain rfl : i = 0 := by have : i ≤ 0 := hi; omega
   have hp' : pc s.c = p := hp
   show (s, 0, decide (pc s.c = p)) = (s, 0, true)
   rw [decide_eq_true hp']
 | n + 1, 0, s, hi, h, hp => by
   have hp' : pc s.c = p := hp
   unfold unt
   rw [if_pos hp']
   rfl
 | n + 1, i + 1, s, hi, h, hp => by
   have h0 : pc s.c ≠ p := h 0 (by omega)
   have hh := cnt_h (n + 1) 0 s (by omega)
   have hh : s.h = false := hh
   rw [cntn_s hh] at hi
   rw [gon_s hh] at hp ⊢
   have ih := unt_is p n i (nx s) (by omega) (fun j hj => by have := h (j + 1) (by omega); rwa [gon_s hh] at this) hp
   unfold unt
   rw [if_neg h0, if_neg (by rw [hh]; decide), ih]
theorem unt_none (p : Int) : ∀ (n : Nat) (s : SRes), (∀ j, j ≤ cntn n s → pc (gon j s).c ≠ p) → unt p n s = (gon n s, cntn n s, false)
 | 0, s, h => by
   have h0 : pc s.c ≠ p := h 0 (by omega)
   show (s, 0, decide (pc s.c = p)) = (s, 0, false)
   rw [decide_eq_false h0]
 | n + 1, s, h => by
   have h0 : pc s.c ≠ p := h 0 (by omega)
   cases hh : s.h
   · rw [cntn_s hh] at h
     have ih := unt_none p n (nx s) (fun j hj => by have := h (j + 1) (by omega); rwa [gon_s hh] at this)
     unfold unt
     rw [if_neg h0, if_neg (by rw [hh]; decide), ih, gon_s hh, cntn_s hh]
   · unfold unt
     rw [if_neg h0, if_pos hh, gon_h hh, cntn_h hh]
theorem trn_cnt (n : Nat) (s : SRes) : trn (cntn n s) s = trn n s := by
 have hle := cntn_le n s
 rcases Nat.lt_or_ge (cntn n s) n with h | h
 · have hh := cntn_lt n s h
   have e : n = cntn n s + (n - cntn n s) := by omega
   have hg : (gon (cntn n s) s).h = true := by rw [(gon_cnt n s).1]; exact hh
   conv => rhs; rw [e, trn_add, trn_h hg, List.append_nil]
 · have e : cntn n s = n := by omega
   rw [e]
theorem gon_cn (n : Nat) (s : SRes) : gon (cntn n s) s = gon n s := (gon_cnt n s).1
theorem stS_t (c xs ys : List Int) (t : Int) : (stS c xs ys false t).t = tick t := by
 cases hd : due c t
 · rw [stS_not hd, stn_on]
   unfold stp
   dsimp only
   repeat' split
   all_goals rfl
 · rw [stS_due hd]
theorem nx_t {s : SRes} (h : s.h = false) : (nx s).t = tick s.t := by unfold nx; rw [h]; exact stS_t _ _ _ _
theorem gon_t : ∀ (n : Nat) (s : SRes), 0 ≤ s.t → s.t < 18446744073709551616 → (gon n s).t = (s.t + cntn n s) % 18446744073709551616
 | 0, s, h0, h1 => by show s.t = (s.t + ((0 : Nat) : Int)) % _; omega
 | n + 1, s, h0, h1 => by
   cases h : s.h
   · have e := nx_t h
     have r := tick_rng s.t
     rw [gon_s h, cntn_s h, gon_t n (nx s) (by rw [e]; exact r.1) (by rw [e]; exact r.2), e]
     unfold tick
     push_cast
     omega
   · rw [gon_h h, cntn_h h]; show s.t = (s.t + ((0 : Nat) : Int)) % _; omega
end Go.Proofs.YtclpdjpaaagkdaaGreatDoor.M
namespace Go.Proofs.YtclpdjpaaagkdaaGreatDoor
open Go.RowKit
set_option linter.unusedVariables false

theorem M.stp_len (c xs ys : List Int) (h : Bool) (t : Int) : (M.stp c xs ys h t).z.length = xs.length ∧ (M.stp c xs ys h t).ys.length ≤ ys.length + 1 := by
 unfold M.stp
 dsimp only
 repeat' split
 · exact ⟨rfl, Nat.le_succ _⟩
 · refine ⟨rfl, ?_⟩
   unfold M.px
   repeat' split
   all_goals simp
 · exact ⟨M.ex_zlen _ _ _ _ _ _ _, Nat.le_succ _⟩
theorem M.stn_len (c xs ys : List Int) (h : Bool) (t : Int) : (M.stn c xs ys h t).z.length = xs.length ∧ (M.stn c xs ys h t).ys.length ≤ ys.length + 1 := by
 unfold M.stn
 split
 · exact ⟨rfl, Nat.le_succ _⟩
 · exact M.stp_len c xs ys h t
theorem M.stS_len (c xs ys : List Int) (h : Bool) (t : Int) : (M.stS c xs ys h t).z.length = xs.length ∧ (M.stS c xs ys h t).ys.length ≤ ys.length + 1 := by
 unfold M.stS
 split
 · exact ⟨rfl, Nat.le_succ _⟩
 · exact M.stn_len c xs ys h t

theorem eqTrap_same (k v : Int) (w : World) : (Op.equalIn 10000 46 (.agg #[.int .i64 k, .int .u32 v]) (.agg #[.int .i64 k, .int .u32 v])).run Tryz.prog w = .ok true w := by
 rw [eqTrap]; simp
theorem eqTrap_no {k v k' v' : Int} (h : ¬ (k = k' ∧ v = v')) (w : World) : (Op.equalIn 10000 46 (.agg #[.int .i64 k, .int .u32 v]) (.agg #[.int .i64 k', .int .u32 v'])).run Tryz.prog w = .ok false w := by
 rw [eqTrap]
 have : (k == k' && v == v') = false := by
   cases h1 : k == k'
   · rfl
   · cases h2 : v == v'
     · rfl
     · exact absurd ⟨by simpa using h1, by simpa using h2⟩ h
 rw [this]

def stc (m : Mc) (s k v : Int) : Array Value := mach m ++ #[.int .i64 s, .int .i64 k, .int .u32 v]
section
variable {m m' : Mc} {s s' k v k' v' : Int}
theorem stc_size (h : m.c.length = 29) : (stc m s k v).size = 36 := by simp [stc, mach_size h]
theorem stc_one : (stc m s k v).all (·.oneCell') = true := by
 have h := mach_one m
 rw [Array.all_eq_true_iff_forall_mem] at h ⊢
 intro x hx
 unfold stc at hx
 rcases Array.mem_append.1 hx with hx | hx
 · exact h x hx
 · simp at hx
   rcases hx with rfl | rfl | rfl <;> rfl
theorem stc_mach (h : m.c.length = 29) : (stc m s k v).extract 0 (0 + 33) = mach m := by
 unfold stc
 have e : 0 + 33 = (mach m).size := by rw [mach_size h]
 rw [e]
 simp
theorem stc_low (h : m.c.length = 29) {i : Nat} (hi : i < 33) : (stc m s k v)[i]? = (mach m)[i]? := by
 unfold stc
 rw [Array.getElem?_append, mach_size h, if_pos hi]
theorem stc_high (h : m.c.length = 29) {i : Nat} (hi : i < 3) : (stc m s k v)[33 + i]? = (#[.int .i64 s, .int .i64 k, .int .u32 v] : Array Value)[i]? := by
 unfold stc
 rw [Array.getElem?_append, mach_size h, if_neg (by omega), Nat.add_sub_cancel_left]
theorem stc_trap (h : m.c.length = 29) : (stc m s k v).extract 34 (34 + 2) = #[.int .i64 k, .int .u32 v] := by
 apply Array.ext_getElem?
 intro i
 rw [Array.getElem?_extract, stc_size h]
 match i with
 | 0 => exact stc_high h (i := 1) (by decide)
 | 1 => exact stc_high h (i := 2) (by decide)
 | i + 2 => simp; omega
theorem stc_put_mach (h : m.c.length = 29) (h' : m'.c.length = 29) : lay (stc m s k v) 0 (mach m') = stc m' s k v := by
 have e1 := mach_size h
 have e2 := mach_size h'
 apply Array.toList_inj.1
 simp only [lay, stc, List.take_zero, List.nil_append, Nat.zero_add, Array.toList_append]
 rw [List.drop_append, List.drop_eq_nil_of_le (by rw [Array.length_toList, e1, e2]; exact Nat.le_refl _), Array.length_toList, e1, e2]
 simp
theorem stc_put_trap (h : m.c.length = 29) : lay (stc m s k v) 34 #[.int .i64 k', .int .u32 v'] = stc m s k' v' := by
 have e1 := mach_size h
 apply Array.toList_inj.1
 simp only [lay, stc, Array.toList_append]
 rw [List.take_append, List.drop_append, Array.length_toList, e1, List.take_of_length_le (by rw [Array.length_toList, e1]; decide), List.drop_eq_nil_of_le (by rw [Array.length_toList, e1]; simp)]
 simp
theorem stc_put_steps (h : m.c.length = 29) : (stc m s k v).setIfInBounds 33 (.int .i64 s') = stc m s' k v := by
 unfold stc
 rw [Array.setIfInBounds_append_right (by rw [mach_size h]; decide), mach_size h]
 rfl
end
theorem NoU8.stc (m : Mc) (s k v : Int) : NoU8 (stc m s k v) := by
 intro i x hx
 unfold Go.Proofs.YtclpdjpaaagkdaaGreatDoor.stc at hx
 rw [Array.getElem?_append] at hx
 split at hx
 · exact NoU8.mach m i x hx
 · rename_i h
   generalize i - (Go.Proofs.YtclpdjpaaagkdaaGreatDoor.mach m).size = j at hx
   match j with
   | 0 => simp at hx
   | 1 => simp at hx
   | 2 => simp at hx
   | j + 3 => simp at hx

theorem info36 : (Tryz.prog.info? 48).map (·.size) = some 36 := by kernel_rfl
theorem infoI64 : (Tryz.prog.info? 3).map (·.size) = some 1 := by kernel_rfl
theorem info_stc {m : Mc} {s k v : Int} (h : m.c.length = 29) : (Tryz.prog.info? 48).map (·.size) = some (stc m s k v).size := by rw [stc_size h]; exact info36
theorem zero36 : (Tryz.prog.info? 48).map (fun i => (i.zero, i.size)) = some (some (.agg (stc Mc.zero 0 0 0)), (stc Mc.zero 0 0 0).size) := by kernel_rfl
theorem zeroI64 : (Tryz.prog.info? 3).map (fun i => (i.zero, i.size)) = some (some (.int .i64 0), 1) := by kernel_rfl
theorem zeroB1 : (Tryz.prog.info? 4).map (fun i => (i.zero, i.size)) = some (some (.bool false), 1) := by kernel_rfl
theorem build_stc {m : Mc} (hl : m.c.length = 29) (u : World) : (Instr.build 48 #[(0, .agg (mach m))]).run Tryz.prog u = .ok (.agg (stc m 0 0 0)) u := by
 refine run_build u _ _ _ ?_
 obtain ⟨it, hit, hz⟩ : ∃ it, Tryz.prog.info? 48 = some it ∧ it.zero = some (.agg (stc Mc.zero 0 0 0)) := by
   have h := zero36
   cases hq : Tryz.prog.info? 48 with
   | none => rw [hq] at h; cases h
   | some it => exact ⟨it, rfl, by rw [hq] at h; simp at h; exact h.1⟩
 have hu : Tryz.prog.underlying 48 = some (.struct (Tryz.prog.fieldsOf 48)) := by
   unfold Program.fieldsOf
   rw [Tryz.underlying48]
 have hp : (Tryz.prog.fieldsOf 48).toList.mapM (fun f => (Tryz.prog.info? f.type).map fun i => (f.offset, i.size)) = some [(0, 33), (33, 1), (34, 2)] := by kernel_rfl
 have key := fill_step (place := fun i => ([(0, 33), (33, 1), (34, 2)] : List (Nat × Nat)).toArray[i]?) (cs := stc Mc.zero 0 0 0) (vs := mach m) (i := 0) (o := 0) (n := 33) (v := .agg (mach m)) (rest := []) rfl rfl (mach_size hl) (by rw [stc_size zlen]; decide)
 rw [stc_put_mach zlen hl] at key
 unfold Program.built
 simp only [hit, hu, hz, hp, Value.cells]
 refine Eq.trans key ?_
 simp [Instr.fill]

section
variable {w : World} {b : Nat} {m : Mc} {t : TypeId} {s k v : Int}
theorem Blk.sword (g : Blk w b t (stc m s k v)) (h : m.c.length = 29) (i : Nat) (hi : decide (i < 29) = true) : w.cell? ⟨b, i, none⟩ = some (.int .u32 (m.c.getD i 0)) := g.cell ((stc_low h (by have := of_decide_eq_true hi; omega)).trans (mach_word h (of_decide_eq_true hi)))
theorem Blk.shalted (g : Blk w b t (stc m s k v)) (h : m.c.length = 29) : w.cell? ⟨b, 32, none⟩ = some (.bool m.h) := g.cell ((stc_low h (by decide)).trans (mach_tail h (i := 3) (by decide)))
theorem Blk.steps (g : Blk w b t (stc m s k v)) (h : m.c.length = 29) : w.cell? ⟨b, 33, none⟩ = some (.int .i64 s) := g.cell (stc_high h (i := 0) (by decide))
end
section
variable {ops : Array Oper} {rest : List Oper} {dst : Option Tmp} {x y : Operand} {ty : TypeId} {pos : String} {aft : Array Edge} {gd : Option (Nat × Bool)} {a : Act} {w : World} {Q : Exit → Act → World → Prop} {b : Nat} {m n : Mc} {s k v s' k' v' : Int}
theorem loadSt (r : Blk w b 48 (stc m s k v)) (hl : m.c.length = 29) (hw : Region.wanted ⟨dst, .load 48 x, ty, pos, aft, gd⟩ (yielded ops a.tmps) = true) (hx : a.eval x = .pointer (some ⟨b, 0, none⟩))
   (h : wpList Tryz.prog ops Q rest (a.put dst (.agg (stc m s k v))) w) : wpList Tryz.prog ops Q (⟨dst, .load 48 x, ty, pos, aft, gd⟩ :: rest) a w :=
 wpList_load_whole r Tryz.underlying48 rfl (info_stc hl) hw hx h
theorem loadStM (r : Blk w b 48 (stc m s k v)) (hl : m.c.length = 29) (hw : Region.wanted ⟨dst, .load 30 x, ty, pos, aft, gd⟩ (yielded ops a.tmps) = true) (hx : a.eval x = .pointer (some ⟨b, 0, none⟩))
   (h : wpList Tryz.prog ops Q rest (a.put dst (.agg (mach m))) w) : wpList Tryz.prog ops Q (⟨dst, .load 30 x, ty, pos, aft, gd⟩ :: rest) a w :=
 wpList_load_cut r 0 33 (stc_mach hl) (mach_size hl) Tryz.underlying30 rfl info33 hw hx h
theorem loadStT (r : Blk w b 48 (stc m s k v)) (hl : m.c.length = 29) (hw : Region.wanted ⟨dst, .load 46 x, ty, pos, aft, gd⟩ (yielded ops a.tmps) = true) (hx : a.eval x = .pointer (some ⟨b, 34, none⟩))
   (h : wpList Tryz.prog ops Q rest (a.put dst (.agg #[.int .i64 k, .int .u32 v])) w) : wpList Tryz.prog ops Q (⟨dst, .load 46 x, ty, pos, aft, gd⟩ :: rest) a w :=
 wpList_load_cut r 34 2 (stc_trap hl) rfl Tryz.underlying46 rfl infoTrap hw hx h
theorem storeSt (n : Mc) (hn : n.c.length = 29) (r : Blk w b 48 (stc m s k v)) (hl : m.c.length = 29)
   (hw : Region.wanted ⟨none, .store 48 x y, ty, pos, aft, gd⟩ (yielded ops a.tmps) = true) (hx : a.eval x = .pointer (some ⟨b, 0, none⟩)) (hy : a.eval y = .agg (stc n s' k' v'))
   (h : ∀ w', Blk w' b 48 (stc n s' k' v') → Trn b w w' → wpList Tryz.prog ops Q rest a w') : wpList Tryz.prog ops Q (⟨none, .store 48 x y, ty, pos, aft, gd⟩ :: rest) a w :=
 wpList_store_whole (stc n s' k' v') r (info_stc hn) (by rw [stc_size hl, stc_size hn]) stc_one hw hx hy h
theorem storeStM (n : Mc) (hn : n.c.length = 29) (r : Blk w b 48 (stc m s k v)) (hl : m.c.length = 29)
   (hw : Region.wanted ⟨none, .store 30 x y, ty, pos, aft, gd⟩ (yielded ops a.tmps) = true) (hx : a.eval x = .pointer (some ⟨b, 0, none⟩)) (hy : a.eval y = .agg (mach n))
   (h : ∀ w', Blk w' b 48 (stc n s k v) → Trn b w w' → wpList Tryz.prog ops Q rest a w') : wpList Tryz.prog ops Q (⟨none, .store 30 x y, ty, pos, aft, gd⟩ :: rest) a w := by
 refine wpList_store_at 0 (.agg (mach n)) r (by simp only [Value.cells]; exact info_mach hn) (by simp only [Value.cells]; rw [mach_size hn, stc_size hl]; decide) (mach_one n) hw hx hy fun w' hb' ht => h w' ?_ ht
 rwa [show lay (stc m s k v) 0 (Value.agg (mach n)).cells = _ from stc_put_mach hl hn] at hb'
theorem storeStT (r : Blk w b 48 (stc m s k v)) (hl : m.c.length = 29)
   (hw : Region.wanted ⟨none, .store 46 x y, ty, pos, aft, gd⟩ (yielded ops a.tmps) = true) (hx : a.eval x = .pointer (some ⟨b, 34, none⟩)) (hy : a.eval y = .agg #[.int .i64 k', .int .u32 v'])
   (h : ∀ w', Blk w' b 48 (stc m s k' v') → Trn b w w' → wpList Tryz.prog ops Q rest a w') : wpList Tryz.prog ops Q (⟨none, .store 46 x y, ty, pos, aft, gd⟩ :: rest) a w := by
 refine wpList_store_at 34 (.agg #[.int .i64 k', .int .u32 v']) r (by simp only [Value.cells]; exact infoTrap) (by simp only [Value.cells]; rw [stc_size hl]; simp) (by simp [Value.cells, Value.oneCell']) hw hx hy fun w' hb' ht => h w' ?_ ht
 rwa [show lay (stc m s k v) 34 (Value.agg #[.int .i64 k', .int .u32 v']).cells = _ from stc_put_trap hl] at hb'
theorem storeStN (r : Blk w b 48 (stc m s k v)) (hl : m.c.length = 29)
   (hw : Region.wanted ⟨none, .store 3 x y, ty, pos, aft, gd⟩ (yielded ops a.tmps) = true) (hx : a.eval x = .pointer (some ⟨b, 33, none⟩)) (hy : a.eval y = .int .i64 s')
   (h : ∀ w', Blk w' b 48 (stc m s' k v) → Trn b w w' → wpList Tryz.prog ops Q rest a w') : wpList Tryz.prog ops Q (⟨none, .store 3 x y, ty, pos, aft, gd⟩ :: rest) a w := by
 refine wpList_store_cell 33 (.int .i64 s') rfl r infoI64 (by rw [stc_size hl]; decide) rfl hw hx hy fun w' r' t' => h w' ?_ t'
 rwa [stc_put_steps hl] at r'
end
section
variable {ops : Array Oper} {dst : Option Tmp} {x y : Operand} {ty : TypeId} {pos : String} {aft : Array Edge} {gd : Option (Nat × Bool)} {a : Act} {w0 : World} {b : Nat} {m : Mc} {s k v : Int} {bs : List Nat}
theorem calxStM (r : Blk w0 b 48 (stc m s k v)) (hl : m.c.length = 29) (hn : b ∉ bs) (hw : Region.wanted ⟨dst, .load 30 x, ty, pos, aft, gd⟩ (yielded ops a.tmps) = true) (hx : a.eval x = .pointer (some ⟨b, 0, none⟩)) :
   Calx Tryz.prog ops bs w0 ⟨dst, .load 30 x, ty, pos, aft, gd⟩ (.agg (mach m)) a := calx_cut r hn 0 33 (stc_mach hl) (mach_size hl) Tryz.underlying30 rfl info33 hw hx
end

set_option maxRecDepth 100000 in
set_option maxHeartbeats 2000000 in
theorem rnClosed (m : Mc) (W : World) (hm : m.Ok W) (m' : Mc) (hm' : m' = { m with k := m.xs.length, q := m.ys.length }) :
   Calls Tryz.prog 22 #[.agg (mach m)] W fun e W' => e = .returned (.agg (mach m')) ∧ Dn W W' := by
 have hl := hm.len
 have hl' : m'.c.length = 29 := by rw [hm']; exact hl
 replace hm' := Lib.hid hm'
 have CA := Lib.hid fun w => (stClip m.A m.xs.length m.k hm.mem.1 w).mono (fun e W' h => (⟨h.1, h.2 ▸ Dn.refl _⟩ : e = .returned (.slice m.A m.xs.length m.xs.length) ∧ Dn w W'))
 have CB := Lib.hid fun w => (stClip m.B m.ys.length m.q hm.out.1 w).mono (fun e W' h => (⟨h.1, h.2 ▸ Dn.refl _⟩ : e = .returned (.slice m.B m.ys.length m.ys.length) ∧ Dn w W'))
 have HD := Lib.hid (Dn.refl W)
 go_enter Tryz.func22, Tryz.ntmps22
 go_wp2_with (first | ((with_reducible refine wpList_box (vs := (mach m)) ?_ ?_ ?_); rfl; rfl; intro b_v1 w' nn; refine Hid.out ?_))
 refine Lib.hid ?_
 have HL_v1 : Hid (W.heap.size ≤ b_v1) := Lib.hid (Blk.hi nn HD.out.size)
 have d' := nn.dn
 replace HD := hT HD d'
 have v1 := nn.blk
 clear d' nn
 go_wp2_with (first | ((with_reducible refine wpList_alloc zeroMach ?_ ?_); rfl; intro b_v2 w' nn; refine Hid.out ?_))
 refine Lib.hid ?_
 have n_v1_v2 := Lib.hid (nn.ne _ v1.lt)
 have HL_v2 : Hid (W.heap.size ≤ b_v2) := Lib.hid (Blk.hi nn HD.out.size)
 have d' := nn.dn
 replace v1 := v1.dn d'
 replace HD := hT HD d'
 have v2 := nn.blk
 clear d' nn
 go_wp2_with fail
 have nx_v1 : b_v1 ∉ ([] : List Nat) := (by simp)
 have nx_v2 : b_v2 ∉ ([] : List Nat) := (by simp)
 have hbs : ∀ b ∈ ([] : List Nat), ∃ t cs, Blk w' b t cs ∧ NoU8 cs := fun b hb => absurd hb (by simp)
 have hbl : ∀ b ∈ ([] : List Nat), W.heap.size ≤ b := fun b hb => absurd hb (by simp)
 refine wp_region_picksY [b_v1] [7, 9] [] [0, 1, 2, 3, 4, 5, 6] 3 (by kernel_rfl) (by kernel_rfl) rfl (by kernel_rfl) (by kernel_rfl) (by kernel_rfl) ?_
 simp only [pickL, List.drop_succ_cons, List.drop_zero, List.take_succ_cons, List.take_zero, List.cons_append, List.nil_append]
 refine ⟨?_, ?_, ?_, ?_, ?_⟩
 rotate_left 1
 exact rfl
 rotate_left 1
 refine ⟨_, calx_pure (by rfl) (fun u => by go_simp; rfl), ?_⟩
 simp only [Act.put, tA, tS, tZ]
 refine ⟨_, calxSlice (v := .slice m.A m.xs.length m.k) v1 nx_v1 Tryz.underlying27 (by rfl) rfl (mach_tail hl (i := 0) (by decide)), ?_⟩
 simp only [Act.put, tA, tS, tZ]
 refine ⟨_, calx_call (fun u du => CA.out u) (by rfl) (fun u => by go_simp), ?_⟩
 simp only [Act.put, tA, tS, tZ]
 refine ⟨_, calx_pure (by rfl) (fun u => by go_simp; rfl), ?_⟩
 simp only [Act.put, tA, tS, tZ]
 refine ⟨_, calxSlice (v := .slice m.B m.ys.length m.q) v1 nx_v1 Tryz.underlying27 (by rfl) rfl (mach_tail hl (i := 2) (by decide)), ?_⟩
 simp only [Act.put, tA, tS, tZ]
 refine ⟨_, calx_call (fun u du => CB.out u) (by rfl) (fun u => by go_simp), ?_⟩
 simp only [Act.put, tA, tS, tZ]
 refine ⟨_, calx_pure (by rfl) (fun u => by go_simp; rfl), ?_⟩
 simp only [Act.put, tA, tS, tZ]
 exact rfl
 refine wpY_store (k := 7) 29 (v := .slice m.A m.xs.length m.xs.length) rfl (by kernel_rfl) rfl (by simp) (v1.dn (Dn.drawn w')) infoSl (by rw [mach_size hl]; exact (by decide : 29 + 1 ≤ 33)) (by simp [Value.cells, Value.oneCell']) rfl rfl fun u1 y1 du1 t1 g1 => ?_
 have e1 : lay (mach m) 29 (Value.slice m.A m.xs.length m.xs.length).cells = mach { m with k := m.xs.length } := (lay_one _ _ _ (by rw [mach_size hl]; decide)).trans (mach_put hl (.slice m.A m.xs.length m.xs.length) 0 (by decide))
 rw [e1] at g1
 have l1 : ({ m with k := m.xs.length } : Mc).c.length = 29 := hl
 refine wpY_calm (k := 8) rfl (by kernel_rfl) (calx_pure (by rfl) (fun u => by go_simp; rfl)) fun y3 dy3 => ?_
 simp only [Act.put, List.setIfInBounds_toArray]
 replace g1 := g1.dn dy3
 refine wpY_store (k := 9) 31 (v := .slice m.B m.ys.length m.ys.length) rfl (by kernel_rfl) rfl (by simp) g1 infoSl (by rw [mach_size l1]; exact (by decide : 31 + 1 ≤ 33)) (by simp [Value.cells, Value.oneCell']) rfl rfl fun u2 y2 du2 t2 g2 => ?_
 have e2 : lay (mach { m with k := m.xs.length }) 31 (Value.slice m.B m.ys.length m.ys.length).cells = mach m' := by rw [hm'.out]; exact (lay_one _ _ _ (by rw [mach_size l1]; decide)).trans (mach_put l1 (.slice m.B m.ys.length m.ys.length) 2 (by decide))
 rw [e2] at g2
 refine wpY_end (by kernel_rfl) fun z' dz => ?_
 replace v2 := (((((v2.dn ((Dn.drawn w').trans du1)).trn t1 n_v1_v2.out.symm).dn dy3).dn du2).trn t2 n_v1_v2.out.symm).dn dz
 replace HD := Lib.hid ((((((HD.out.trans ((Dn.drawn w').trans du1)).trn HL_v1.out t1).trans dy3).trans du2).trn HL_v1.out t2).trans dz)
 clear v1
 have v1 := g2.dn dz
 clear g1 g2 t1 t2 du1 dy3 du2 dz e1 e2 hbs hbl nx_v1 nx_v2
 go_wp2_with (first | ((with_reducible refine load33 v1 hl' ?_ ?_ ?_); rfl; rfl) | ((with_reducible refine store33 m' hl' v2 zlen ?_ ?_ ?_ ?_); rfl; rfl; rfl; intro w' r' t'; refine Hid.out ?_))
 refine Lib.hid ?_
 replace v1 := v1.trn t' n_v1_v2.out
 replace HD := Lib.hid (HD.out.trn HL_v2.out t')
 clear t' v2
 have v2 := r'
 clear r'
 go_wp2_with fail
 exact retM rfl rfl v2 hl' ⟨rfl, HD.out⟩ rfl
def Nu (w : World) (b : Nat) : Prop := ∀ cs t fr, w.heap[b]? = some (.cells cs t fr) → NoU8 cs
theorem Nu.blk {w : World} {b : Nat} {t : TypeId} {cs : Array Value} (g : Blk w b t cs) (n : NoU8 cs) : Nu w b := fun cs' t' fr h => by
 unfold Blk at g
 rw [g] at h
 cases h
 exact n
theorem Nu.lp {r : Loop} {w : World} {l : Nat} (h : Lp r w l) : Nu w l := fun cs t fr e => by rw [h.1] at e; cases e
theorem Bs.nu {w w' : World} {bs : List Nat} {A : Option Addr} {k : Nat} {xs : List Int} (h : Bs w A k xs) (d : Dx bs w w') (hb : ∀ b ∈ bs, Nu w b) : Bs w' A k xs := by
 refine ⟨h.1, h.2.1, fun hx => ?_⟩
 obtain ⟨ad, ea, hlt, hc⟩ := h.2.2 hx
 have hne : ad.block ∉ bs := by
   intro hm
   have g := hb _ hm
   obtain ⟨x, r, rfl⟩ := List.exists_cons_of_ne_nil hx
   have h0 := hc 0 x rfl
   unfold World.cell? at h0
   rw [block_add] at h0
   split at h0
   · rename_i cs t fr hq
     split at h0
     · cases h0
     · exact g cs t fr hq _ _ h0
   · cases h0
 refine ⟨ad, ea, Nat.lt_of_lt_of_le hlt d.size, fun j x hj => ?_⟩
 have h1 := hc j x hj
 unfold World.cell? at h1 ⊢
 rw [d.block _ (by rw [block_add]; exact hlt) (by rw [block_add]; exact hne)]
 exact h1
theorem Mc.Ok.nu {w w' : World} {bs : List Nat} {m : Mc} (h : m.Ok w) (d : Dx bs w w') (hb : ∀ b ∈ bs, Nu w b) : m.Ok w' := ⟨h.core, h.mem.nu d hb, h.out.nu d hb, h.t0, h.t1⟩
structure Fr (Wc : World) (bs bn : Nat) (w w' : World) : Prop where
 d : Dn Wc w'
 x : ∃ cb : List Nat, Dx cb w w' ∧ ∀ b ∈ cb, b ≠ bs ∧ b ≠ bn ∧ Nu w b
theorem Fr.ok {Wc w w' : World} {bs bn : Nat} {m : Mc} (h : Fr Wc bs bn w w') (o : m.Ok w) : m.Ok w' := by
 obtain ⟨cb, d, hc⟩ := h.x
 exact o.nu d fun b hb => (hc b hb).2.2
theorem Fr.bs {Wc w w' : World} {bs bn : Nat} {t : TypeId} {cs : Array Value} (h : Fr Wc bs bn w w') (g : Blk w bs t cs) : Blk w' bs t cs := by
 obtain ⟨cb, d, hc⟩ := h.x
 exact g.dx d fun hb => (hc _ hb).1 rfl
theorem Fr.bn {Wc w w' : World} {bs bn : Nat} {t : TypeId} {cs : Array Value} (h : Fr Wc bs bn w w') (g : Blk w bn t cs) : Blk w' bn t cs := by
 obtain ⟨cb, d, hc⟩ := h.x
 exact g.dx d fun hb => (hc _ hb).2.1 rfl
def stepsOf (bs : Nat) (w : World) : Nat := match w.cell? ⟨bs, 33, none⟩ with | some (.int _ i) => i.toNat | _ => 0
theorem stepsOf_at {bs : Nat} {w : World} {i : Nat} {k : IntKind} (h : w.cell? ⟨bs, 33, none⟩ = some (.int k i)) : stepsOf bs w = i := by
 unfold stepsOf
 rw [h]
 simp
theorem M.gon_len : ∀ (i : Nat) (s : M.SRes), (M.gon i s).z.length = s.z.length ∧ (M.gon i s).ys.length ≤ s.ys.length + i
 | 0, s => ⟨rfl, Nat.le_refl _⟩
 | i + 1, s => by
   cases h : s.h
   · rw [M.gon_s h]
     have := M.gon_len i (M.nx s)
     have l : (M.nx s).z.length = s.z.length ∧ (M.nx s).ys.length ≤ s.ys.length + 1 := M.stS_len s.c s.z s.ys s.h s.t
     omega
   · rw [M.gon_h h]; exact ⟨rfl, by omega⟩
theorem results_none {P : Program} {fn : Func} {tmps : Array Value} (h : fn.results = #[]) (w : World) : (results fn tmps).run P w = .ok (.tuple #[]) w := by
 unfold results
 rw [h]
 simp
set_option maxRecDepth 100000 in
set_option maxHeartbeats 2000000 in
theorem rnIter (bm bn l : Nat) (m : Mc) (n : Int) (Wc W : World) (hm : m.Ok W) (gm : Blk W bm 30 (mach m)) (gn : Blk W bn 3 #[.int .i64 n]) (hW : Dn Wc W) (T : Env2 Wc) (hs : m.xs.length ≤ 100000) (hy : m.ys.length + n.toNat ≤ 100000)
   (n0 : -9223372036854775808 ≤ n) (n1 : n < 9223372036854775808) (s0 : M.SRes) (hs0 : s0 = ⟨m.c, m.xs, m.ys, m.h, m.t, 0, 0⟩) (J : Nat → Nat → World → Prop) (Jx : Nat → World → Prop)
   (h0 : ∀ bs w, Dn W w → W.heap.size ≤ bs → J bs 0 w)
   (hJ : ∀ bs i w w', W.heap.size ≤ bs → J bs i w → Dx [bs] w w' → Nu w bs → J bs i w')
   (hR : ∀ (bs i : Nat) (x : Mc) (k v : Int) (w : World), W.heap.size ≤ bs → bs < w.heap.size → i ≤ M.cntn n.toNat s0 → J bs i w → Dn Wc w → x.Ok w → Sd (M.gon i s0) x → k = (M.gon i s0).k → v = (M.gon i s0).v → (k = 0 → v = 0) →
     YieldAt Fence.wide 0 Tryz.prog l #[.agg (stc x i k v)] w fun e w' => ∃ b, e = .returned (.bool b) ∧ Fr Wc bs bn w w' ∧ (b = true → J bs (i + 1) w') ∧ (b = false → Jx i w')) :
   Calls Tryz.prog 21 #[.func (.yield l) #[] #[], .pointer (some ⟨bm, 0, none⟩), .pointer (some ⟨bn, 0, none⟩)] W fun e w' => (∃ v, e = .returned v) ∧ ((∃ bs, J bs (M.cntn n.toNat s0 + 1) w') ∨ ∃ i, i ≤ M.cntn n.toNat s0 ∧ Jx i w') := by
 have hl := hm.len
 obtain ⟨m', hm'⟩ : ∃ m' : Mc, m' = { m with k := m.xs.length, q := m.ys.length } := ⟨_, rfl⟩
 have hl' : m'.c.length = 29 := by rw [hm']; exact hl
 have om' : Hid (m'.Ok W) := Lib.hid (by rw [hm']; exact ⟨hm.core, hm.mem.full, hm.out.full, hm.t0, hm.t1⟩)
 have sd' : Hid (Sd (M.gon 0 s0) m') := Lib.hid (by rw [hm', hs0]; exact ⟨rfl, rfl, rfl, rfl, rfl⟩)
 have z0 : Hid (0 = (M.gon 0 s0).k ∧ 0 = (M.gon 0 s0).v) := Lib.hid (by rw [hs0]; exact ⟨rfl, rfl⟩)
 have CC := Lib.hid fun w (d : Dn W w) => rnClosed m w (hm.dn d) m' hm'
 have HB := fun u => build_stc hl' u
 have GL := Lib.hid fun i => M.gon_len i s0
 have LZ : Hid (s0.z.length ≤ 100000 ∧ s0.ys.length + n.toNat ≤ 100000) := Lib.hid (by rw [hs0]; exact ⟨hs, hy⟩)
 replace h0 := Lib.hid h0
 replace hJ := Lib.hid hJ
 replace hR := Lib.hid hR
 have HW := Lib.hid hW
 clear hm' hs0 hs hy hW
 have HD := Lib.hid (Dn.refl W)
 go_enter Tryz.func21, Tryz.ntmps21
 refine (wpIn_wide (n := 1)).1 (wpIn_seq (wpIn_wide.2 ?_))
 go_wp2_with (first | ((with_reducible refine load33 gm hl ?_ ?_ ?_); rfl; rfl) | (go_at_call 22; (with_reducible refine (CC.out _ HD.out).mono ?_); rintro e w' ⟨rfl, d'⟩; refine Hid.out ?_))
 refine Lib.hid ?_
 replace gm := gm.dn d'
 replace gn := gn.dn d'
 replace om' := Lib.hid (om'.out.dn d')
 replace HD := hT HD d'
 clear d'
 go_wp2_with (first | ((with_reducible refine wpList_build HB ?_ ?_ ?_); rfl; focus (simp [Act.eval])) | ((with_reducible refine wpList_alloc zero36 ?_ ?_); rfl; intro bs w' nn; refine Hid.out ?_))
 refine Lib.hid ?_
 have n_bn_bs := Lib.hid (nn.ne _ gn.lt)
 have HL : Hid (W.heap.size ≤ bs) := Lib.hid (Blk.hi nn HD.out.size)
 have d' := nn.dn
 replace gn := gn.dn d'
 replace om' := Lib.hid (om'.out.dn d')
 replace HD := hT HD d'
 have gs := nn.blk
 clear d' nn gm
 go_wp2_with (first | ((with_reducible refine storeSt (s' := 0) (k' := 0) (v' := 0) m' hl' gs zlen ?_ ?_ ?_ ?_); rfl; rfl; rfl; intro w' r' t'; refine Hid.out ?_))
 refine Lib.hid ?_
 replace om' := Lib.hid (om'.out.trn gs (NoU8.stc _ _ _ _) t')
 replace gn := gn.trn t' n_bn_bs.out
 replace HD := Lib.hid (HD.out.trn HL.out t')
 clear t' gs
 have gs := r'
 clear r'
 go_wp2_with fail
 have hQ0 : ¬ LetsOut (bodyPost Tryz.prog Tryz.f21 fun e w' => (∃ v, e = .returned v) ∧ ((∃ bs, J bs (M.cntn n.toNat s0 + 1) w') ∨ ∃ i, i ≤ M.cntn n.toNat s0 ∧ Jx i w')) := fun ⟨a, w, h⟩ => by
   obtain ⟨⟨v, hv⟩, _⟩ := h
   cases hv
 refine wpIn_block ?_
 simp only [Act.put, tA, tS, tZ]
 gi_loopw [] (fun w => ∃ (i : Nat) (x : Mc) (k v : Int), i ≤ M.cntn n.toNat s0 ∧ Blk w bs 48 (stc x i k v) ∧ Blk w bn 3 #[.int .i64 n] ∧ x.Ok w ∧ Sd (M.gon i s0) x ∧ k = (M.gon i s0).k ∧ v = (M.gon i s0).v ∧ J bs i w ∧ Dn Wc w ∧ (k = 0 → v = 0)) (fun w => M.cntn n.toNat s0 + 1 - stepsOf bs w)
 case atStart => exact ⟨0, m', 0, 0, Nat.zero_le _, gs, gn, om'.out, sd'.out, z0.out.1, z0.out.2, h0.out bs _ HD.out HL.out, HW.out.trans HD.out, fun _ => rfl⟩
 case round =>
   clear gs gn om' sd' HD
   obtain ⟨i, x, k, v, hi, gs, gn, ox, sx, ek, ev, hj, hd, hz⟩ := hrel
   have hlx := ox.len
   have sz := stepsOf_at (gs.steps hlx)
   have HY := hR.out bs i x k v _ HL.out gs.lt hi hj hd ox sx ek ev hz
   replace HY := Lib.hid HY
   replace hi := Lib.hid hi
   replace ox := Lib.hid ox
   replace sx := Lib.hid sx
   clear hj
   replace hd := Lib.hid hd
   replace sz := Lib.hid sz
   clear ek ev hz
   refine wpIn_seq (wpIn_seq (wpIn_region_list (list_two Wide.out (by repeat (first | exact hQ0 | apply lo_then | apply lo_block)) rfl rfl ?_)))
   go_wp2_with (first | ((with_reducible refine loadSt gs hlx ?_ ?_ ?_); rfl; rfl))
   refine list_yield rfl rfl HY.out ?_
   rintro e w' ⟨b, rfl, fr, h1, h2⟩
   refine ⟨.bool b, rfl, ?_⟩
   simp only [Act.put, tA, tS, tZ]
   cases b
   · have hx := h2 rfl
     clear h1 h2 fr gs gn ox sx hd HY
     refine list_all Wide.out (by repeat (first | exact hQ0 | apply lo_then | apply lo_block)) rfl ?_
     go_wp2_with fail
     refine wpIn_wide.2 ?_
     go_wp2_with fail
     exact ⟨rfl, _, results_none rfl _, ⟨_, rfl⟩, .inr ⟨i, hi.out, hx⟩⟩
   · replace h1 := Lib.hid (h1 rfl)
     replace gs := fr.bs gs
     replace gn := fr.bn gn
     replace ox := Lib.hid (fr.ok ox.out)
     replace hd := Lib.hid fr.d
     clear h2 fr HY
     have c33 := gs.steps hlx
     have cn := gn.cell (i := 0) (v := .int .i64 n) rfl
     by_cases hlt : (i : Int) < n
     · have hb : decide ((i : Int) < n) = true := decide_eq_true hlt
       have c32 := gs.shalted hlx
       cases hh : x.h
       · rw [hh] at c32
         have hg : (M.gon i s0).h = false := by rw [← sx.out.h]; exact hh
         have hi2 := M.cnt_go n.toNat i s0 hi.out hg (by omega)
         have e1 : M.stS x.c x.xs x.ys x.h x.t = M.gon (i + 1) s0 := by
           rw [M.gon_next hg, sx.out.c, sx.out.xs, sx.out.ys, sx.out.h, sx.out.t]; rfl
         have hcl := M.cntn_le n.toNat s0
         have g1 := GL.out i
         have lz := LZ.out
         have CS := Lib.hid fun w (ow : x.Ok w) (t : Env2 w) => stStep x w ow (by rw [sx.out.xs, g1.1]; omega) (by rw [sx.out.ys]; omega) t
         rw [e1] at CS
         have F := M.stS_f (c := x.c) (xs := x.xs) (ys := x.ys) (t := x.t) ox.out.core (fw_rng ox.out)
         rw [hh] at e1
         rw [e1] at F
         have HZ := Lib.hid fun h => (F.go h).1
         clear F
         replace hi2 := Lib.hid hi2
         clear e1 hg hh g1 lz hcl hlt
         refine list_all Wide.out (by repeat (first | exact hQ0 | apply lo_then | apply lo_block)) rfl ?_
         go_wp2_with fail
         refine wpIn_wide.2 ?_
         go_wp2_with fail
         refine wpIn_wide.2 ?_
         go_wp2_with (first | ((with_reducible refine loadStM gs hlx ?_ ?_ ?_); rfl; rfl) | (go_at_call 23; (with_reducible refine (CS.out _ ox.out (T.dn hd.out)).mono ?_); rintro e w' ⟨x1, rfl, o1, f1, d'⟩; refine Hid.out ?_))
         refine Lib.hid ?_
         have l1 := o1.out.len
         replace h1 := Lib.hid (hJ.out bs (i + 1) _ _ HL.out h1.out d'.dx (Nu.blk gs (NoU8.stc _ _ _ _)))
         replace gs := gs.dn d'
         replace gn := gn.dn d'
         replace hd := Lib.hid (hd.out.trans d')
         clear d' ox sx CS c33 cn c32
         obtain ⟨k1, ek⟩ : ∃ k1, (M.gon (i + 1) s0).k = k1 := ⟨_, rfl⟩
         obtain ⟨v1, ev⟩ : ∃ v1, (M.gon (i + 1) s0).v = v1 := ⟨_, rfl⟩
         rw [ek, ev]
         rw [ek, ev] at HZ
         replace ek := Lib.hid ek
         replace ev := Lib.hid ev
         go_wp2_with (first | ((with_reducible refine storeStM x1 l1 gs hlx ?_ ?_ ?_ ?_); rfl; rfl; rfl; intro w' r' t'; refine Hid.out ?_))
         refine Lib.hid ?_
         replace h1 := Lib.hid (hJ.out bs (i + 1) _ _ HL.out h1.out (t'.dx (by simp)) (Nu.blk gs (NoU8.stc _ _ _ _)))
         replace o1 := Lib.hid (o1.out.trn gs (NoU8.stc _ _ _ _) t')
         replace gn := gn.trn t' n_bn_bs.out
         replace hd := Lib.hid (hd.out.trn (Nat.le_trans HW.out.size HL.out) t')
         clear t' gs
         have gs := r'
         clear r'
         go_wp2_with (first | ((with_reducible refine storeStT (k' := k1) (v' := v1) gs l1 ?_ ?_ ?_ ?_); rfl; rfl; rfl; intro w' r' t'; refine Hid.out ?_))
         refine Lib.hid ?_
         replace h1 := Lib.hid (hJ.out bs (i + 1) _ _ HL.out h1.out (t'.dx (by simp)) (Nu.blk gs (NoU8.stc _ _ _ _)))
         replace o1 := Lib.hid (o1.out.trn gs (NoU8.stc _ _ _ _) t')
         replace gn := gn.trn t' n_bn_bs.out
         replace hd := Lib.hid (hd.out.trn (Nat.le_trans HW.out.size HL.out) t')
         clear t' gs
         have gs := r'
         clear r'
         have c33 := gs.steps l1
         have w1 : IntKind.i64.wrap ((i : Int) + 1) = (i : Int) + 1 := IntWalk.i64_in _ (by have := hi2.out; have := M.cntn_le n.toNat s0; omega)
         go_wp2_with (first | ((with_reducible refine storeStN (s' := (i : Int) + 1) gs l1 ?_ ?_ ?_ ?_); rfl; rfl; rfl; intro w' r' t'; refine Hid.out ?_))
         refine Lib.hid ?_
         replace h1 := Lib.hid (hJ.out bs (i + 1) _ _ HL.out h1.out (t'.dx (by simp)) (Nu.blk gs (NoU8.stc _ _ _ _)))
         replace o1 := Lib.hid (o1.out.trn gs (NoU8.stc _ _ _ _) t')
         replace gn := gn.trn t' n_bn_bs.out
         replace hd := Lib.hid (hd.out.trn (Nat.le_trans HW.out.size HL.out) t')
         clear t' gs c33
         have gs : Blk w' bs 48 (stc x1 ((i + 1 : Nat) : Int) k1 v1) := r'
         clear r'
         go_wp2_with fail
         go_roundw
         case rel => exact ⟨i + 1, x1, k1, v1, hi2.out, gs, gn, o1.out, f1.out, ek.out.symm, ev.out.symm, h1.out, hd.out, HZ.out⟩
         case measure =>
           rw [stepsOf_at (gs.steps l1), sz.out]
           have := hi.out
           have := hi2.out
           omega
       · rw [hh] at c32
         have hg : (M.gon i s0).h = true := by rw [← sx.out.h]; exact hh
         have e := M.cnt_stop hi.out (.inl hg)
         rw [e] at h1
         clear e
         refine list_all Wide.out (by repeat (first | exact hQ0 | apply lo_then | apply lo_block)) rfl ?_
         clear hh hg
         go_wp2_with fail
         refine wpIn_wide.2 ?_
         go_wp2_with fail
         exact ⟨rfl, _, results_none rfl _, ⟨_, rfl⟩, .inl ⟨bs, h1.out⟩⟩
     · have hb : decide ((i : Int) < n) = false := decide_eq_false hlt
       have e := M.cnt_stop (n := n.toNat) hi.out (.inr (by omega))
       rw [e] at h1
       clear e
       have hlt2 : n ≤ (i : Int) := by omega
       clear hlt
       refine list_all Wide.out (by repeat (first | exact hQ0 | apply lo_then | apply lo_block)) rfl ?_
       go_wp2_with fail
       refine wpIn_wide.2 ?_
       go_wp2_with fail
       exact ⟨rfl, _, results_none rfl _, ⟨_, rfl⟩, .inl ⟨bs, h1.out⟩⟩

theorem Dx.put {cb : List Nat} {w w' w2 : World} {b : Nat} (h : Dx cb w w') (t : Trn b w' w2) (hb : w.heap.size ≤ b) : Dx cb w w2 :=
 ⟨t.os.trans h.os, t.tape.trans h.tape, t.output.trans h.output, by rw [t.size]; exact h.size, fun i hi hn => (t.block i (by omega)).trans (h.block i hi hn)⟩
set_option maxRecDepth 100000 in
set_option maxHeartbeats 2000000 in
theorem rnStates (m : Mc) (n : Int) (W : World) : Calls Tryz.prog 18 #[.agg (mach m), .int .i64 n] W fun e W' => ∃ bm bn, e = .returned (.func (.func 21) #[] #[.pointer (some ⟨bm, 0, none⟩), .pointer (some ⟨bn, 0, none⟩)]) ∧
     Hid (Blk W' bm 30 (mach m)) ∧ Hid (Blk W' bn 3 #[.int .i64 n]) ∧ Hid (W.heap.size ≤ bm) ∧ Hid (W.heap.size ≤ bn) ∧ Dn W W' := by
 have HD := Lib.hid (Dn.refl W)
 go_enter Tryz.func18, Tryz.ntmps18
 go_wp2_with (first | ((with_reducible refine wpList_box (vs := (mach m)) ?_ ?_ ?_); rfl; rfl; intro bm w' nn; refine Hid.out ?_))
 refine Lib.hid ?_
 have HL : Hid (W.heap.size ≤ bm) := Lib.hid (Blk.hi nn HD.out.size)
 have d' := nn.dn
 replace HD := hT HD d'
 have gm := nn.blk
 clear d' nn
 go_wp2_with (first | ((with_reducible refine wpList_box1 (v := .int .i64 n) rfl ?_ ?_ ?_); rfl; rfl; intro bn w' nn; refine Hid.out ?_))
 refine Lib.hid ?_
 have HN : Hid (W.heap.size ≤ bn) := Lib.hid (Blk.hi nn HD.out.size)
 have d' := nn.dn
 replace HD := hT HD d'
 replace gm := gm.dn d'
 have gn := nn.blk
 clear d' nn
 go_wp2_with fail
 go_ret
 exact ⟨bm, bn, rfl, Lib.hid gm, Lib.hid gn, HL, HN, HD.out⟩

def M.st0 (m : Mc) : M.SRes := ⟨m.c, m.xs, m.ys, m.h, m.t, 0, 0⟩
theorem enter_states : ∀ args w, (callFunc 21 args).run Tryz.prog w = .ok (.enter 21 args) w := enters_of Tryz.func21 (by kernel_rfl) rfl
theorem fold_one (p : Tmp) (v : Value) (T : Array Value) : ((#[p] : Array Tmp).zip #[v]).foldl (fun t (p, v) => t.setIfInBounds p v) T = T.setIfInBounds p v := by simp
theorem retMI {fn : Func} {o p : Tmp} {act : Act} {w : World} {b : Nat} {m : Mc} {v : Value} {Post : Ending → World → Prop} (h : fn.results = #[.cell o 30, .tmp p]) (ho : act.tmps.getD o undef = .pointer (some ⟨b, 0, none⟩)) (hp : act.tmps.getD p undef = v)
   (r : Blk w b 30 (mach m)) (hl : m.c.length = 29) (K : Post (.returned (.tuple #[.agg (mach m), v])) w) (hd : act.defers = []) : bodyPost Tryz.prog fn Post .ret act w := by
 have ho' : act.tmps[o]?.getD undef = .pointer (some ⟨b, 0, none⟩) := by simpa using ho
 have hp' : act.tmps[p]?.getD undef = v := by simpa using hp
 have hl2 := run_loadVar_row (P := Tryz.prog) w b 30 30 _ (0, 0) _ r Tryz.underlying30 rfl (info_mach hl)
 refine bodyPost_ret ?_ hd K
 simp [results, h, hp', ho', asAddr, hl2]
set_option maxRecDepth 100000 in
set_option maxHeartbeats 2000000 in
theorem rnRun (m : Mc) (n : Int) (W : World) (hm : m.Ok W) (hs : m.xs.length ≤ 100000) (hy : m.ys.length + n.toNat ≤ 100000) (n0 : -9223372036854775808 ≤ n) (n1 : n < 9223372036854775808) (T : Env2 W) :
   Calls Tryz.prog 10 #[.agg (mach m), .int .i64 n] W fun e W' => ∃ m1, e = .returned (.tuple #[.agg (mach m1), .int .i64 (M.cntn n.toNat (M.st0 m))]) ∧ Hid (m1.Ok W') ∧ Hid (Sd (M.gon n.toNat (M.st0 m)) m1) ∧ Dn W W' := by
 have hl := hm.len
 obtain ⟨s0, hs0⟩ : ∃ s0, M.st0 m = s0 := ⟨_, rfl⟩
 rw [hs0]
 have CS := Lib.hid fun w => rnStates m n w
 have CI := Lib.hid fun bm bn l w ow gm gn dw J Jx a b c => rnIter bm bn l m n W w ow gm gn dw T hs hy n0 n1 s0 hs0.symm J Jx a b c
 have HD := Lib.hid (Dn.refl W)
 replace hm := Lib.hid hm
 clear hs hy hs0
 refine calls_of_marks Tryz.func10 rfl ?_
 simp only [Tryz.ntmps10, List.size_toArray, List.length_cons, List.length_nil, Nat.reduceAdd, Nat.reduceSub, Array.replicate_succ, Array.replicate_zero, List.push_toArray, List.append_toArray, List.nil_append, List.cons_append]
 go_wp2_with (first | ((with_reducible refine wpList_box (vs := (mach m)) ?_ ?_ ?_); rfl; rfl; intro b2 w' nn; refine Hid.out ?_))
 refine Lib.hid ?_
 have HL2 : Hid (W.heap.size ≤ b2) := Lib.hid (Blk.hi nn HD.out.size)
 have d' := nn.dn
 replace HD := hT HD d'
 have g2 := nn.blk
 clear d' nn
 go_wp2_with (first | ((with_reducible refine wpList_alloc zeroMach ?_ ?_); rfl; intro b4 w' nn; refine Hid.out ?_))
 refine Lib.hid ?_
 have HL4 : Hid (W.heap.size ≤ b4) := Lib.hid (Blk.hi nn HD.out.size)
 have d' := nn.dn
 replace HD := hT HD d'
 replace g2 := g2.dn d'
 have g4 := nn.blk
 clear d' nn
 go_wp2_with (first | ((with_reducible refine wpList_alloc zero36 ?_ ?_); rfl; intro b6 w' nn; refine Hid.out ?_))
 refine Lib.hid ?_
 have HL6 : Hid (W.heap.size ≤ b6) := Lib.hid (Blk.hi nn HD.out.size)
 have n46 := Lib.hid (nn.ne _ g4.lt)
 have d' := nn.dn
 replace HD := hT HD d'
 replace g2 := g2.dn d'
 replace g4 := g4.dn d'
 have g6 := nn.blk
 clear d' nn
 go_wp2_with (first | ((with_reducible refine load33 g2 hl ?_ ?_ ?_); rfl; rfl) | (go_at_call 18; (with_reducible refine (CS.out _).mono ?_); rintro e w' ⟨bm, bn, rfl, gm, gn, hbm, hbn, d'⟩; refine Hid.out ?_))
 refine Lib.hid ?_
 have nm4 := Lib.hid (Nat.ne_of_lt (Nat.lt_of_lt_of_le g4.lt hbm.out))
 have nn4 := Lib.hid (Nat.ne_of_lt (Nat.lt_of_lt_of_le g4.lt hbn.out))
 have nn6 := Lib.hid (Nat.ne_of_lt (Nat.lt_of_lt_of_le g6.lt hbn.out))
 replace HD := hT HD d'
 replace g4 := g4.dn d'
 replace g6 := g6.dn d'
 clear d' g2 hbm hbn nm4 CS
 go_wp2_with fail
 refine wp_range 21 #[.pointer (some ⟨bm, 0, none⟩), .pointer (some ⟨bn, 0, none⟩)] rfl enter_states ?_
 intro r l w1 hst hpe htm hpa has hbo hD hl1 d1 lp
 have HD1 := HD.out.trans d1
 have e4 : Hid (b4 ≠ l) := Lib.hid (by have := g4.lt; omega)
 have e6 : Hid (b6 ≠ l) := Lib.hid (by have := g6.lt; omega)
 have eN : Hid (bn ≠ l) := Lib.hid (by have := gn.out.lt; omega)
 have d4 : Hid (b4 ≠ r.defers) := Lib.hid (by have := g4.lt; omega)
 have d6 : Hid (b6 ≠ r.defers) := Lib.hid (by have := g6.lt; omega)
 have lW : Hid (W.heap.size ≤ l) := Lib.hid (by have := HD.out.size; omega)
 have bl := lp.lt
 have bD := lp.ltD
 have b4l := (g4.dn d1).lt
 have b6l := (g6.dn d1).lt
 have bnl := (gn.out.dn d1).lt
 refine (CI.out bm bn l w1 (hm.out.dn HD1) (gm.out.dn d1) (gn.out.dn d1) HD1 (fun bs i w => Dn W w ∧ Lp r w l ∧ Blk w b4 30 (mach Mc.zero) ∧ (∃ x k v, Blk w b6 48 (stc x ((i - 1 : Nat) : Int) k v) ∧ x.Ok w ∧ (0 < i → Sd (M.gon (i - 1) s0) x)) ∧ b4 ≠ bs ∧ b6 ≠ bs ∧ l ≠ bs ∧ r.defers ≠ bs) (fun _ _ => False) ?_ ?_ ?_).mono ?_
 · intro bs w d hbs
   exact ⟨HD1.trans d, lp.dx (bs := []) d.dx (by simp) (by simp), (g4.dn d1).dn d, ⟨Mc.zero, 0, 0, (g6.dn d1).dn d, Mc.zero_ok w, fun h => absurd h (by decide)⟩, by omega, by omega, by omega, by omega⟩
 · rintro bs i w w2 hbs ⟨a1, a2, a3, ⟨x, k, v, a4, a5, a6⟩, n1, n2, n3, n4⟩ dx nu
   have h1 : ∀ b ∈ [bs], W.heap.size ≤ b := by
     intro b hb
     obtain rfl : b = bs := by simpa using hb
     have := HD1.size
     omega
   exact ⟨a1.of_dx dx h1, a2.dx dx (by simpa using n3) (by simpa using n4), a3.dx dx (by simpa using n1), ⟨x, k, v, a4.dx dx (by simpa using n2), a5.nu dx (by simpa using nu), a6⟩, n1, n2, n3, n4⟩
 · rintro bs i x k v w hbs hbw hi ⟨a1, a2, a3, ⟨x0, k0, v0, g6, o0, s0'⟩, n1, n2, n3, n4⟩ aw ox sx ek ev _hz
   have hlx := ox.len
   have hl0 := o0.len
   have wD := HD1.size
   have HX := Lib.hid (Dx.refl [b6, l] w)
   have u6 : Nu w b6 := Nu.blk g6 (NoU8.stc _ _ _ _)
   have ul : Nu w l := Nu.lp a2
   refine round_at a2 hst hpe (by rw [hpa]; rfl) _ ?_
   rw [has, hpa, htm, fold_one]
   simp only [tA, tS, tZ]
   replace ek := Lib.hid ek
   replace ev := Lib.hid ev
   replace n1 := Lib.hid n1
   replace n2 := Lib.hid n2
   replace n3 := Lib.hid n3
   replace n4 := Lib.hid n4
   have HB := Lib.hid hbs
   have LP := Lib.hid a2
   have WD := Lib.hid wD
   have H1 := Lib.hid a1
   have HI := Lib.hid hi
   have OX := Lib.hid ox
   have U6 := Lib.hid u6
   have UL := Lib.hid ul
   have SX := Lib.hid sx
   have LT := Lib.hid (show l < w1.heap.size ∧ r.defers < w1.heap.size ∧ b4 < w1.heap.size ∧ b6 < w1.heap.size ∧ bn < w1.heap.size from ⟨bl, bD, b4l, b6l, bnl⟩)
   clear hst hpe htm hpa has hD hl1 d1 lp HD1 bl bD b4l b6l bnl hbs hi a1 a2 aw u6 ul sx wD ox s0' o0
   refine region_in (Wide.round l) (lo_then fun ⟨_, _, h⟩ => h) rfl ?_
   go_wp2_with (first | ((with_reducible refine wpList_alloc zero36 ?_ ?_); rfl; intro b7 w' nn; refine Hid.out ?_))
   refine Lib.hid ?_
   have L7 : Hid (w.heap.size ≤ b7) := Lib.hid (Blk.hi nn (Nat.le_refl _))
   have n67 := Lib.hid (nn.ne _ g6.lt)
   have nl7 := Lib.hid (nn.ne _ LP.out.lt)
   have nD7 := Lib.hid (nn.ne _ LP.out.ltD)
   have d' := nn.dn
   replace HX := Lib.hid (HX.out.trans d'.dx)
   replace g6 := g6.dn d'
   replace LP := Lib.hid (LP.out.dx (bs := []) d'.dx (by simp) (by simp))
   have g7 := nn.blk
   clear d' nn
   go_wp2_with (first | ((with_reducible refine storeSt (s' := (i : Int)) (k' := k) (v' := v) x hlx g7 zlen ?_ ?_ ?_ ?_); rfl; rfl; rfl; intro w' r' t'; refine Hid.out ?_))
   refine Lib.hid ?_
   replace HX := Lib.hid (HX.out.put t' L7.out)
   replace g6 := g6.trn t' n67.out
   replace LP := Lib.hid (LP.out.dx (t'.dx (bs := [b7]) (by simp)) (by simpa using nl7.out) (by simpa using nD7.out))
   clear t' g7
   have g7 := r'
   clear r'
   go_wp2_with fail
   refine ⟨LP.out, fun w2 t2 lp2 => ?_⟩
   replace HX := Lib.hid (HX.out.trans (t2.dx (by simp)))
   replace g6 := g6.trn t2 e6.out
   replace g7 := g7.trn t2 nl7.out.symm
   clear t2 LP
   replace lp2 := Lib.hid lp2
   rw [hbo]
   refine wpIn_block (region_in (Wide.round l) (lo_block rpost_out) rfl ?_)
   go_wp2_with (first | ((with_reducible refine loadSt g7 hlx ?_ ?_ ?_); rfl; rfl) | ((with_reducible refine storeSt (s' := (i : Int)) (k' := k) (v' := v) x hlx g6 hl0 ?_ ?_ ?_ ?_); rfl; rfl; rfl; intro w' r' t'; refine Hid.out ?_))
   refine Lib.hid ?_
   replace HX := Lib.hid (HX.out.trans (t'.dx (by simp)))
   replace lp2 := Lib.hid (lp2.out.dx (t'.dx (bs := [b6]) (by simp)) (by simpa using e6.out.symm) (by show r.defers ∉ [b6]; simpa using d6.out.symm))
   clear t' g6 g7
   have g6 := r'
   clear r'
   go_wp2_with fail
   refine ⟨lp2.out, fun w3 t3 lp3 => ?_⟩
   replace HX := HX.out.trans (t3.dx (by simp))
   replace g6 := g6.trn t3 e6.out
   have nu : ∀ b ∈ [b6, l], Nu w b := by
     intro b hb
     simp only [List.mem_cons, List.not_mem_nil, or_false] at hb
     rcases hb with rfl | rfl
     · exact U6.out
     · exact UL.out
   have hge : ∀ b ∈ [b6, l], W.heap.size ≤ b := by
     intro b hb
     simp only [List.mem_cons, List.not_mem_nil, or_false] at hb
     rcases hb with rfl | rfl
     · exact HL6.out
     · exact lW.out
   have dw := H1.out.of_dx HX hge
   refine ⟨⟨dw, [b6, l], HX, fun b hb => ?_⟩, fun _ => ?_, fun h => by cases h⟩
   · have h1 := nu b hb
     simp only [List.mem_cons, List.not_mem_nil, or_false] at hb
     rcases hb with rfl | rfl
     · exact ⟨n2.out, nn6.out, h1⟩
     · exact ⟨n3.out, eN.out.symm, h1⟩
   · refine ⟨dw, lp3, a3.dx HX (by simp only [List.mem_cons, List.not_mem_nil, or_false, not_or]; exact ⟨n46.out, e4.out⟩), ⟨x, k, v, ?_, OX.out.nu HX nu, fun _ => ?_⟩, n1.out, n2.out, n3.out, n4.out⟩
     · rw [Nat.add_sub_cancel]; exact g6
     · rw [Nat.add_sub_cancel]; exact SX.out
 · rintro e w2 ⟨⟨v, rfl⟩, ⟨bs, a1, a2, a3, ⟨x, k, u, a4, a5, a6⟩, n1, n2, n3, n4⟩ | ⟨i, hi, f⟩⟩
   · rw [Nat.add_sub_cancel] at a4 a6
     have sx := a6 (by omega)
     rw [M.gon_cn] at sx
     refine ⟨v, .ready, none, rfl, by simp, by rw [loop_ready hst hpe]; exact a2, fun w3 t3 hD3 => ?_⟩
     simp only [After]
     have b4D : b4 ≠ w'.heap.size := by have := d4.out; rwa [hD] at this
     have b6D : b6 ≠ w'.heap.size := by have := d6.out; rwa [hD] at this
     have wDD : W.heap.size ≤ w'.heap.size := HD.out.size
     have hlx := a5.len
     replace a5 := Lib.hid (a5.nu (t3.dx (bs := [l]) (by simp)) (by intro b hb; obtain rfl : b = l := (by simpa using hb); exact Nu.lp a2))
     clear CI HD g4 g6
     have g4 := a3.trn t3 e4.out
     have g6 := a4.trn t3 e6.out
     have HD := Lib.hid (a1.trn lW.out t3)
     replace sx := Lib.hid sx
     replace hD3 := Lib.hid hD3
     replace b4D := Lib.hid b4D
     replace b6D := Lib.hid b6D
     replace wDD := Lib.hid wDD
     clear a1 a2 a3 a4 a6 n1 n2 n3 n4 t3 gm gn lp bl bD b4l b6l bnl hst hpe htm hpa has hbo d1 HD1
     go_wp2_with fail
     have nx6 : b6 ∉ [b4] := by simpa using n46.out.symm
     refine wp_region_picks [b4] [0, 1, 2, 3] 2 (by kernel_rfl) (by kernel_rfl) rfl (by kernel_rfl) ?_
     simp only [pickL, List.drop_succ_cons, List.drop_zero, List.take_succ_cons, List.take_zero, List.cons_append, List.nil_append]
     refine ⟨?_, ?_, ?_⟩
     rotate_left 1
     refine ⟨_, calx_pure (by rfl) (fun u => by go_simp; rfl), ?_⟩
     simp only [Act.put, tA, tS, tZ]
     refine ⟨_, calxStM g6 hlx nx6 (by rfl) rfl, ?_⟩
     simp only [Act.put, tA, tS, tZ]
     refine ⟨_, calx_pure (by rfl) (fun u => by go_simp; rfl), ?_⟩
     simp only [Act.put, tA, tS, tZ]
     refine ⟨_, calxInt (v := .int .i64 (M.cntn n.toNat s0 : Nat)) g6 nx6 Tryz.underlying3 (by rfl) rfl (stc_high hlx (i := 0) (by decide)), ?_⟩
     simp only [Act.put, tA, tS, tZ]
     exact rfl
     have e0 : Dx [b4] w3 w3.drew := Dn.dx (Dn.drawn _)
     have f4 := g4.dn (Dn.drawn w3)
     refine wpX_one 4 (by kernel_rfl) ?_
     refine x1_store 0 (vs := mach x) rfl f4 (.inl (by simp)) (info_mach hlx) (by rw [mach_size hlx, mach_size zlen]; omega) (mach_one _) rfl rfl e0 fun u1 y1 du1 t1 e1 g1 => ?_
     rw [lay_all (mach Mc.zero) (mach x) (by rw [mach_size hlx, mach_size zlen])] at g1
     refine wpX_pick2 (by kernel_rfl) e1 [5] 0 rfl (by kernel_rfl) ?_
     simp only [pickL, List.drop_succ_cons, List.drop_zero, List.take_succ_cons, List.take_zero, List.cons_append, List.nil_append]
     refine ⟨?_, ?_, ?_⟩
     rotate_left 1
     refine ⟨_, calx_pure (by rfl) (fun u => by go_simp; rfl), ?_⟩
     simp only [Act.put, tA, tS, tZ]
     exact rfl
     refine wpX_end (by kernel_rfl) fun w4 dx => NoPanic.normal ?_
     have D4 := e1.trans (Dn.dx dx)
     replace g1 := g1.dn dx
     have h4 : ∀ b ∈ [b4], W.heap.size ≤ b := by intro b hb; obtain rfl : b = b4 := (by simpa using hb); exact HL4.out
     replace HD := Lib.hid (HD.out.of_dx D4 h4)
     replace a5 := Lib.hid (a5.out.nu D4 (by intro b hb; obtain rfl : b = b4 := (by simpa using hb); exact Nu.blk g4 (NoU8.mach _)))
     replace hD3 := Lib.hid ((D4.block _ (by have := hD3.out; exact (Array.getElem?_eq_some_iff.1 this).1) (by simpa using b4D.out.symm)).trans hD3.out)
     clear f4 e0 e1 dx t1 du1 g4 g6 D4
     go_wp2_with fail
     refine ⟨_, rfl, hD3.out, fun w5 t5 => ?_⟩
     refine retMI rfl rfl rfl (g1.trn t5 b4D.out) hlx ?_ rfl
     exact ⟨x, rfl, Lib.hid (a5.out.nu (t5.dx (bs := [w'.heap.size]) (by simp)) (by intro b hb; obtain rfl : b = w'.heap.size := (by simpa using hb); intro cs t fr h; rw [hD3.out] at h; cases h)), sx, HD.out.trn wDD.out t5⟩
   · exact f.elim

section
variable {P : Program} {ops : Array Oper} {rest : List Oper} {dst : Option Tmp} {ty : TypeId} {pos : String} {aft : Array Edge} {gd : Option (Nat × Bool)} {a : Act} {w : World} {Q : Exit → Act → World → Prop} {t : TypeId} {v : Value}
theorem wpList_alloc1 (hv : v.cells = #[v]) (hz : (P.info? t).map (fun i => (i.zero, i.size)) = some (some v, 1)) (hw : Region.wanted ⟨dst, .alloc t, ty, pos, aft, gd⟩ (yielded ops a.tmps) = true)
   (h : ∀ b w', New w w' b t #[v] → wpList P ops Q rest (a.put dst (.pointer (some ⟨b, 0, none⟩))) w') : wpList P ops Q (⟨dst, .alloc t, ty, pos, aft, gd⟩ :: rest) a w := by
 have hz1 := (zero_of_info hz).1
 unfold wpList
 rw [if_pos hw]
 refine .inl ?_
 unfold Oper.wp execOp
 simp only [Instr.alloc, Sem.run_bind, hz1, Result.andThen_ok]
 simp only [newVar, newRow, go_sem]
 have k := h _ _ (New.mk' w t #[v])
 rw [← hv] at k
 exact k
end
theorem Dx.more {bs cs : List Nat} {w w' : World} (d : Dx bs w w') (h : ∀ b ∈ bs, b ∈ cs) : Dx cs w w' := ⟨d.os, d.tape, d.output, d.size, fun i hi hn => d.block i hi fun hm => hn (h i hm)⟩
theorem Mc.Ok.mark {w w' : World} {D : Nat} {m : Mc} (h : m.Ok w) (hD : w.heap[D]? = some (.deferred (some []))) (t : Trn D w w') : m.Ok w' :=
 h.nu (t.dx (bs := [D]) (by simp)) (by intro b hb; obtain rfl : b = D := (by simpa using hb); intro cs t fr h; rw [hD] at h; cases h)
theorem retMIB {fn : Func} {o p q : Tmp} {act : Act} {w : World} {b c d : Nat} {m : Mc} {i : Int} {u : Bool} {Post : Ending → World → Prop} (h : fn.results = #[.cell o 30, .cell p 3, .cell q 4]) (ho : act.tmps.getD o undef = .pointer (some ⟨b, 0, none⟩)) (hp : act.tmps.getD p undef = .pointer (some ⟨c, 0, none⟩)) (hq : act.tmps.getD q undef = .pointer (some ⟨d, 0, none⟩))
   (r : Blk w b 30 (mach m)) (hl : m.c.length = 29) (g : Blk w c 3 #[.int .i64 i]) (k : Blk w d 4 #[.bool u]) (K : Post (.returned (.tuple #[.agg (mach m), .int .i64 i, .bool u])) w) (hd : act.defers = []) : bodyPost Tryz.prog fn Post .ret act w := by
 have ho' : act.tmps[o]?.getD undef = .pointer (some ⟨b, 0, none⟩) := by simpa using ho
 have hp' : act.tmps[p]?.getD undef = .pointer (some ⟨c, 0, none⟩) := by simpa using hp
 have hq' : act.tmps[q]?.getD undef = .pointer (some ⟨d, 0, none⟩) := by simpa using hq
 have hl2 := run_loadVar_row (P := Tryz.prog) w b 30 30 _ (0, 0) _ r Tryz.underlying30 rfl (info_mach hl)
 have hl3 := run_load1 Tryz.underlying3 w (g.cell (i := 0) rfl)
 have hl4 := run_loadB Tryz.underlying4 w (k.cell (i := 0) rfl)
 refine bodyPost_ret ?_ hd K
 simp [results, h, hp', ho', hq', asAddr, hl2, hl3, hl4]

set_option maxRecDepth 100000 in
set_option maxHeartbeats 2000000 in
theorem rnUntil (m : Mc) (n p : Int) (W : World) (hm : m.Ok W) (hs : m.xs.length ≤ 100000) (hy : m.ys.length + n.toNat ≤ 100000) (n0 : -9223372036854775808 ≤ n) (n1 : n < 9223372036854775808) (T : Env2 W) :
   Calls Tryz.prog 12 #[.agg (mach m), .int .i64 n, .int .u32 p] W fun e W' => ∃ m1, e = .returned (.tuple #[.agg (mach m1), .int .i64 (M.unt p n.toNat (M.st0 m)).2.1, .bool (M.unt p n.toNat (M.st0 m)).2.2]) ∧ Hid (m1.Ok W') ∧ Hid (Sd (M.unt p n.toNat (M.st0 m)).1 m1) ∧ Dn W W' := by
 have hl := hm.len
 obtain ⟨s0, hs0⟩ : ∃ s0, M.st0 m = s0 := ⟨_, rfl⟩
 rw [hs0]
 have CS := Lib.hid fun w => rnStates m n w
 have CI := Lib.hid fun bm bn l w ow gm gn dw J Jx a b c => rnIter bm bn l m n W w ow gm gn dw T hs hy n0 n1 s0 hs0.symm J Jx a b c
 have HD := Lib.hid (Dn.refl W)
 replace hm := Lib.hid hm
 clear hs hy hs0
 refine calls_of_marks Tryz.func12 rfl ?_
 simp only [Tryz.ntmps12, List.size_toArray, List.length_cons, List.length_nil, Nat.reduceAdd, Nat.reduceSub, Array.replicate_succ, Array.replicate_zero, List.push_toArray, List.append_toArray, List.nil_append, List.cons_append]
 go_wp2_with (first | ((with_reducible refine wpList_box (vs := (mach m)) ?_ ?_ ?_); rfl; rfl; intro b3 w' nn; refine Hid.out ?_))
 refine Lib.hid ?_
 have HL3 : Hid (W.heap.size ≤ b3) := Lib.hid (Blk.hi nn HD.out.size)
 have d' := nn.dn
 replace HD := hT HD d'
 have g3 := nn.blk
 clear d' nn
 go_wp2_with (first | ((with_reducible refine wpList_box1 (v := .int .u32 p) rfl ?_ ?_ ?_); rfl; rfl; intro b5 w' nn; refine Hid.out ?_))
 refine Lib.hid ?_
 have n3_5 := Lib.hid (nn.ne _ g3.lt)
 have HL5 : Hid (W.heap.size ≤ b5) := Lib.hid (Blk.hi nn HD.out.size)
 have d' := nn.dn
 replace HD := hT HD d'
 replace g3 := g3.dn d'
 have g5 := nn.blk
 clear d' nn
 go_wp2_with (first | ((with_reducible refine wpList_alloc zeroMach ?_ ?_); rfl; intro b6 w' nn; refine Hid.out ?_))
 refine Lib.hid ?_
 have n3_6 := Lib.hid (nn.ne _ g3.lt)
 have n5_6 := Lib.hid (nn.ne _ g5.lt)
 have HL6 : Hid (W.heap.size ≤ b6) := Lib.hid (Blk.hi nn HD.out.size)
 have d' := nn.dn
 replace HD := hT HD d'
 replace g3 := g3.dn d'
 replace g5 := g5.dn d'
 have g6 := nn.blk
 clear d' nn
 go_wp2_with (first | ((with_reducible refine wpList_alloc1 rfl zeroI64 ?_ ?_); rfl; intro b7 w' nn; refine Hid.out ?_))
 refine Lib.hid ?_
 have n3_7 := Lib.hid (nn.ne _ g3.lt)
 have n5_7 := Lib.hid (nn.ne _ g5.lt)
 have n6_7 := Lib.hid (nn.ne _ g6.lt)
 have HL7 : Hid (W.heap.size ≤ b7) := Lib.hid (Blk.hi nn HD.out.size)
 have d' := nn.dn
 replace HD := hT HD d'
 replace g3 := g3.dn d'
 replace g5 := g5.dn d'
 replace g6 := g6.dn d'
 have g7 := nn.blk
 clear d' nn
 go_wp2_with (first | ((with_reducible refine wpList_alloc1 rfl zeroB1 ?_ ?_); rfl; intro b8 w' nn; refine Hid.out ?_))
 refine Lib.hid ?_
 have n3_8 := Lib.hid (nn.ne _ g3.lt)
 have n5_8 := Lib.hid (nn.ne _ g5.lt)
 have n6_8 := Lib.hid (nn.ne _ g6.lt)
 have n7_8 := Lib.hid (nn.ne _ g7.lt)
 have HL8 : Hid (W.heap.size ≤ b8) := Lib.hid (Blk.hi nn HD.out.size)
 have d' := nn.dn
 replace HD := hT HD d'
 replace g3 := g3.dn d'
 replace g5 := g5.dn d'
 replace g6 := g6.dn d'
 replace g7 := g7.dn d'
 have g8 := nn.blk
 clear d' nn
 go_wp2_with (first | ((with_reducible refine wpList_alloc zero36 ?_ ?_); rfl; intro b9 w' nn; refine Hid.out ?_))
 refine Lib.hid ?_
 have n3_9 := Lib.hid (nn.ne _ g3.lt)
 have n5_9 := Lib.hid (nn.ne _ g5.lt)
 have n6_9 := Lib.hid (nn.ne _ g6.lt)
 have n7_9 := Lib.hid (nn.ne _ g7.lt)
 have n8_9 := Lib.hid (nn.ne _ g8.lt)
 have HL9 : Hid (W.heap.size ≤ b9) := Lib.hid (Blk.hi nn HD.out.size)
 have d' := nn.dn
 replace HD := hT HD d'
 replace g3 := g3.dn d'
 replace g5 := g5.dn d'
 replace g6 := g6.dn d'
 replace g7 := g7.dn d'
 replace g8 := g8.dn d'
 have g9 := nn.blk
 clear d' nn
 go_wp2_with (first | ((with_reducible refine load33 g3 hl ?_ ?_ ?_); rfl; rfl) | (go_at_call 18; (with_reducible refine (CS.out _).mono ?_); rintro e w' ⟨bm, bn, rfl, gm, gn, hbm, hbn, d'⟩; refine Hid.out ?_))
 refine Lib.hid ?_
 have nn3 := Lib.hid (Nat.ne_of_lt (Nat.lt_of_lt_of_le g3.lt hbn.out))
 have nn5 := Lib.hid (Nat.ne_of_lt (Nat.lt_of_lt_of_le g5.lt hbn.out))
 have nn6 := Lib.hid (Nat.ne_of_lt (Nat.lt_of_lt_of_le g6.lt hbn.out))
 have nn7 := Lib.hid (Nat.ne_of_lt (Nat.lt_of_lt_of_le g7.lt hbn.out))
 have nn8 := Lib.hid (Nat.ne_of_lt (Nat.lt_of_lt_of_le g8.lt hbn.out))
 have nn9 := Lib.hid (Nat.ne_of_lt (Nat.lt_of_lt_of_le g9.lt hbn.out))
 replace HD := hT HD d'
 replace g3 := g3.dn d'
 replace g5 := g5.dn d'
 replace g6 := g6.dn d'
 replace g7 := g7.dn d'
 replace g8 := g8.dn d'
 replace g9 := g9.dn d'
 clear d' hbm hbn CS
 go_wp2_with fail
 refine wp_range 21 #[.pointer (some ⟨bm, 0, none⟩), .pointer (some ⟨bn, 0, none⟩)] rfl enter_states ?_
 intro r l w1 hst hpe htm hpa has hbo hD hl1 d1 lp
 have HD1 := HD.out.trans d1
 have e3 : Hid (b3 ≠ l) := Lib.hid (by have := g3.lt; omega)
 have f3 : Hid (b3 ≠ r.defers) := Lib.hid (by have := g3.lt; omega)
 have k3 : b3 < w1.heap.size := (g3.dn d1).lt
 have e5 : Hid (b5 ≠ l) := Lib.hid (by have := g5.lt; omega)
 have f5 : Hid (b5 ≠ r.defers) := Lib.hid (by have := g5.lt; omega)
 have k5 : b5 < w1.heap.size := (g5.dn d1).lt
 have e6 : Hid (b6 ≠ l) := Lib.hid (by have := g6.lt; omega)
 have f6 : Hid (b6 ≠ r.defers) := Lib.hid (by have := g6.lt; omega)
 have k6 : b6 < w1.heap.size := (g6.dn d1).lt
 have e7 : Hid (b7 ≠ l) := Lib.hid (by have := g7.lt; omega)
 have f7 : Hid (b7 ≠ r.defers) := Lib.hid (by have := g7.lt; omega)
 have k7 : b7 < w1.heap.size := (g7.dn d1).lt
 have e8 : Hid (b8 ≠ l) := Lib.hid (by have := g8.lt; omega)
 have f8 : Hid (b8 ≠ r.defers) := Lib.hid (by have := g8.lt; omega)
 have k8 : b8 < w1.heap.size := (g8.dn d1).lt
 have e9 : Hid (b9 ≠ l) := Lib.hid (by have := g9.lt; omega)
 have f9 : Hid (b9 ≠ r.defers) := Lib.hid (by have := g9.lt; omega)
 have k9 : b9 < w1.heap.size := (g9.dn d1).lt
 have eN : Hid (bn ≠ l) := Lib.hid (by have := gn.out.lt; omega)
 have lW : Hid (W.heap.size ≤ l) := Lib.hid (by have := HD.out.size; omega)
 have bl := lp.lt
 have bD := lp.ltD
 refine (CI.out bm bn l w1 (hm.out.dn HD1) (gm.out.dn d1) (gn.out.dn d1) HD1 (fun bs i w => Dn W w ∧ Lp r w l ∧ (Blk w b5 22 #[.int .u32 p] ∧ Blk w b6 30 (mach Mc.zero) ∧ Blk w b7 3 #[.int .i64 0] ∧ Blk w b8 4 #[.bool false]) ∧ (∃ x k v, Blk w b9 48 (stc x ((i - 1 : Nat) : Int) k v) ∧ x.Ok w ∧ (0 < i → Sd (M.gon (i - 1) s0) x)) ∧ (b5 ≠ bs ∧ b6 ≠ bs ∧ b7 ≠ bs ∧ b8 ≠ bs ∧ b9 ≠ bs ∧ l ≠ bs ∧ r.defers ≠ bs) ∧ ∀ j, j < i → M.pc (M.gon j s0).c ≠ p) (fun i w => Dn W w ∧ Lp (rDone r) w l ∧ (∃ x, Blk w b6 30 (mach x) ∧ Blk w b7 3 #[.int .i64 i] ∧ Blk w b8 4 #[.bool true] ∧ x.Ok w ∧ Sd (M.gon i s0) x) ∧ M.pc (M.gon i s0).c = p ∧ ∀ j, j < i → M.pc (M.gon j s0).c ≠ p) ?_ ?_ ?_).mono ?_
 · intro bs w d hbs
   exact ⟨HD1.trans d, lp.dx (bs := []) d.dx (by simp) (by simp), ⟨(g5.dn d1).dn d, (g6.dn d1).dn d, (g7.dn d1).dn d, (g8.dn d1).dn d⟩, ⟨Mc.zero, 0, 0, (g9.dn d1).dn d, Mc.zero_ok w, fun h => absurd h (by decide)⟩, ⟨by omega, by omega, by omega, by omega, by omega, by omega, by omega⟩, fun j h => absurd h (Nat.not_lt_zero _)⟩
 · rintro bs i w w2 hbs ⟨a1, a2, ⟨a5, a6, a7, a8⟩, ⟨x, k, v, q1, q2, q3⟩, ⟨n1, n2, n3, n4, n5, n6, n7⟩, a9⟩ dx nu
   have h1 : ∀ b ∈ [bs], W.heap.size ≤ b := by
     intro b hb
     obtain rfl : b = bs := by simpa using hb
     have := HD1.size
     omega
   exact ⟨a1.of_dx dx h1, a2.dx dx (by simpa using n6) (by simpa using n7), ⟨a5.dx dx (by simpa using n1), a6.dx dx (by simpa using n2), a7.dx dx (by simpa using n3), a8.dx dx (by simpa using n4)⟩, ⟨x, k, v, q1.dx dx (by simpa using n5), q2.nu dx (by simpa using nu), q3⟩, ⟨n1, n2, n3, n4, n5, n6, n7⟩, a9⟩
 · rintro bs i x k v w hbs hbw hi ⟨a1, a2, ⟨a5, a6, a7, a8⟩, ⟨x0, k0, v0, q1, q2, q3⟩, n_, a9⟩ aw ox sx ek ev _hz
   clear g3 g5 g6 g7 g8 g9 q3
   have hlx := ox.len
   have hl0 := q2.len
   have g5 := a5
   have g6 := a6
   have g7 := a7
   have g8 := a8
   have g9 := q1
   clear a5 a6 a7 a8 q1 q2
   have ul : (∀ b ∈ [b9, l], Nu w b) ∧ ∀ b ∈ [b9, l, b6, b7, b8], Nu w b := by
     have u9 : Nu w b9 := Nu.blk g9 (NoU8.stc _ _ _ _)
     have u6 : Nu w b6 := Nu.blk g6 (NoU8.mach _)
     have u7 : Nu w b7 := Nu.blk g7 (NoU8.one (by intro x h; cases h))
     have u8 : Nu w b8 := Nu.blk g8 (NoU8.one (by intro x h; cases h))
     have u0 : Nu w l := Nu.lp a2
     refine ⟨?_, ?_⟩ <;> intro b hb <;> simp only [List.mem_cons, List.not_mem_nil, or_false] at hb
     · rcases hb with rfl | rfl
       · exact u9
       · exact u0
     · rcases hb with rfl | rfl | rfl | rfl | rfl
       · exact u9
       · exact u0
       · exact u6
       · exact u7
       · exact u8
   have HX := Lib.hid (Dx.refl [b9, l] w)
   clear k3 e3 f3 gm
   have wD := HD1.size
   refine round_at a2 hst hpe (by rw [hpa]; rfl) _ ?_
   rw [has, hpa, htm, fold_one]
   simp only [tA, tS, tZ]
   replace ek := Lib.hid ek
   replace ev := Lib.hid ev
   replace hbs := Lib.hid hbs
   replace a2 := Lib.hid a2
   replace wD := Lib.hid wD
   replace a1 := Lib.hid a1
   replace hi := Lib.hid hi
   replace ox := Lib.hid ox
   replace sx := Lib.hid sx
   replace ul := Lib.hid ul
   replace n_ := Lib.hid n_
   replace a9 := Lib.hid a9
   clear hst hpe htm hpa has hl1 d1 lp HD1 hD CI k5 k6 k7 k8 k9 bl bD aw
   have hge := Lib.hid (Nat.le_trans HD.out.size (Nat.le_refl w'.heap.size))
   refine region_in (Wide.round l) (lo_then fun ⟨_, _, h⟩ => h) rfl ?_
   go_wp2_with (first | ((with_reducible refine wpList_alloc zero36 ?_ ?_); rfl; intro b10 w' nn; refine Hid.out ?_))
   refine Lib.hid ?_
   have L10 : Hid (w.heap.size ≤ b10) := Lib.hid (Blk.hi nn (Nat.le_refl _))
   have nl10 := Lib.hid (nn.ne _ a2.out.lt)
   have nD10 := Lib.hid (nn.ne _ a2.out.ltD)
   have n5_10 := Lib.hid (nn.ne _ g5.lt)
   have n6_10 := Lib.hid (nn.ne _ g6.lt)
   have n7_10 := Lib.hid (nn.ne _ g7.lt)
   have n8_10 := Lib.hid (nn.ne _ g8.lt)
   have n9_10 := Lib.hid (nn.ne _ g9.lt)
   have d' := nn.dn
   replace HX := Lib.hid (HX.out.trans d'.dx)
   replace a2 := Lib.hid (a2.out.dx (bs := []) d'.dx (by simp) (by simp))
   replace g5 := g5.dn d'
   replace g6 := g6.dn d'
   replace g7 := g7.dn d'
   replace g8 := g8.dn d'
   replace g9 := g9.dn d'
   have g10 := nn.blk
   clear d' nn
   go_wp2_with (first | ((with_reducible refine storeSt (s' := (i : Int)) (k' := k) (v' := v) x hlx g10 zlen ?_ ?_ ?_ ?_); rfl; rfl; rfl; intro w' r' t'; refine Hid.out ?_))
   refine Lib.hid ?_
   replace HX := Lib.hid (HX.out.put t' L10.out)
   replace a2 := Lib.hid (a2.out.dx (t'.dx (bs := [b10]) (by simp)) (by simpa using nl10.out) (by simpa using nD10.out))
   replace g5 := g5.trn t' n5_10.out
   replace g6 := g6.trn t' n6_10.out
   replace g7 := g7.trn t' n7_10.out
   replace g8 := g8.trn t' n8_10.out
   replace g9 := g9.trn t' n9_10.out
   clear t' g10
   have g10 := r'
   clear r'
   go_wp2_with fail
   refine ⟨a2.out, fun w2 t2 lp2 => ?_⟩
   replace HX := Lib.hid (HX.out.trans (t2.dx (by simp)))
   replace g10 := g10.trn t2 nl10.out.symm
   replace g5 := g5.trn t2 e5.out
   replace g6 := g6.trn t2 e6.out
   replace g7 := g7.trn t2 e7.out
   replace g8 := g8.trn t2 e8.out
   replace g9 := g9.trn t2 e9.out
   clear t2 a2
   replace lp2 := Lib.hid lp2
   rw [hbo]
   have np : (x.c.getD 16 0 == p) = decide (M.pc (M.gon i s0).c = p) := by
     rw [← sx.out.c]
     rfl
   replace np := Lib.hid np
   refine wpIn_block (wpIn_seq (region_in (Wide.round l) (lo_then (lo_block rpost_out)) rfl ?_))
   go_wp2_with (first | ((with_reducible refine loadSt g10 hlx ?_ ?_ ?_); rfl; rfl) | ((with_reducible refine storeSt (s' := (i : Int)) (k' := k) (v' := v) x hlx g9 hl0 ?_ ?_ ?_ ?_); rfl; rfl; rfl; intro w' r' t'; refine Hid.out ?_))
   refine Lib.hid ?_
   replace HX := Lib.hid (HX.out.trans (t'.dx (by simp)))
   replace lp2 := Lib.hid (lp2.out.dx (t'.dx (bs := [b9]) (by simp)) (by simpa using e9.out.symm) (by show r.defers ∉ [b9]; simpa using f9.out.symm))
   replace g5 := g5.trn t' n5_9.out
   replace g6 := g6.trn t' n6_9.out
   replace g7 := g7.trn t' n7_9.out
   replace g8 := g8.trn t' n8_9.out
   replace g10 := g10.trn t' n9_10.out.symm
   clear t' g9
   have g9 := r'
   clear r'
   go_wp2_with fail
   have c16 := g10.sword hlx 16 rfl
   have c5 := g5.cell (i := 0) (v := .int .u32 p) rfl
   obtain ⟨pc, hpc⟩ : ∃ pc, x.c.getD 16 0 = pc := ⟨_, rfl⟩
   rw [hpc] at c16 np
   clear hpc
   refine wpIn_seq (region_in (Wide.round l) (lo_then (lo_block rpost_out)) rfl ?_)
   by_cases hp : M.pc (M.gon i s0).c = p
   · have hb : (pc == p) = true := by rw [np.out]; exact decide_eq_true hp
     replace hp := Lib.hid hp
     clear np
     go_wp2_with fail
     refine wpIn_cond_true rfl (wpIn_seq ?_)
     clear c16 c5 g5 g10 n5_10 n6_10 n7_10 n8_10 n9_10
     have nx9 : b9 ∉ [b6, b7, b8] := (by simp only [List.mem_cons, List.not_mem_nil, or_false, not_or]; exact ⟨n6_9.out.symm, n7_9.out.symm, n8_9.out.symm⟩)
     refine picks_in (Wide.round l) (lo_then (lo_block rpost_out)) [b6, b7, b8] [0, 1, 2, 3] 3 rfl (by kernel_rfl) (by kernel_rfl) rfl (by kernel_rfl) ?_
     simp only [pickL, List.drop_succ_cons, List.drop_zero, List.take_succ_cons, List.take_zero, List.cons_append, List.nil_append]
     refine ⟨?_, ?_, ?_⟩
     rotate_left 1
     refine ⟨_, calx_pure (by rfl) (fun u => by go_simp; rfl), ?_⟩
     simp only [Act.put, tA, tS, tZ]
     refine ⟨_, calxStM g9 hlx nx9 (by rfl) rfl, ?_⟩
     simp only [Act.put, tA, tS, tZ]
     refine ⟨_, calx_pure (by rfl) (fun u => by go_simp; rfl), ?_⟩
     simp only [Act.put, tA, tS, tZ]
     refine ⟨_, calxInt (v := .int .i64 (i : Int)) g9 nx9 Tryz.underlying3 (by rfl) rfl (stc_high hlx (i := 0) (by decide)), ?_⟩
     simp only [Act.put, tA, tS, tZ]
     exact rfl
     have e0 : Dx [b6, b7, b8] w' w'.drew := Dn.dx (Dn.drawn _)
     have f6' := g6.dn (Dn.drawn w')
     have f7' := g7.dn (Dn.drawn w')
     have f8' := g8.dn (Dn.drawn w')
     refine wpX_one 4 (by kernel_rfl) ?_
     refine x1_store 0 (vs := mach x) rfl f6' (.inl (by simp)) (info_mach hlx) (by rw [mach_size hlx, mach_size zlen]; omega) (mach_one _) rfl rfl e0 fun u1 y1 du1 t1 e1 z6 => ?_
     rw [lay_all (mach Mc.zero) (mach x) (by rw [mach_size hlx, mach_size zlen])] at z6
     replace f7' := (f7'.dn du1).trn t1 n6_7.out.symm
     replace f8' := (f8'.dn du1).trn t1 n6_8.out.symm
     clear f6' e0 t1 du1
     refine wpX_one 5 (by kernel_rfl) ?_
     refine x1_cell 0 (.int .i64 (i : Int)) rfl rfl f7' (.inl (by simp)) infoI64 (by simp) rfl rfl rfl e1 fun u2 y2 du2 t2 e2 z7 => ?_
     replace z6 := (z6.dn du2).trn t2 n6_7.out
     replace f8' := (f8'.dn du2).trn t2 n7_8.out.symm
     clear f7' e1 t2 du2
     refine wpX_one 6 (by kernel_rfl) ?_
     refine x1_cell 0 (.bool true) rfl rfl f8' (.inl (by simp)) infoBool (by simp) rfl rfl rfl e2 fun u3 y3 du3 t3 e3 z8 => ?_
     replace z6 := (z6.dn du3).trn t3 n6_8.out
     replace z7 := (z7.dn du3).trn t3 n7_8.out
     clear f8' e2 t3 du3
     refine wpX_end (by kernel_rfl) fun w4 dx => NoPanic.normal ?_
     replace z6 := z6.dn dx
     have z7 : Blk w4 b7 3 #[.int .i64 (i : Int)] := z7.dn dx
     have z8 : Blk w4 b8 4 #[.bool true] := z8.dn dx
     have HY := e3.trans (Dn.dx dx)
     clear e3 dx
     replace lp2 := lp2.out.dx HY (by simp only [List.mem_cons, List.not_mem_nil, or_false, not_or]; exact ⟨e6.out.symm, e7.out.symm, e8.out.symm⟩) (by show r.defers ∉ _; simp only [List.mem_cons, List.not_mem_nil, or_false, not_or]; exact ⟨f6.out.symm, f7.out.symm, f8.out.symm⟩)
     refine wpIn_ret ?_
     refine ⟨lp2, fun w5 t5 lp5 => ?_⟩
     have HZ : Dx [b9, l, b6, b7, b8] w w5 := ((HX.out.more (by simp)).trans (HY.more (by simp))).trans (t5.dx (by simp))
     have dw := a1.out.of_dx HZ (by intro b hb; simp only [List.mem_cons, List.not_mem_nil, or_false] at hb; rcases hb with rfl | rfl | rfl | rfl | rfl; all_goals first | exact HL9.out | exact lW.out | exact HL6.out | exact HL7.out | exact HL8.out)
     obtain ⟨n1, n2, n3, n4, n5, n6, n7⟩ := n_.out
     refine ⟨⟨dw, _, HZ, fun b hb => ?_⟩, (fun h => by cases h), fun _ => ?_⟩
     · have h1 := ul.out.2 b hb
       simp only [List.mem_cons, List.not_mem_nil, or_false] at hb
       rcases hb with rfl | rfl | rfl | rfl | rfl
       all_goals first | exact ⟨n5, nn9.out, h1⟩ | exact ⟨n6, eN.out.symm, h1⟩ | exact ⟨n2, nn6.out, h1⟩ | exact ⟨n3, nn7.out, h1⟩ | exact ⟨n4, nn8.out, h1⟩
     · exact ⟨dw, lp5, ⟨x, z6.trn t5 e6.out, z7.trn t5 e7.out, z8.trn t5 e8.out, ox.out.nu HZ ul.out.2, sx.out⟩, hp.out, a9.out⟩
   · have hb : (pc == p) = false := by rw [np.out]; exact decide_eq_false hp
     replace hp := Lib.hid hp
     clear np
     go_wp2_with fail
     refine wpIn_cond_false rfl (wpIn_skip ?_)
     refine ⟨lp2.out, fun w5 t5 lp5 => ?_⟩
     replace HX := HX.out.trans (t5.dx (by simp))
     have dw := a1.out.of_dx HX (by intro b hb; simp only [List.mem_cons, List.not_mem_nil, or_false] at hb; rcases hb with rfl | rfl; all_goals first | exact HL9.out | exact lW.out)
     obtain ⟨n1, n2, n3, n4, n5, n6, n7⟩ := n_.out
     refine ⟨⟨dw, _, HX, fun b hb => ?_⟩, (fun _ => ?_), fun h => by cases h⟩
     · have h1 := ul.out.1 b hb
       simp only [List.mem_cons, List.not_mem_nil, or_false] at hb
       rcases hb with rfl | rfl
       all_goals first | exact ⟨n5, nn9.out, h1⟩ | exact ⟨n6, eN.out.symm, h1⟩
     · refine ⟨dw, lp5, ⟨g5.trn t5 e5.out, g6.trn t5 e6.out, g7.trn t5 e7.out, g8.trn t5 e8.out⟩, ⟨x, k, v, ?_, ox.out.nu HX ul.out.1, fun _ => ?_⟩, ⟨n1, n2, n3, n4, n5, n6, n7⟩, fun j hj => ?_⟩
       · rw [Nat.add_sub_cancel]; exact g9.trn t5 e9.out
       · rw [Nat.add_sub_cancel]; exact sx.out
       · rcases Nat.lt_or_ge j i with h | h
         · exact a9.out j h
         · obtain rfl : j = i := by omega
           exact hp.out
 · have wDD : W.heap.size ≤ w'.heap.size := HD.out.size
   have d6 : b6 ≠ w'.heap.size := by have := f6.out; rwa [hD] at this
   have d7 : b7 ≠ w'.heap.size := by have := f7.out; rwa [hD] at this
   have d8 : b8 ≠ w'.heap.size := by have := f8.out; rwa [hD] at this
   have d9 : b9 ≠ w'.heap.size := by have := f9.out; rwa [hD] at this
   replace d6 := Lib.hid d6
   replace d7 := Lib.hid d7
   replace d8 := Lib.hid d8
   replace d9 := Lib.hid d9
   replace wDD := Lib.hid wDD
   rintro e w2 ⟨⟨v, rfl⟩, ⟨bs, a1, a2, ⟨a5, a6, a7, a8⟩, ⟨x, k, u, q1, q2, q3⟩, n_, a9⟩ | ⟨i, hi, a1, a2, ⟨x, q1, q2, q3, q4, q5⟩, a4, a9⟩⟩
   · rw [Nat.add_sub_cancel] at q1 q3
     have sx := q3 (by omega)
     have en := M.unt_none p n.toNat s0 (fun j hj => a9 j (by omega))
     rw [M.gon_cn] at sx
     replace en := Lib.hid en
     refine ⟨v, .ready, none, rfl, by simp, by rw [loop_ready hst hpe]; exact a2, fun w3 t3 hD3 => ?_⟩
     simp only [After]
     have hlx := q2.len
     replace q2 := Lib.hid (q2.nu (t3.dx (bs := [l]) (by simp)) (by intro b hb; obtain rfl : b = l := (by simpa using hb); exact Nu.lp a2))
     clear CI HD g3 g5 g6 g7 g8 g9 gm gn
     have g6 := a6.trn t3 e6.out
     have g7 := a7.trn t3 e7.out
     have g8 := a8.trn t3 e8.out
     have g9 := q1.trn t3 e9.out
     have HD := Lib.hid (a1.trn lW.out t3)
     replace sx := Lib.hid sx
     replace hD3 := Lib.hid hD3
     clear a1 a2 a5 a6 a7 a8 q1 q3 n_ a9 t3 lp bl bD hst hpe htm hpa has hbo d1 HD1 k3 k5 k6 k7 k8 k9
     go_wp2_with fail
     have nx9 : b9 ∉ [b6, b7, b8] := (by simp only [List.mem_cons, List.not_mem_nil, or_false, not_or]; exact ⟨n6_9.out.symm, n7_9.out.symm, n8_9.out.symm⟩)
     refine wp_region_picks [b6, b7, b8] [0, 1, 2, 3] 3 (by kernel_rfl) (by kernel_rfl) rfl (by kernel_rfl) ?_
     simp only [pickL, List.drop_succ_cons, List.drop_zero, List.take_succ_cons, List.take_zero, List.cons_append, List.nil_append]
     refine ⟨?_, ?_, ?_⟩
     rotate_left 1
     refine ⟨_, calx_pure (by rfl) (fun u => by go_simp; rfl), ?_⟩
     simp only [Act.put, tA, tS, tZ]
     refine ⟨_, calxStM g9 hlx nx9 (by rfl) rfl, ?_⟩
     simp only [Act.put, tA, tS, tZ]
     refine ⟨_, calx_pure (by rfl) (fun u => by go_simp; rfl), ?_⟩
     simp only [Act.put, tA, tS, tZ]
     refine ⟨_, calxInt (v := .int .i64 (M.cntn n.toNat s0 : Nat)) g9 nx9 Tryz.underlying3 (by rfl) rfl (stc_high hlx (i := 0) (by decide)), ?_⟩
     simp only [Act.put, tA, tS, tZ]
     exact rfl
     have e0 : Dx [b6, b7, b8] w3 w3.drew := Dn.dx (Dn.drawn _)
     have f6' := g6.dn (Dn.drawn w3)
     have f7' := g7.dn (Dn.drawn w3)
     have f8' := g8.dn (Dn.drawn w3)
     refine wpX_one 4 (by kernel_rfl) ?_
     refine x1_store 0 (vs := mach x) rfl f6' (.inl (by simp)) (info_mach hlx) (by rw [mach_size hlx, mach_size zlen]; omega) (mach_one _) rfl rfl e0 fun u1 y1 du1 t1 e1 z6 => ?_
     rw [lay_all (mach Mc.zero) (mach x) (by rw [mach_size hlx, mach_size zlen])] at z6
     replace f7' := (f7'.dn du1).trn t1 n6_7.out.symm
     replace f8' := (f8'.dn du1).trn t1 n6_8.out.symm
     clear f6' e0 t1 du1
     refine wpX_one 5 (by kernel_rfl) ?_
     refine x1_cell 0 (.int .i64 (M.cntn n.toNat s0 : Nat)) rfl rfl f7' (.inl (by simp)) infoI64 (by simp) rfl rfl rfl e1 fun u2 y2 du2 t2 e2 z7 => ?_
     replace z6 := (z6.dn du2).trn t2 n6_7.out
     replace f8' := (f8'.dn du2).trn t2 n7_8.out.symm
     clear f7' e1 t2 du2
     refine wpX_one 6 (by kernel_rfl) ?_
     refine x1_cell 0 (.bool false) rfl rfl f8' (.inl (by simp)) infoBool (by simp) rfl rfl rfl e2 fun u3 y3 du3 t3 e3 z8 => ?_
     replace z6 := (z6.dn du3).trn t3 n6_8.out
     replace z7 := (z7.dn du3).trn t3 n7_8.out
     clear f8' e2 t3 du3
     refine wpX_end (by kernel_rfl) fun w4 dx => NoPanic.normal ?_
     replace z6 := z6.dn dx
     have z7 : Blk w4 b7 3 #[.int .i64 (M.cntn n.toNat s0 : Nat)] := z7.dn dx
     have z8 : Blk w4 b8 4 #[.bool false] := z8.dn dx
     have HY := e3.trans (Dn.dx dx)
     clear e3 dx
     have nu : ∀ b ∈ [b6, b7, b8], Nu w3 b := by
       intro b hb
       simp only [List.mem_cons, List.not_mem_nil, or_false] at hb
       rcases hb with rfl | rfl | rfl
       all_goals first | exact Nu.blk g6 (NoU8.mach _) | exact Nu.blk g7 (NoU8.one (by intro x h; cases h)) | exact Nu.blk g8 (NoU8.one (by intro x h; cases h))
     replace HD := Lib.hid (HD.out.of_dx HY (by intro b hb; simp only [List.mem_cons, List.not_mem_nil, or_false] at hb; rcases hb with rfl | rfl | rfl; all_goals first | exact HL6.out | exact HL7.out | exact HL8.out))
     replace q2 := Lib.hid (q2.out.nu HY nu)
     replace hD3 := Lib.hid ((HY.block _ (by have := hD3.out; exact (Array.getElem?_eq_some_iff.1 this).1) (by simp only [List.mem_cons, List.not_mem_nil, or_false, not_or]; exact ⟨d6.out.symm, d7.out.symm, d8.out.symm⟩)).trans hD3.out)
     clear g6 g7 g8 g9 HY nu
     go_wp2_with fail
     refine ⟨_, rfl, hD3.out, fun w5 t5 => ?_⟩
     refine retMIB rfl rfl rfl rfl (z6.trn t5 d6.out) hlx (z7.trn t5 d7.out) (z8.trn t5 d8.out) ?_ rfl
     rw [en.out]
     exact ⟨x, rfl, Lib.hid (q2.out.mark hD3.out t5), sx, HD.out.trn wDD.out t5⟩
   · refine ⟨v, .done, some .ret, rfl, by simp, a2, fun w3 t3 hD3 => ?_⟩
     have en := Lib.hid (M.unt_is p n.toNat i s0 hi a9 a4)
     simp only [After]
     have hlx := q4.len
     replace q4 := Lib.hid (q4.nu (t3.dx (bs := [l]) (by simp)) (by intro b hb; obtain rfl : b = l := (by simpa using hb); exact Nu.lp a2))
     clear CI HD g3 g5 g6 g7 g8 g9 gm gn
     have z6 := q1.trn t3 e6.out
     have z7 := q2.trn t3 e7.out
     have z8 := q3.trn t3 e8.out
     have HD := Lib.hid (a1.trn lW.out t3)
     have sx := Lib.hid q5
     replace hD3 := Lib.hid hD3
     clear a1 a2 a4 q1 q2 q3 q5 a9 t3 lp bl bD hst hpe htm hpa has hbo d1 HD1 hi k3 k5 k6 k7 k8 k9
     go_wp2_with fail
     refine ⟨_, rfl, hD3.out, fun w5 t5 => ?_⟩
     refine retMIB rfl rfl rfl rfl (z6.trn t5 d6.out) hlx (z7.trn t5 d7.out) (z8.trn t5 d8.out) ?_ rfl
     rw [en.out]
     exact ⟨x, rfl, Lib.hid (q4.out.mark hD3.out t5), sx, HD.out.trn wDD.out t5⟩

def Orw (w : World) (lo : Nat) (e : TypeId) (s : Nat) (v : Value) (n : Nat) (xs : List Value) : Prop :=
 xs.length = n * s ∧ ((v = .slice none 0 0 ∧ n = 0) ∨ ∃ g cap cur, v = .slice (some ⟨g, 0, none⟩) n cap ∧ lo ≤ g ∧ Blk w g e cur ∧ n ≤ cap ∧ cap ≤ maxLen ∧ cur.size = cap * s ∧ cur.toList.take (n * s) = xs ∧ NoU8 cur)
section
variable {w w' : World} {lo lo' : Nat} {e : TypeId} {s : Nat} {v u : Value} {n m : Nat} {xs ys : List Value} {bs : List Nat} {b : Nat}
theorem Orw.nil (w : World) (lo : Nat) (e : TypeId) (s : Nat) : Orw w lo e s (.slice none 0 0) 0 [] := ⟨by simp, .inl ⟨rfl, rfl⟩⟩
theorem Orw.owns (h : Orw w lo e s v n xs) : w.ownsRow lo e s v n xs := by
 refine ⟨h.1, ?_⟩
 rcases h.2 with h0 | ⟨g, cap, cur, h1, h2, h3, h4, h5, h6, h7, _⟩
 · exact .inl h0
 · exact .inr ⟨g, cap, cur, h1, h2, h3, h4, h5, h6, h7⟩
theorem Orw.of_owns (h : w.ownsRow lo e s v n xs) (hN : ∀ g cs, v.ownBlock = some g → Blk w g e cs → NoU8 cs) : Orw w lo e s v n xs := by
 refine ⟨h.1, ?_⟩
 rcases h.2 with h0 | ⟨g, cap, cur, rfl, h2, h3, h4, h5, h6, h7⟩
 · exact .inl h0
 · exact .inr ⟨g, cap, cur, rfl, h2, h3, h4, h5, h6, h7, hN g cur rfl h3⟩
theorem Orw.lt (h : Orw w lo e s v n xs) {k : Nat} (hk : v.ownBlock = some k) : lo ≤ k ∧ k < w.heap.size := h.owns.lt k hk
theorem Orw.mono (h : Orw w lo e s v n xs) (hl : lo' ≤ lo) : Orw w lo' e s v n xs := by
 refine ⟨h.1, ?_⟩
 rcases h.2 with h0 | ⟨g, cap, cur, h1, h2, h3⟩
 · exact .inl h0
 · exact .inr ⟨g, cap, cur, h1, Nat.le_trans hl h2, h3⟩
theorem Orw.dx (h : Orw w lo e s v n xs) (d : Dx bs w w') (hn : ∀ b ∈ bs, v.ownBlock ≠ some b) : Orw w' lo e s v n xs := by
 refine ⟨h.1, ?_⟩
 rcases h.2 with h0 | ⟨g, cap, cur, rfl, h2, h3, h4⟩
 · exact .inl h0
 · exact .inr ⟨g, cap, cur, rfl, h2, h3.dx d (fun hm => hn g hm rfl), h4⟩
theorem Orw.dn (h : Orw w lo e s v n xs) (d : Dn w w') : Orw w' lo e s v n xs := h.dx (bs := []) d.dx (by simp)
theorem Orw.trn (h : Orw w lo e s v n xs) (t : Trn b w w') (hn : v.ownBlock ≠ some b) : Orw w' lo e s v n xs :=
 h.dx (bs := [b]) (t.dx (by simp)) (by intro c hc; obtain rfl : c = b := (by simpa using hc); exact hn)
theorem Orw.nu (h : Orw w lo e s v n xs) {k : Nat} (hk : v.ownBlock = some k) : Nu w k := by
 rcases h.2 with ⟨rfl, _⟩ | ⟨g, cap, cur, rfl, h2, h3, h4, h5, h6, h7, h8⟩
 · cases hk
 · simp [Value.ownBlock] at hk
   subst hk
   exact Nu.blk h3 h8
theorem Orw.ne (h : Orw w lo e s v n xs) (hb : w.heap.size ≤ b) : v.ownBlock ≠ some b := fun hk => absurd (h.lt hk).2 (by omega)
theorem Orw.lit {cs : Array Value} (hn : New w w' b e cs) (hs : cs.size = n * s) (h8 : NoU8 cs) (hm : n ≤ maxLen) : Orw w' w.heap.size e s (.slice (some ⟨b, 0, none⟩) n n) n cs.toList :=
 ⟨by simpa using hs, .inr ⟨b, n, cs, rfl, hn.lo, hn.blk, Nat.le_refl _, hm, hs, by rw [← hs, List.take_of_length_le (by simp)], h8⟩⟩
end
theorem NoU8.app {a b : Array Value} (ha : NoU8 a) (hb : NoU8 b) : NoU8 (a ++ b) := by
 intro i x h
 rw [Array.getElem?_append] at h
 split at h
 · exact ha i x h
 · exact hb _ x h
theorem NoU8.list {l : List Value} (h : ∀ y ∈ l, ∀ x, y ≠ .int .u8 x) : NoU8 l.toArray := by
 intro i x hx
 rw [List.getElem?_toArray] at hx
 exact h _ (List.mem_of_getElem? hx) x rfl
theorem NoU8.mem {a : Array Value} (h : NoU8 a) {y : Value} (hy : y ∈ a.toList) (x : Int) : y ≠ .int .u8 x := by
 rintro rfl
 obtain ⟨i, hi⟩ := List.mem_iff_getElem?.1 hy
 exact h i x (by simpa using hi)
theorem NoU8.zeroCells {z : Array Value} (h : NoU8 z) (k : Nat) : NoU8 (Builtin.zeroCells z k) := by
 intro i x hx
 unfold Builtin.zeroCells at hx
 rw [Array.getElem?_map] at hx
 obtain ⟨j, hj, e⟩ := Option.map_eq_some_iff.1 hx
 have hlt : j < k * z.size := by
   have := Array.mem_of_getElem? hj
   simpa using this
 have hz : 0 < z.size := by
   rcases Nat.eq_zero_or_pos z.size with h0 | h0
   · rw [h0] at hlt; omega
   · exact h0
 have hm := Nat.mod_lt j hz
 rw [getElem!_pos z (j % z.size) hm] at e
 exact h (j % z.size) x (by rw [Array.getElem?_eq_getElem hm, e])
theorem Blk.last {w : World} {e : TypeId} {cs ds : Array Value} (h : Blk (w.drew.alloc (.cells ds e)) w.heap.size e cs) : ds = cs := by
 have h2 := heap_alloc_last w.drew (.cells ds e)
 unfold Blk at h
 rw [show w.heap.size = w.drew.heap.size from rfl, h2] at h
 injection h with h
 injection h
theorem grownBy_dx {w w' : World} {row : Option Nat} (h : w.grownBy w' row) : Dx row.toList w w' :=
 ⟨h.os, h.tape, h.output, h.size, fun i hi hn => h.block i hi (fun e => hn (by rw [← e]; simp))⟩
theorem run_append_orw {P : Program} {w : World} {lo lo2 : Nat} (t ty e : TypeId) (i : TypeInfo) (z : Value) (s bytes : Nat) (ht : P.underlying t = some (.slice e)) (hi : P.info? e = some i) (hz : i.zero = some z) (hsize : i.size = s) (hby : i.bytes = bytes) (hzs : z.cells.size = s) (hsz : 0 < s) (hzn : NoU8 z.cells) (hbt : bytes ≤ 1000)
   {v u : Value} {n m : Nat} {xs ys : List Value} (ho : Orw w lo e s v n xs) (hu : Orw w lo2 e s u m ys) (h1 : ∀ y ∈ ys, y.oneCell' = true) (hn : n + m ≤ 100000) (hb : lo ≤ w.heap.size) :
   ∃ v' w', (Builtin.append_ #[t, t] ty #[v, u]).run P w = .ok v' w' ∧ Orw w' lo e s v' (n + m) (xs ++ ys) ∧ Dx v.ownBlock.toList w w' ∧ (∀ p, v'.ownBlock = some p → v.ownBlock = some p ∨ w.heap.size ≤ p) := by
 rcases hu.2 with ⟨rfl, rfl⟩ | ⟨g2, cap2, cur2, rfl, b2, k2, c2, m2, s2, t2, n2⟩
 · have h0 : ys = [] := List.eq_nil_of_length_eq_zero (by rw [hu.1]; omega)
   subst h0
   refine ⟨v, w, ?_, by simpa using ho, Dx.refl _ _, fun p hp => .inl hp⟩
   rcases ho.2 with ⟨rfl, rfl⟩ | ⟨g, cap, cur, rfl, hbg, hg, hnc, _⟩
   · simp [Builtin.append_, run_underlying ht, sizeOf, typeInfo, hi, Builtin.lenOf, Builtin.firstCells]
   · simp [Builtin.append_, run_underlying ht, sizeOf, typeInfo, hi, Builtin.lenOf, Builtin.firstCells, loadCells, storeCells, hnc]
 · have hys : ∀ y ∈ ys, ∀ x, y ≠ .int .u8 x := fun y hy x => n2.mem (List.mem_of_mem_take (by rw [t2]; exact hy)) x
   have hcell := hu.owns.cells (g := g2) rfl
   obtain ⟨v', w', hr, hown, hgr, hnil⟩ := run_append_own (P := P) w lo t ty e i z s bytes ht hi hz hsize hby hzs hsz v n xs ho.owns ⟨g2, 0, none⟩ m cap2 ys hu.1 hcell h1 (by unfold maxLen; omega) (by
     have : (n + m) * bytes ≤ 100000 * 1000 := Nat.mul_le_mul hn hbt
     omega) hb
   have key : (∀ g cs, v'.ownBlock = some g → Blk w' g e cs → NoU8 cs) ∧ ∀ p, v'.ownBlock = some p → v.ownBlock = some p ∨ w.heap.size ≤ p := by
     subst hsize hby
     have hs := Src.ofSlice (P := P) w (size := i.size) ht ⟨g2, 0, none⟩ m cap2 ys hu.1 hcell h1
     have fit : ∀ old, old < n + m → Builtin.nextslicecap (n + m) old * i.bytes ≤ 281474976710656 := fun old ho => by
       have h1 := nextslicecap_le ho
       have h2 : Builtin.nextslicecap (n + m) old * i.bytes ≤ (2 * (n + m)) * 1000 := Nat.mul_le_mul h1 hbt
       omega
     rcases ho.2 with ⟨rfl, rfl⟩ | ⟨g, cap, cur, rfl, hbg, hg, hnc, hcm, hcs, htk, hn8⟩
     · rcases Nat.eq_zero_or_pos m with rfl | hm
       · obtain rfl := hnil.2 ⟨rfl, rfl⟩
         exact ⟨fun g cs h => absurd h (by simp [Value.ownBlock]), fun p h => absurd h (by simp [Value.ownBlock])⟩
       · have hr2 := run_append_grow_src (P := P) w t t ty e i z ht hi hz none 0 0 [] (run_firstCells_none _ _ _ _ _) _ m ys hs (by omega) (by omega) (fit 0 (by omega))
         rw [hr] at hr2
         injection hr2 with hv hw
         subst hv hw
         refine ⟨fun g cs hg hb => ?_, fun p hp => .inr (by simp [Value.ownBlock] at hp; omega)⟩
         simp [Value.ownBlock] at hg
         subst hg
         obtain rfl := Blk.last hb
         exact NoU8.app (NoU8.list hys) (NoU8.zeroCells hzn _)
     · rcases Nat.lt_or_ge cap (n + m) with hlt | hge
       · have hxs : ∀ x ∈ xs, ∀ y, x ≠ .int .u8 y := fun x hx y => hn8.mem (List.mem_of_mem_take (by rw [htk]; exact hx)) y
         have hr2 := run_append_grow_src (P := P) w t t ty e i z ht hi hz (some ⟨g, 0, none⟩) n cap xs (run_firstCells_some _ _ _ _ _ _ _ ho.1 (ho.owns.drew.cells (g := g) rfl)) _ m ys hs hlt (by omega) (fit cap hlt)
         rw [hr] at hr2
         injection hr2 with hv hw
         subst hv hw
         refine ⟨fun g cs hg hb => ?_, fun p hp => .inr (by simp [Value.ownBlock] at hp; omega)⟩
         simp [Value.ownBlock] at hg
         subst hg
         obtain rfl := Blk.last hb
         exact NoU8.app (NoU8.list fun y hy => by
           rcases List.mem_append.1 hy with h | h
           · exact hxs y h
           · exact hys y h) (NoU8.zeroCells hzn _)
       · have hr2 := run_append_room (P := P) w t ty e i ht hi g n cap cur hg ⟨g2, 0, none⟩ m cap2 ys hu.1 hcell h1 hge (by rw [hu.1, hcs, ← Nat.add_mul]; exact Nat.mul_le_mul_right _ hge)
         rw [hr] at hr2
         injection hr2 with hv hw
         subst hv hw
         refine ⟨fun g' cs hg' hb => ?_, fun p hp => .inl hp⟩
         simp [Value.ownBlock] at hg'
         subst hg'
         have hb2 := setRow_heap w g cur (cur.toList.take (n * i.size) ++ ys ++ cur.toList.drop (n * i.size + ys.length)).toArray e _ hg
         unfold Blk at hb
         rw [hb2] at hb
         injection hb with hb
         injection hb with hb
         subst hb
         refine NoU8.list fun y hy => ?_
         simp only [List.mem_append] at hy
         rcases hy with (h | h) | h
         · exact hn8.mem (List.mem_of_mem_take h)
         · exact hys y h
         · exact hn8.mem (List.mem_of_mem_drop h)
   exact ⟨v', w', hr, Orw.of_owns hown key.1, grownBy_dx hgr, key.2⟩

def trs (l : List (Int × Int)) : List Value := l.flatMap fun x => [.int .i64 x.1, .int .u32 x.2]
theorem trs_app (l k : List (Int × Int)) : trs (l ++ k) = trs l ++ trs k := by simp [trs]
theorem trs_mem {l : List (Int × Int)} {y : Value} (h : y ∈ trs l) : (∃ k, y = .int .i64 k) ∨ ∃ v, y = .int .u32 v := by
 unfold trs at h
 obtain ⟨x, _, h⟩ := List.mem_flatMap.1 h
 simp at h
 rcases h with rfl | rfl
 · exact .inl ⟨_, rfl⟩
 · exact .inr ⟨_, rfl⟩
theorem trs_one (l : List (Int × Int)) : ∀ y ∈ trs l, y.oneCell' = true := fun y h => by
 rcases trs_mem h with ⟨_, rfl⟩ | ⟨_, rfl⟩ <;> rfl
theorem trs_at : ∀ (l : List (Int × Int)) (i : Nat), i < l.length → ((trs l).drop (2 * i)).take 2 = [.int .i64 (l.getD i (0, 0)).1, .int .u32 (l.getD i (0, 0)).2]
 | [], i, h => absurd h (Nat.not_lt_zero _)
 | x :: l, 0, h => rfl
 | x :: l, i + 1, h => by
   show (([.int .i64 x.1, .int .u32 x.2] ++ trs l : List Value).drop (2 * (i + 1))).take 2 = _
   rw [show 2 * (i + 1) = 2 * i + 1 + 1 by omega]
   show ((trs l).drop (2 * i)).take 2 = _
   rw [trs_at l i (by simpa using h)]
   rfl
abbrev Tr (w : World) (lo : Nat) (v : Value) (l : List (Int × Int)) : Prop := Orw w lo 46 2 v l.length (trs l)
theorem Tr.nil (w : World) (lo : Nat) : Tr w lo (.slice none 0 0) [] := Orw.nil _ _ _ _
theorem Tr.form {w : World} {lo : Nat} {v : Value} {l : List (Int × Int)} (h : Tr w lo v l) : ∃ A c, v = .slice A l.length c := by
 rcases h.2 with ⟨rfl, h0⟩ | ⟨g, cap, cur, rfl, _⟩
 · exact ⟨none, 0, by rw [h0]⟩
 · exact ⟨_, cap, rfl⟩
theorem Tr.cells {w : World} {lo : Nat} {v : Value} {l : List (Int × Int)} (h : Tr w lo v l) : v.cells = #[v] ∧ v.oneCell' = true := by
 obtain ⟨A, c, rfl⟩ := h.form
 exact ⟨rfl, rfl⟩
theorem Tr.part {w : World} {lo : Nat} {v : Value} {l : List (Int × Int)} (h : Tr w lo v l) {i : Nat} (hi : i < l.length) :
   ∃ g cap cur, v = .slice (some ⟨g, 0, none⟩) l.length cap ∧ l.length ≤ cap ∧ Blk w g 46 cur ∧ cur.extract (2 * i) (2 * i + 2) = #[.int .i64 (l.getD i (0, 0)).1, .int .u32 (l.getD i (0, 0)).2] := by
 rcases h.2 with ⟨_, h0⟩ | ⟨g, cap, cur, rfl, h2, h3, h4, h5, h6, h7, _⟩
 · omega
 · refine ⟨g, cap, cur, rfl, h4, h3, ?_⟩
   apply Array.toList_inj.1
   rw [Array.toList_extract, List.extract_eq_take_drop]
   have e := trs_at l i hi
   rw [← h7, List.drop_take, List.take_take] at e
   rw [show 2 * i + 2 - 2 * i = 2 by omega]
   rw [show min 2 (l.length * 2 - 2 * i) = 2 by omega] at e
   exact e
theorem infoTr : (Tryz.prog.info? 46).map (fun i => (i.zero, i.size, i.bytes)) = some (some (.agg #[.int .i64 0, .int .u32 0]), 2, 16) := by kernel_rfl
theorem zeroSlT : (Tryz.prog.info? 39).map (fun i => (i.zero, i.size)) = some (some (.slice none 0 0), 1) := by kernel_rfl
theorem infoSlT : (Tryz.prog.info? 39).map (·.size) = some 1 := by kernel_rfl
theorem nou8_trap (k v : Int) : NoU8 #[.int .i64 k, .int .u32 v] := NoU8.trap k v
section
variable {ops : Array Oper} {rest : List Oper} {dst : Option Tmp} {x y : Operand} {ty : TypeId} {pos : String} {aft : Array Edge} {gd : Option (Nat × Bool)} {a : Act} {w : World} {Q : Exit → Act → World → Prop} {b : Nat} {lo lo2 : Nat} {v u : Value} {l k : List (Int × Int)}
theorem run_appT (ty : TypeId) (hv : Tr w lo v l) (hu : Tr w lo2 u k) (hn : l.length + k.length ≤ 100000) (hb : lo ≤ w.heap.size) :
   ∃ v' w', (Builtin.append_ #[39, 39] ty #[v, u]).run Tryz.prog w = .ok v' w' ∧ Tr w' lo v' (l ++ k) ∧ Dx v.ownBlock.toList w w' ∧ (∀ p, v'.ownBlock = some p → v.ownBlock = some p ∨ w.heap.size ≤ p) := by
 obtain ⟨i, hi, hz, hs, hby⟩ := info_parts infoTr
 obtain ⟨v', w', h1, h2, h3⟩ := run_append_orw (P := Tryz.prog) 39 ty 46 i _ 2 16 Tryz.underlying39 hi hz hs hby rfl (by decide) (nou8_trap 0 0) (by decide) hv hu (trs_one k) hn hb
 refine ⟨v', w', h1, ?_, h3⟩
 unfold Tr
 rw [List.length_append, trs_app]
 exact h2
theorem wpList_appT {o : Oper} (hw : Region.wanted o (yielded ops a.tmps) = true) (s x : Operand) (ho : o.op = .call { callee := .builtin .append, args := #[s, x], argTypes := #[39, 39] })
   (hv : Tr w lo v l) (hu : Tr w lo2 u k) (hn : l.length + k.length ≤ 100000) (hb : lo ≤ w.heap.size) (hs : a.eval s = v) (hx : a.eval x = u)
   (h : ∀ v' w', Tr w' lo v' (l ++ k) → Dx v.ownBlock.toList w w' → (∀ p, v'.ownBlock = some p → v.ownBlock = some p ∨ w.heap.size ≤ p) → wpList Tryz.prog ops Q rest (a.put o.dst v') w') : wpList Tryz.prog ops Q (o :: rest) a w := by
 obtain ⟨v', w', hr, h2, h3, h4⟩ := run_appT o.type hv hu hn hb
 unfold wpList
 rw [if_pos hw]
 refine .inl ?_
 unfold Oper.wp execOp
 simp only [ho, Go.resolve, invoke, builtin, Sem.run_bind, Sem.run_pure, Result.andThen_ok, List.map_toArray, List.map_cons, List.map_nil, hs, hx, hr]
 exact h v' w' h2 h3 h4
theorem wpList_appT' {s x : Operand} (hv : Tr w lo v l) (hu : Tr w lo2 u k) (hn : l.length + k.length ≤ 100000) (hb : lo ≤ w.heap.size) (hs : a.eval s = v) (hx : a.eval x = u)
   (h : ∀ v' w', Tr w' lo v' (l ++ k) → Dx v.ownBlock.toList w w' → (∀ p, v'.ownBlock = some p → v.ownBlock = some p ∨ w.heap.size ≤ p) → wpList Tryz.prog ops Q rest (a.put dst v') w') :
   wpList Tryz.prog ops Q (⟨dst, .call { callee := .builtin .append, args := #[s, x], argTypes := #[39, 39] }, ty, pos, aft, none⟩ :: rest) a w := wpList_appT rfl s x rfl hv hu hn hb hs hx h
theorem wpList_oneT {k v : Value} (hw : Region.wanted ⟨dst, .buildSlice 39 1 #[(0, x)], ty, pos, aft, gd⟩ (yielded ops a.tmps) = true) (hx : a.eval x = .agg #[k, v])
   (h : ∀ b w', New w w' b 46 #[k, v] → wpList Tryz.prog ops Q rest (a.put dst (.slice (some ⟨b, 0, none⟩) 1 1)) w') : wpList Tryz.prog ops Q (⟨dst, .buildSlice 39 1 #[(0, x)], ty, pos, aft, gd⟩ :: rest) a w := by
 obtain ⟨i, hi, hz, hs, hby⟩ := info_parts infoTr
 have hfill : Instr.fill (fun j => some (j * i.size, i.size)) ((Array.range (1 * i.size)).map ((Value.agg #[.int .i64 0, .int .u32 0]).cells[· % (Value.agg #[.int .i64 0, .int .u32 0]).cells.size]!)) [(0, .agg #[k, v])] = some #[k, v] := by
   rw [hs]
   generalize hq : Array.map (fun (x : Nat) => (Value.agg #[.int .i64 0, .int .u32 0]).cells[x % (Value.agg #[.int .i64 0, .int .u32 0]).cells.size]!) (Array.range (1 * 2)) = cs
   have hc : cs.size = 2 := by rw [← hq]; simp
   rw [fill_step (vs := #[k, v]) (o := 0) (n := 2) rfl rfl rfl (by omega), lay_all cs #[k, v] (by rw [hc]; rfl)]
   simp [Instr.fill]
 unfold wpList
 rw [if_pos hw]
 refine .inl ?_
 unfold Oper.wp execOp
 have hp : (#[(0, x)].map fun (p : Nat × Operand) => (p.1, a.eval p.2)) = #[(0, .agg #[k, v])] := by simp [hx]
 simp only [hp, Sem.run_bind, run_buildSlice w 39 46 1 #[(0, .agg #[k, v])] #[k, v] i (.agg #[.int .i64 0, .int .u32 0]) Tryz.underlying39 hi hz (by rw [hs]; decide) (by rw [hs]; decide) hfill, Result.andThen_ok]
 exact h _ _ (New.mk' w _ _)
theorem loadS1 {s e : TypeId} {t : TypeId} (g : Blk w b t #[v]) (hu : Tryz.prog.underlying s = some (.slice e)) (hw : Region.wanted ⟨dst, .load s x, ty, pos, aft, gd⟩ (yielded ops a.tmps) = true) (hx : a.eval x = .pointer (some ⟨b, 0, none⟩))
   (h : wpList Tryz.prog ops Q rest (a.put dst v) w) : wpList Tryz.prog ops Q (⟨dst, .load s x, ty, pos, aft, gd⟩ :: rest) a w := by
 unfold wpList
 rw [if_pos hw]
 refine .inl ?_
 unfold Oper.wp execOp
 simp only [hx, Instr.loadAt, Instr.sureAddr, Sem.run_bind, Sem.run_pure, Result.andThen_ok, run_loadS hu w (g.cell (i := 0) rfl)]
 exact h
theorem storeS1 {s : TypeId} {t : TypeId} {v' : Value} (g : Blk w b t #[v]) (hc : v'.cells = #[v'] ∧ v'.oneCell' = true) (hi : (Tryz.prog.info? s).map (·.size) = some 1)
   (hw : Region.wanted ⟨none, .store s x y, ty, pos, aft, gd⟩ (yielded ops a.tmps) = true) (hx : a.eval x = .pointer (some ⟨b, 0, none⟩)) (hy : a.eval y = v')
   (h : ∀ w', Blk w' b t #[v'] → Trn b w w' → wpList Tryz.prog ops Q rest a w') : wpList Tryz.prog ops Q (⟨none, .store s x y, ty, pos, aft, gd⟩ :: rest) a w :=
 wpList_store_cell 0 v' hc.1 g hi (by simp) hc.2 hw hx hy fun w' r t => h w' r t
end
theorem Tr.lit {w w' : World} {b : Nat} {k v : Int} (n : New w w' b 46 #[.int .i64 k, .int .u32 v]) : Tr w' w.heap.size (.slice (some ⟨b, 0, none⟩) 1 1) [(k, v)] :=
 Orw.lit n rfl (nou8_trap k v) (by unfold maxLen; omega)

set_option maxRecDepth 100000 in
set_option maxHeartbeats 2000000 in
theorem rnTraps (m : Mc) (n : Int) (W : World) (hm : m.Ok W) (hs : m.xs.length ≤ 100000) (hy : m.ys.length + n.toNat ≤ 100000) (hn : n.toNat ≤ 90000) (n0 : -9223372036854775808 ≤ n) (n1 : n < 9223372036854775808) (T : Env2 W) :
   Calls Tryz.prog 16 #[.agg (mach m), .int .i64 n] W fun e W' => ∃ v, e = .returned v ∧ Hid (Tr W' W.heap.size v (M.trn n.toNat (M.st0 m))) ∧ Dn W W' := by
 have hl := hm.len
 obtain ⟨s0, hs0⟩ : ∃ s0, M.st0 m = s0 := ⟨_, rfl⟩
 rw [hs0]
 have CS := Lib.hid fun w => rnStates m n w
 have CI := Lib.hid fun bm bn l w ow gm gn dw J Jx a b c => rnIter bm bn l m n W w ow gm gn dw T hs hy n0 n1 s0 hs0.symm J Jx a b c
 have HD := Lib.hid (Dn.refl W)
 replace hm := Lib.hid hm
 clear hs hy
 refine calls_of_marks Tryz.func16 rfl ?_
 simp only [Tryz.ntmps16, List.size_toArray, List.length_cons, List.length_nil, Nat.reduceAdd, Nat.reduceSub, Array.replicate_succ, Array.replicate_zero, List.push_toArray, List.append_toArray, List.nil_append, List.cons_append]
 go_wp2_with (first | ((with_reducible refine wpList_box (vs := (mach m)) ?_ ?_ ?_); rfl; rfl; intro b2 w' nn; refine Hid.out ?_))
 refine Lib.hid ?_
 have HL2 : Hid (W.heap.size ≤ b2) := Lib.hid (Blk.hi nn HD.out.size)
 have d' := nn.dn
 replace HD := hT HD d'
 have g2 := nn.blk
 clear d' nn
 go_wp2_with (first | ((with_reducible refine wpList_alloc1 rfl zeroSlT ?_ ?_); rfl; intro b5 w' nn; refine Hid.out ?_))
 refine Lib.hid ?_
 have n2_5 := Lib.hid (nn.ne _ g2.lt)
 have HL5 : Hid (W.heap.size ≤ b5) := Lib.hid (Blk.hi nn HD.out.size)
 have d' := nn.dn
 replace HD := hT HD d'
 replace g2 := g2.dn d'
 have g5 := nn.blk
 clear d' nn
 go_wp2_with (first | ((with_reducible refine load33 g2 hl ?_ ?_ ?_); rfl; rfl) | (go_at_call 18; (with_reducible refine (CS.out _).mono ?_); rintro e w' ⟨bm, bn, rfl, gm, gn, hbm, hbn, d'⟩; refine Hid.out ?_))
 refine Lib.hid ?_
 have nn2 := Lib.hid (Nat.ne_of_lt (Nat.lt_of_lt_of_le g2.lt hbn.out))
 have nn5 := Lib.hid (Nat.ne_of_lt (Nat.lt_of_lt_of_le g5.lt hbn.out))
 replace HD := hT HD d'
 replace g2 := g2.dn d'
 replace g5 := g5.dn d'
 clear d' hbm hbn CS
 go_wp2_with fail
 refine wp_range 21 #[.pointer (some ⟨bm, 0, none⟩), .pointer (some ⟨bn, 0, none⟩)] rfl enter_states ?_
 intro r l w1 hst hpe htm hpa has hbo hD hl1 d1 lp
 have HD1 := HD.out.trans d1
 have e2 : Hid (b2 ≠ l) := Lib.hid (by have := g2.lt; omega)
 have f2 : Hid (b2 ≠ r.defers) := Lib.hid (by have := g2.lt; omega)
 have k2 : b2 < w1.heap.size := (g2.dn d1).lt
 have e5 : Hid (b5 ≠ l) := Lib.hid (by have := g5.lt; omega)
 have f5 : Hid (b5 ≠ r.defers) := Lib.hid (by have := g5.lt; omega)
 have k5 : b5 < w1.heap.size := (g5.dn d1).lt
 have eN : Hid (bn ≠ l) := Lib.hid (by have := gn.out.lt; omega)
 have lW : Hid (W.heap.size ≤ l) := Lib.hid (by have := HD.out.size; omega)
 have bl := lp.lt
 have bD := lp.ltD
 have bnw : Hid (bn < w1.heap.size) := Lib.hid (gn.out.dn d1).lt
 refine (CI.out bm bn l w1 (hm.out.dn HD1) (gm.out.dn d1) (gn.out.dn d1) HD1 (fun bs i w => Dn W w ∧ Lp r w l ∧ (∃ v, Blk w b5 39 #[v] ∧ Tr w W.heap.size v (M.trn (i - 1) s0) ∧ v.ownBlock ≠ some bs ∧ v.ownBlock ≠ some bn ∧ v.ownBlock ≠ some b5 ∧ v.ownBlock ≠ some l ∧ v.ownBlock ≠ some r.defers) ∧ b5 ≠ bs ∧ l ≠ bs ∧ r.defers ≠ bs) (fun _ _ => False) ?_ ?_ ?_).mono ?_
 · intro bs w d hbs
   exact ⟨HD1.trans d, lp.dx (bs := []) d.dx (by simp) (by simp), ⟨.slice none 0 0, (g5.dn d1).dn d, Tr.nil _ _, by simp [Value.ownBlock], by simp [Value.ownBlock], by simp [Value.ownBlock], by simp [Value.ownBlock], by simp [Value.ownBlock]⟩, by omega, by omega, by omega⟩
 · rintro bs i w w2 hbs ⟨a1, a2, ⟨v, q1, q2, q3, q4, q5, q6, q7⟩, n1, n2, n3⟩ dx nu
   have h1 : ∀ b ∈ [bs], W.heap.size ≤ b := by
     intro b hb
     obtain rfl : b = bs := by simpa using hb
     have := HD1.size
     omega
   exact ⟨a1.of_dx dx h1, a2.dx dx (by simpa using n2) (by simpa using n3), ⟨v, q1.dx dx (by simpa using n1), q2.dx dx (by intro b hb; obtain rfl : b = bs := (by simpa using hb); exact q3), q3, q4, q5, q6, q7⟩, n1, n2, n3⟩
 · rintro bs i x k v w hbs hbw hi ⟨a1, a2, ⟨u0, q1, TV, q3, q4, q5, q6, q7⟩, n1, n2, n3⟩ aw ox sx ek ev hz
   clear g2 g5
   have hlx := ox.len
   have g5 := q1
   clear q1
   have ul : ∀ b ∈ b5 :: l :: u0.ownBlock.toList, Nu w b := by
     intro b hb
     simp only [List.mem_cons, Option.mem_toList] at hb
     rcases hb with rfl | rfl | hb
     · exact Nu.blk g5 (NoU8.one (by
         obtain ⟨A, c, rfl⟩ := TV.form
         intro x h; cases h))
     · exact Nu.lp a2
     · exact TV.nu hb
   have own := Lib.hid (show u0.ownBlock ≠ some bs ∧ u0.ownBlock ≠ some bn ∧ u0.ownBlock ≠ some b5 ∧ u0.ownBlock ≠ some l ∧ u0.ownBlock ≠ some r.defers from ⟨q3, q4, q5, q6, q7⟩)
   have n_ := Lib.hid (show b5 ≠ bs ∧ l ≠ bs ∧ r.defers ≠ bs from ⟨n1, n2, n3⟩)
   clear q3 q4 q5 q6 q7 n1 n2 n3
   have tn : M.trn i s0 = M.trn (i - 1) s0 ++ (if k = 0 then [] else [(k, v)]) := by
     cases i with
     | zero =>
       have k0 : k = 0 := by rw [ek, ← hs0]; rfl
       rw [if_pos k0]; rfl
     | succ j =>
       rw [M.trn_next (n := n.toNat) (by omega), ek, ev]; rfl
   have tl : (M.trn (i - 1) s0).length ≤ 100000 - 1 := by
     have h1 := M.trn_len (i - 1) s0
     have h2 := M.cntn_le (i - 1) s0
     have h3 := M.cntn_le n.toNat s0
     have h4 := hn
     omega
   replace tn := Lib.hid tn
   replace tl := Lib.hid tl
   replace hbw := Lib.hid hbw
   replace hz := Lib.hid hz
   have HX := Lib.hid (Dx.refl [l] w)
   clear k2 e2 f2 gm
   have wD := HD1.size
   refine round_at a2 hst hpe (by rw [hpa]; rfl) _ ?_
   rw [has, hpa, htm, fold_one]
   simp only [tA, tS, tZ]
   replace ek := Lib.hid ek
   replace ev := Lib.hid ev
   replace hbs := Lib.hid hbs
   replace a2 := Lib.hid a2
   replace wD := Lib.hid wD
   replace a1 := Lib.hid a1
   replace hi := Lib.hid hi
   replace ox := Lib.hid ox
   replace sx := Lib.hid sx
   replace ul := Lib.hid ul
   clear hst hpe htm hpa has hl1 d1 lp HD1 hD CI k5 bl bD aw
   have hge := Lib.hid (Nat.le_trans HD.out.size (Nat.le_refl w'.heap.size))
   refine region_in (Wide.round l) (lo_then fun ⟨_, _, h⟩ => h) rfl ?_
   go_wp2_with (first | ((with_reducible refine wpList_alloc zero36 ?_ ?_); rfl; intro b6 w' nn; refine Hid.out ?_))
   refine Lib.hid ?_
   have L6 : Hid (w.heap.size ≤ b6) := Lib.hid (Blk.hi nn (Nat.le_refl _))
   have nl6 := Lib.hid (nn.ne _ a2.out.lt)
   have nD6 := Lib.hid (nn.ne _ a2.out.ltD)
   have d' := nn.dn
   replace HX := Lib.hid (HX.out.trans d'.dx)
   replace a2 := Lib.hid (a2.out.dx (bs := []) d'.dx (by simp) (by simp))
   have g6 := nn.blk
   clear d' nn
   go_wp2_with (first | ((with_reducible refine storeSt (s' := (i : Int)) (k' := k) (v' := v) x hlx g6 zlen ?_ ?_ ?_ ?_); rfl; rfl; rfl; intro w' r' t'; refine Hid.out ?_))
   refine Lib.hid ?_
   replace HX := Lib.hid (HX.out.put t' L6.out)
   replace a2 := Lib.hid (a2.out.dx (t'.dx (bs := [b6]) (by simp)) (by simpa using nl6.out) (by simpa using nD6.out))
   clear t' g6
   have g6 := r'
   clear r'
   go_wp2_with fail
   refine ⟨a2.out, fun w2 t2 lp2 => ?_⟩
   replace HX := Lib.hid (HX.out.trans (t2.dx (by simp)))
   replace g6 := g6.trn t2 nl6.out.symm
   clear t2 a2
   replace lp2 := Lib.hid lp2
   rw [hbo]
   replace g5 := g5.dx HX.out (by simpa using e5.out)
   replace TV := TV.dx HX.out (by intro b hb; obtain rfl : b = l := (by simpa using hb); exact own.out.2.2.2.1)
   replace HX := Lib.hid (HX.out.more (cs := b5 :: l :: u0.ownBlock.toList) (by simp))
   replace TV := Lib.hid TV
   refine wpIn_block (wpIn_seq (region_in (Wide.round l) (lo_then (lo_block rpost_out)) rfl ?_))
   by_cases hk : k = 0
   · have hv := hz.out hk
     have q0 : ∀ w, (Op.equalIn 10000 46 (.agg #[.int .i64 k, .int .u32 v]) (.agg #[.int .i64 0, .int .u32 0])).run Tryz.prog w = .ok true w := by rw [hk, hv]; exact eqTrap_same 0 0
     rw [if_pos hk, List.append_nil] at tn
     clear hv hk
     go_wp2_with (first | ((with_reducible refine loadStT g6 hlx ?_ ?_ ?_); rfl; rfl))
     refine wpIn_cond_false rfl (wpIn_skip ?_)
     refine ⟨lp2.out, fun w5 t5 lp5 => ?_⟩
     replace HX := HX.out.trans (t5.dx (by simp))
     have TVb := TV
     have dw := a1.out.of_dx HX (by intro b hb; have hm := hb; simp only [List.mem_cons, Option.mem_toList] at hb; rcases hb with rfl | rfl | hb; all_goals first | exact HL5.out | exact lW.out | exact (TVb.out.lt hb).1)
     obtain ⟨n1, n2, n3⟩ := n_.out
     obtain ⟨q3, q4, q5, q6, q7⟩ := own.out
     refine ⟨⟨dw, _, HX, fun b hb => ?_⟩, (fun _ => ?_), fun h => by cases h⟩
     · have h1 := ul.out b hb
       simp only [List.mem_cons, Option.mem_toList] at hb
       rcases hb with rfl | rfl | hb
       · exact ⟨n1, nn5.out, h1⟩
       · exact ⟨n2, eN.out.symm, h1⟩
       · exact ⟨fun e => q3 (e ▸ hb), fun e => q4 (e ▸ hb), h1⟩
     · refine ⟨dw, lp5, ⟨u0, g5.trn t5 e5.out, ?_, q3, q4, q5, q6, q7⟩, n1, n2, n3⟩
       rw [Nat.add_sub_cancel, tn.out]
       exact TV.out.trn t5 q6
   · have q0 : ∀ w, (Op.equalIn 10000 46 (.agg #[.int .i64 k, .int .u32 v]) (.agg #[.int .i64 0, .int .u32 0])).run Tryz.prog w = .ok false w := eqTrap_no fun h => hk h.1
     rw [if_neg hk] at tn
     clear hk
     go_wp2_with (first | ((with_reducible refine loadStT g6 hlx ?_ ?_ ?_); rfl; rfl))
     clear q0
     refine wpIn_cond_true rfl (region_in (Wide.round l) (lo_block rpost_out) rfl ?_)
     go_wp2_with (first | ((with_reducible refine loadS1 g5 Tryz.underlying39 ?_ ?_ ?_); rfl; rfl) | ((with_reducible refine loadStT g6 hlx ?_ ?_ ?_); rfl; rfl) | ((with_reducible refine wpList_oneT (k := .int .i64 k) (v := .int .u32 v) ?_ ?_ ?_); rfl; rfl; intro bt w' nn; refine Hid.out ?_))
     refine Lib.hid ?_
     have TL := Lib.hid (Tr.lit nn)
     have d' := nn.dn
     replace HX := Lib.hid (HX.out.trans d'.dx)
     replace g5 := g5.dn d'
     replace lp2 := Lib.hid (lp2.out.dx (bs := []) d'.dx (by simp) (by simp))
     have TVb := TV
     replace TV := Lib.hid (TV.out.dn d')
     clear d' nn g6
     have wz : Hid (W.heap.size ≤ w'.heap.size) := Lib.hid (Nat.le_trans a1.out.size HX.out.size)
     go_wp2_with (first | (at_builtin; (with_reducible refine wpList_appT' TV.out TL.out (by have := tl.out; simp only [List.length_cons, List.length_nil]; omega) wz.out ?_ ?_ ?_); rfl; rfl; intro u1 w9 tv dv hp; refine Hid.out ?_))
     refine Lib.hid ?_
     have lt5 := g5.lt
     have ltl := lp2.out.lt
     have ltD := lp2.out.ltD
     have sz := HX.out.size
     replace HX := Lib.hid (HX.out.trans (dv.more fun b hb => List.mem_cons_of_mem _ (List.mem_cons_of_mem _ hb)))
     replace g5 := g5.dx dv (by simpa using own.out.2.2.1)
     replace lp2 := Lib.hid (lp2.out.dx dv (by simpa using own.out.2.2.2.1) (by show r.defers ∉ _; simpa using own.out.2.2.2.2))
     have nw : Hid (u1.ownBlock ≠ some bs ∧ u1.ownBlock ≠ some bn ∧ u1.ownBlock ≠ some b5 ∧ u1.ownBlock ≠ some l ∧ u1.ownBlock ≠ some r.defers) := by
       obtain ⟨q3, q4, q5, q6, q7⟩ := own.out
       have hb1 := hbw.out
       have ltD' : r.defers < w'.heap.size := ltD
       have h8 := hbs.out
       have h9 := bnw.out
       refine Lib.hid ⟨fun e => ?_, fun e => ?_, fun e => ?_, fun e => ?_, fun e => ?_⟩ <;> rcases hp _ e with h | h <;> first | exact absurd h q3 | exact absurd h q4 | exact absurd h q5 | exact absurd h q6 | exact absurd h q7 | omega
     replace tv := Lib.hid tv
     have uc := tv.out.cells
     clear dv hp lt5 ltl ltD sz TL TV
     go_wp2_with (first | ((with_reducible refine storeS1 g5 uc infoSlT ?_ ?_ ?_ ?_); rfl; rfl; rfl; intro w' r' t'; refine Hid.out ?_))
     refine Lib.hid ?_
     replace HX := Lib.hid (HX.out.trans (t'.dx (by simp)))
     replace tv := Lib.hid (tv.out.trn t' nw.out.2.2.1)
     replace lp2 := Lib.hid (lp2.out.dx (t'.dx (bs := [b5]) (by simp)) (by simpa using e5.out.symm) (by show r.defers ∉ [b5]; simpa using f5.out.symm))
     clear t' g5
     have g5 := r'
     clear r'
     go_wp2_with fail
     refine ⟨lp2.out, fun w5 t5 lp5 => ?_⟩
     replace HX := HX.out.trans (t5.dx (by simp))
     have dw := a1.out.of_dx HX (by intro b hb; have hm := hb; simp only [List.mem_cons, Option.mem_toList] at hb; rcases hb with rfl | rfl | hb; all_goals first | exact HL5.out | exact lW.out | exact (TVb.out.lt hb).1)
     obtain ⟨n1, n2, n3⟩ := n_.out
     obtain ⟨q3, q4, q5, q6, q7⟩ := own.out
     refine ⟨⟨dw, _, HX, fun b hb => ?_⟩, (fun _ => ?_), fun h => by cases h⟩
     · have h1 := ul.out b hb
       simp only [List.mem_cons, Option.mem_toList] at hb
       rcases hb with rfl | rfl | hb
       · exact ⟨n1, nn5.out, h1⟩
       · exact ⟨n2, eN.out.symm, h1⟩
       · exact ⟨fun e => q3 (e ▸ hb), fun e => q4 (e ▸ hb), h1⟩
     · obtain ⟨z3, z4, z5, z6, z7⟩ := nw.out
       refine ⟨dw, lp5, ⟨u1, g5.trn t5 e5.out, ?_, z3, z4, z5, z6, z7⟩, n1, n2, n3⟩
       rw [Nat.add_sub_cancel, tn.out]
       exact tv.out.trn t5 z6
 · have wDD : W.heap.size ≤ w'.heap.size := HD.out.size
   have d5 : b5 ≠ w'.heap.size := by have := f5.out; rwa [hD] at this
   replace d5 := Lib.hid d5
   replace wDD := Lib.hid wDD
   rintro e w2 ⟨⟨v, rfl⟩, ⟨bs, a1, a2, ⟨u0, q1, TV, q3, q4, q5, q6, q7⟩, n1, n2, n3⟩ | ⟨i, hi, f⟩⟩
   · rw [Nat.add_sub_cancel] at TV
     have en : M.trn (M.cntn n.toNat s0) s0 = M.trn n.toNat s0 := M.trn_cnt n.toNat s0
     rw [en] at TV
     refine ⟨v, .ready, none, rfl, by simp, by rw [loop_ready hst hpe]; exact a2, fun w3 t3 hD3 => ?_⟩
     simp only [After]
     clear CI HD g2 g5 gm gn
     have g5 := q1.trn t3 e5.out
     have HD := Lib.hid (a1.trn lW.out t3)
     replace TV := Lib.hid (TV.trn t3 q6)
     replace hD3 := Lib.hid hD3
     rw [hD] at q7
     replace q7 := Lib.hid q7
     clear a1 a2 q1 n1 n2 n3 q3 q4 q5 q6 t3 lp bl bD hst hpe htm hpa has hbo d1 HD1 en hD k2 k5
     go_wp2_with (first | ((with_reducible refine loadS1 g5 Tryz.underlying39 ?_ ?_ ?_); rfl; rfl))
     refine ⟨_, rfl, hD3.out, fun w5 t5 => ?_⟩
     refine bodyPost_ret (by simp [results, Tryz.results16, go_sem]; try rfl) rfl ?_
     exact ⟨u0, rfl, Lib.hid (TV.out.trn t5 q7.out), HD.out.trn wDD.out t5⟩
   · exact f.elim
end Go.Proofs.YtclpdjpaaagkdaaGreatDoor
